import PyProof.Rows.All
import Wide.All
import OpenK.AllK
import Wide.FinOn
import Lean
import PyProof.EqAt
import PyProof.EqKinds
import PyProof.TupleCall
import PySem.Challenge.RW_standtogether_k15_bars_looked_over
set_option Elab.async false
set_option linter.all false
set_option maxRecDepth 100000
set_option maxHeartbeats 4000000
section
open PySem PySem.Spec PyProof.Rows
theorem xwo{p:Prop}(h:p:=by omega):p:=h
theorem xws{p:Prop}(h:p:=by simp):p:=h
theorem xwk{p:Prop}(h:p:=by kernel_rfl):p:=h
theorem xwd{p:Prop}(h:p:=by decide):p:=h
theorem xwD{p:Prop}(h:p:=by decide +kernel):p:=h
theorem xwO{p:Prop}(h:p:=by first|exact Or.inl rfl|exact Or.inr rfl):p:=h
theorem xwV{p:Prop}(h:p:=by first|exact Or.inl rfl|exact Or.inr (Or.inl rfl)|exact Or.inr (Or.inr rfl)):p:=h
theorem xwA{p:Prop}(h:p:=by first|exact .inl rfl|exact .inr rfl|assumption):p:=h
theorem xwN{i:Nat}{l:List Nat}(h:l.contains i=false):i∉l:=fun m=>by rw[List.contains_iff_mem.mpr m] at h;cases h
def waa:=@Heap.get?_push_of_some
def wab:=@wpAny_bind
def wac:=@List.getElem?_eq_getElem
def wad:=@wpAny_pure
def wae:=@Bool.and_eq_true
def waf:=@List.size_toArray
def wah:=@List.mem_cons_of_mem
def wai:=@Heap.lt_size
def waj:=@Heap.get?_push_size
def wak:=@List.not_mem_nil
def wal:=@Nat.le_refl
def wam:=@List.getElem?_eq_some_iff
def wan:=@List.length_cons
def wao:=@List.getElem?_map
def wap:=@List.mem_cons
def war:=@decide_eq_true_eq
def was:=@Nat.lt_of_lt_of_le
def wat:=@decide_eq_true
def wau:=@List.mem_cons_self
def wav:=@List.length_append
def waw:=@decide_eq_false
def wax:=@List.mem_append
def waz:=@List.getElem?_set_self
def waA:=@List.mem_append_right
def waB:=@Option.some.inj
end
section
namespace L2
open PySem PySem.Spec PyProof.Rows
abbrev Key:=Sum Int Str
def zml:Key->Value->Bool
 |.inl k,v=>Value.isInt k v
 |.inr x,v=>Value.isStrOf x v
def keyH(w:World):Key->Int
 |.inl k=>hashInt k
 |.inr x=>hashStr w x
theorem zb8:∀{k:Key}{v:Value},zml k v=true->(∃ i t,k=Sum.inl i/\v=Value.int i t)\/(∃ x t,k=Sum.inr x/\v=Value.str x t)
 |.inl i,v,h=>by
  obtain ⟨t,e⟩:=Value.isInt_shape (k:=i) (v:=v) h
  exact .inl ⟨i,t,rfl,e⟩
 |.inr x,v,h=>by
  obtain ⟨t,e⟩:=Value.isStrOf_shape (x:=x) (v:=v) h
  exact .inr ⟨x,t,rfl,e⟩
theorem zpd(i:Int)(t:Tok):zml (.inl i) (.int i t)=true:=by simp[zml,Value.isInt]
theorem zpw(x:Str)(t:Tok):zml (.inr x) (.str x t)=true:=by simp[zml,Value.isStrOf]
theorem ztK(a b:Int):decide ((Sum.inl a:Key)=Sum.inl b)=(a == b):=by
 by_cases e:a=b
 ·subst e;simp
 ·have h:¬ (Sum.inl a:Key)=Sum.inl b:=fun q=>e (Sum.inl.inj q)
  rw[decide_eq_false h]
  exact (beq_eq_false_iff_ne.mpr e).symm
theorem zto(a b:Str):decide ((Sum.inr a:Key)=Sum.inr b)=decide (a=b):=by
 by_cases e:a=b
 ·subst e;simp
 ·have h:¬ (Sum.inr a:Key)=Sum.inr b:=fun q=>e (Sum.inr.inj q)
  rw[decide_eq_false h,decide_eq_false e]
theorem zu0(a:Int)(b:Str):decide ((Sum.inl a:Key)=Sum.inr b)=false:=waw (fun q=>nomatch q)
theorem zt6(a:Str)(b:Int):decide ((Sum.inr a:Key)=Sum.inl b)=false:=waw (fun q=>nomatch q)
def zbM(prog:Program)(w:World):PySem.KeyKind prog w Key where
 is:=zml
 hash:=keyH w
 inj:=fun v a b ha hb=>by
  rcases zb8 ha with ⟨i,t,rfl,rfl⟩|⟨x,t,rfl,rfl⟩
  ·rcases zb8 hb with ⟨j,u,rfl,e⟩|⟨y,u,rfl,e⟩
   ·injection e with e1 _;rw[e1]
   ·exact nomatch e
  ·rcases zb8 hb with ⟨j,u,rfl,e⟩|⟨y,u,rfl,e⟩
   ·exact nomatch e
   ·injection e with e1 _;rw[e1]
 byValue:=fun k v h=>by
  rcases zb8 h with ⟨i,t,rfl,rfl⟩|⟨x,t,rfl,rfl⟩ <;> rfl
 pyHash:=fun hv h=>by
  rcases zb8 hv with ⟨i,t,rfl,rfl⟩|⟨x,t,rfl,rfl⟩
  ·exact wpAny_pyHash_int h
  ·exact wpAny_pyHash_str h
 eqBool:=fun hu hv h=>by
  rcases zb8 hu with ⟨i,t,rfl,rfl⟩|⟨x,t,rfl,rfl⟩
  ·rcases zb8 hv with ⟨j,u,rfl,rfl⟩|⟨y,u,rfl,rfl⟩
   ·rw[ztK] at h;exact wpAny_eqBool_int h
   ·rw[zu0] at h;exact SeqAt.EqAt.int_str i t y u _ _ _ _ h
  ·rcases zb8 hv with ⟨j,u,rfl,rfl⟩|⟨y,u,rfl,rfl⟩
   ·rw[zt6] at h;exact SeqAt.EqAt.str_int x t j u _ _ _ _ h
   ·rw[zto] at h;exact wpAny_eqBool_str h
 «strs» := fun k x t v h=>by
  rcases zb8 h with ⟨i,u,rfl,e⟩|⟨y,u,rfl,e⟩
  ·exact nomatch e
  ·injection e with e1 _
   subst e1
   cases v <;> rfl
theorem zk1(prog:Program)(w:World)(i:Int)(t:Tok):(zbM prog w).is (.inl i) (.int i t)=true:=zpd i t
theorem zkR(prog:Program)(w:World)(x:Str)(t:Tok):(zbM prog w).is (.inr x) (.str x t)=true:=zpw x t
end L2
namespace L2
open PySem PySem.Spec PyProof.Rows
inductive V where
 |non|bl (b:Bool)|int (i:Int)|str (x:Str)|byt (b:Array UInt8)|flt (b:UInt64)|ref (a:Addr)|ty (n:String)
 deriving DecidableEq
def zbo:V->Value->Prop
 |.non,u=>u=Value.none
 |.bl b,u=>u=Value.bool b
 |.int i,u=>∃ t,u=Value.int i t
 |.str x,u=>∃ t,u=Value.str x t
 |.byt b,u=>∃ t,u=Value.bytes b t
 |.flt b,u=>∃ t,u=Value.float b t
 |.ref a,u=>u=Value.ref a
 |.ty n,u=>u=Value.type n
abbrev zbc:List V->List Value->Prop:=Paired zbo
theorem zbc.length{xs:List V}{us:List Value}(r:zbc xs us):xs.length=us.length:=Paired.length r
theorem zbc.get:∀{xs:List V}{us:List Value}{i:Nat}{x:V},zbc xs us->xs[i]? = some x->∃ u,us[i]? = some u/\zbo x u
 |_,_,_,_,.nil,e=>by simp at e
 |_,_,0,_,.cons r _,e=>by simp at e;subst e;exact ⟨_,rfl,r⟩
 |_,_,i+1,x,.cons _ t,e=>by
  obtain ⟨u,h1,h2⟩:=zbc.get (i:=i) (x:=x) t (by simpa using e)
  exact ⟨u,by simpa using h1,h2⟩
theorem zbc.set{x:V}{u:Value}(r:zbo x u):∀{xs:List V}{us:List Value}(i:Nat),zbc xs us->zbc (xs.set i x) (us.set i u)
 |_,_,_,.nil=>.nil
 |_,_,0,.cons _ t=>.cons r t
 |_,_,i+1,.cons q t=>.cons q (zbc.set r i t)
theorem zbc.append:∀{xs ys:List V}{us ws:List Value},zbc xs us->zbc ys ws->zbc (xs++ys) (us++ws)
 |_,_,_,_,.nil,s=>s
 |_,_,_,_,.cons r t,s=>.cons r (zbc.append t s)
theorem zbc.take:∀{xs:List V}{us:List Value}(n:Nat),zbc xs us->zbc (xs.take n) (us.take n)
 |_,_,0,_=>.nil
 |_,_,_+1,.nil=>.nil
 |_,_,n+1,.cons r t=>.cons r (zbc.take n t)
theorem zbc.drop:∀{xs:List V}{us:List Value}(n:Nat),zbc xs us->zbc (xs.drop n) (us.drop n)
 |_,_,0,r=>r
 |_,_,_+1,.nil=>.nil
 |_,_,n+1,.cons _ t=>zbc.drop n t
theorem zbc.none_of:∀{xs:List V}{us:List Value}{i:Nat},zbc xs us->xs[i]? = none->us[i]? = none:=fun {xs us i} r e=>by
 have h1:=r.length
 have h2:xs.length<=i:=List.getElem?_eq_none_iff.mp e
 exact List.getElem?_eq_none_iff.mpr xwo
def zme:Option V->Option Value->Prop
 |some v,some u=>zbo v u
 |none,none=>True
 |_,_=>False
def KV{κ:Type}:List (κ×V)->List (κ×Value)->Prop:=Paired fun (p:κ×V) (q:κ×Value)=>p.1=q.1/\zbo p.2 q.2
def kV:Key->V
 |.inl i=>.int i
 |.inr x=>.str x
inductive HO where
  |lst (xs:List V)
  |tup (xs:List V)
  |dK (kvs:List (Key×V))|dT (kvs:List (List Key×V))
  |set (S:Int->Bool) (n:Nat)
  |ins (C dx:Addr) (fs:List (Str×V))
  |own (x:Addr)
  |xd (fs:List (Str×V))
  |met (f x:Addr)
  |rng (lo hi:Int)
  |frz (o:Obj) (u:HO)
  |tbl (ps:Array Value)
  |ext (φ : Heap->Prop)
abbrev Hp:=Addr->Option HO
def upd(H:Hp)(a:Addr)(o:HO):Hp:=fun b=>if b=a then some o else H b
theorem zan{H:Hp}{a:Addr}{o:HO}:upd H a o a=some o:=by unfold upd;rw[if_pos rfl]
theorem zah{H:Hp}{a b:Addr}{o:HO}(h:b≠a):upd H a o b=H b:=by unfold upd;rw[if_neg h]
theorem zva{H:Hp}{a b:Addr}{o u:HO}(h:H a=some o)(h':H b=some u)(d:o≠u):a≠b:=by
 intro e;subst e;rw[h] at h';exact d (waB h')
theorem zak{H:Hp}{a b:Addr}{o:HO}(h:H a=some o)(h':H b=none):a≠b:=by
 intro e;subst e;rw[h] at h';cases h'
section
variable(P:Program)(w:World)
def zbO(H:Hp)(h:Heap)(a:Addr):HO->Prop
 |.lst xs=>xs.length<=sizeLine/\∃(its:List Value)(n:Nat),zbc xs its/\h.get? a=some { cls:=.type "list",data:=.seq its.toArray n }
 |.tup xs=>xs.length<=sizeLine/\∃ its:List Value,zbc xs its/\∃ n,h.get? a=some { cls:=.type "tuple",data:=.seq its.toArray n }
 |.dK kvs=>kvs.length<=sizeLine/\(a == sysModules)=false/\∃ vs,KV kvs vs/\h.DictOf (zbM P w) a vs
 |.dT kvs=>kvs.length<=sizeLine/\(a == sysModules)=false/\∃ xs:List (List Key×Addr×Value),
   Paired (fun (p:List Key×V) (q:List Key×Addr×Value)=>p.1=q.1/\H q.2.1=some (.tup (p.1.map kV))/\zbo p.2 q.2.2) kvs xs /\
   ∃ o es ep,h.get? a=some o/\o.ExactDict/\o.data=.dict es ep/\es.toList=xs.map (entryOfKey (tupleKind (zbM P w)))/\(xs.map (·.1)).Nodup
 |.set S n=>h.SetOf (intKind P w) a S n
 |.ins C dx fs=>H dx=some (.own a)/\fs.length<=1000/\dx≠a/\h.get? a=some (W.instObj C dx) /\
   ∃ mA,h.Ns1 dx mA/\(∀ f,zme (fs.lookup f) (mA f))/\PySem.Within mA (fs.map (·.1))
 |.own _=>∃ o,h.get? a=some o
 |.xd fs=>∃ mA,h.Ns1 a mA/\∀ f,zme (fs.lookup f) (mA f)
 |.rng lo hi=>∃ t u v,h.get? a=some { cls:=.type "range",data:=.fields #[.int lo t,.int hi u,.int 1 v] }
 |.frz o u=>h.get? a=some o/\zbO H h a u
 |.tbl ps=>h.get? a=some { cls:=.none,data:=.fields ps }
 |.met f x=>h.get? a=some (W.methodObj (.ref f) (.ref x))
 |.ext φ => φ h/\(∃ o,h.get? a=some o)/\∀ h1 h2:Heap,φ h1->(∀ o,h1.get? a=some o->h2.get? a=some o)->φ h2
def HOk(H:Hp)(h:Heap):Prop:=∀ a o,H a=some o->zbO P w H h a o
end
section
variable{P:Program}{w:World}{H H':Hp}{h h':Heap}{a:Addr}{o:HO}
theorem zbO.lt(x:zbO P w H h a o):a<h.objs.size:=by
 cases o with
 |lst xs=>obtain ⟨_,_,_,_,e⟩:=x;exact wai e
 |tup xs=>obtain ⟨_,_,_,_,e⟩:=x;exact wai e
 |dK kvs=>obtain ⟨_,_,_,_,o,_,_,e,_⟩:=x;exact wai e
 |dT kvs=>obtain ⟨_,_,_,_,o,_,_,e,_⟩:=x;exact wai e
 |set S n=>obtain ⟨o,_,_,_,e,_⟩:=x;exact wai e
 |ins C dx fs=>obtain ⟨_,_,_,e,_⟩:=x;exact wai e
 |own y=>obtain ⟨_,e⟩:=x;exact wai e
 |xd fs=>obtain ⟨_,⟨_,_,_,e,_⟩,_⟩:=x;exact wai e
 |rng lo hi=>obtain ⟨_,_,_,e⟩:=x;exact wai e
 |frz ob u=>obtain ⟨e,_⟩:=x;exact wai e
 |tbl ps=>exact wai (show h.get? a=some _ from x)
 |met f y=>exact wai (show h.get? a=some _ from x)
 |ext φ => obtain ⟨_,⟨_,e⟩,_⟩:=x;exact wai e
theorem Paired.mapP{α β:Type}{F G:α->β->Prop}:∀{l₁:List α}{l₂:List β},Paired F l₁ l₂->(∀ a b,F a b->G a b)->Paired G l₁ l₂
 |_,_,.nil,_=>.nil
 |_,_,.cons r t,f=>.cons (f _ _ r) (Paired.mapP t f)
theorem zbO.stay(x:zbO P w H h a o)(k:∀ b u,(b=a\/H b=some (.own a))->h.get? b=some u->h'.get? b=some u)
  (ho:∀ b,H b=some (.own a)->H' b=some (.own a)) (ht:∀ b xs,H b=some (.tup xs)->H' b=some (.tup xs)):zbO P w H' h' a o:=by
 induction o with
 |lst xs=>obtain ⟨z,its,n,r,e⟩:=x;exact ⟨z,its,n,r,k _ _ (.inl rfl) e⟩
 |tup xs=>obtain ⟨z,its,r,n,e⟩:=x;exact ⟨z,its,r,n,k _ _ (.inl rfl) e⟩
 |dK kvs=>obtain ⟨z,y,vs,r,ob,es,ep,e,c⟩:=x;exact ⟨z,y,vs,r,ob,es,ep,k _ _ (.inl rfl) e,c⟩
 |dT kvs =>
  obtain ⟨z,y,xs,r,ob,es,ep,e,c⟩:=x
  exact ⟨z,y,xs,Paired.mapP r fun p q z=>⟨z.1,ht _ _ z.2.1,z.2.2⟩,ob,es,ep,k _ _ (.inl rfl) e,c⟩
 |set S n=>obtain ⟨ob,es,ep,t,e,c⟩:=x;exact ⟨ob,es,ep,t,k _ _ (.inl rfl) e,c⟩
 |ins C dx fs =>
  obtain ⟨d,z,ne,e,mA,⟨od,es,ep,e2,c⟩,r⟩:=x
  exact ⟨ho _ d,z,ne,k _ _ (.inl rfl) e,mA,⟨od,es,ep,k _ _ (.inr d) e2,c⟩,r⟩
 |own y=>obtain ⟨ob,e⟩:=x;exact ⟨ob,k _ _ (.inl rfl) e⟩
 |xd fs=>obtain ⟨mA,⟨od,es,ep,e,c⟩,r⟩:=x;exact ⟨mA,⟨od,es,ep,k _ _ (.inl rfl) e,c⟩,r⟩
 |rng lo hi=>obtain ⟨t,u,v,e⟩:=x;exact ⟨t,u,v,k _ _ (.inl rfl) e⟩
 |frz ob u ih=>obtain ⟨e,q⟩:=x;exact ⟨k _ _ (.inl rfl) e,ih q⟩
 |tbl ps =>
  have e:h.get? a=some { cls:=.none,data:=.fields ps }:=x
  show h'.get? a=some { cls:=.none,data:=.fields ps }
  exact k a _ (.inl rfl) e
 |met f y =>
  have e:h.get? a=some (W.methodObj (.ref f) (.ref y)):=x
  show h'.get? a=some (W.methodObj (.ref f) (.ref y))
  exact k a _ (.inl rfl) e
 |ext φ => obtain ⟨p,⟨o,e⟩,st⟩:=x;exact ⟨st _ _ p fun o q=>k _ _ (.inl rfl) q,⟨o,k _ _ (.inl rfl) e⟩,st⟩
theorem HOk.lt(x:HOk P w H h)(e:H a=some o):a<h.objs.size:=(x a o e).lt
theorem HOk.fresh(x:HOk P w H h)(e:h.objs.size<=a):H a=none:=by
 cases q:H a with
 |none=>rfl
 |some u=>exact absurd (was (x.lt q) e) (Nat.lt_irrefl _)
theorem HOk.kept(x:HOk P w H h)(k:∀ b u,h.get? b=some u->h'.get? b=some u):HOk P w H h':=fun a o e =>
 (x a o e).stay (fun b u _ q=>k b u q) (fun _ q=>q) fun _ _ q=>q
theorem HOk.laid(x:HOk P w H h)(k:∀ b u,h.get? b=some u->h'.get? b=some u)(hp:h.objs.size<=a)(new:zbO P w (upd H a o) h' a o):HOk P w (upd H a o) h':=fun b u e=>by
 have hn:=x.fresh hp
 by_cases hb:b=a
 ·subst hb;rw[zan] at e;cases e;exact new
 ·rw[zah hb] at e
  exact (x b u e).stay (fun c v _ q=>k c v q) (fun c q=>by rw[zah (zak q hn)];exact q) fun c xs q=>by rw[zah (zak q hn)];exact q
end
def Rd(H:Hp)(a:Addr)(u:HO):Prop:=H a=some u\/∃ o,H a=some (.frz o u)
theorem Rd.of{H:Hp}{a:Addr}{u:HO}(h:H a=some u):Rd H a u:=.inl h
theorem Rd.ok{P:Program}{w:World}{H:Hp}{h:Heap}{a:Addr}{u:HO}(r:Rd H a u)(x:HOk P w H h):zbO P w H h a u:=by
 rcases r with r|⟨o,r⟩
 ·exact x a u r
 ·obtain ⟨_,q⟩:=x a _ r
  exact q
def Mut:Option HO->Prop
 |some (.lst _)=>True
 |some (.dK _)=>True
 |some (.dT _)=>True
 |some (.set _ _)=>True
 |some (.ins _ _ _)=>True
 |some (.ext _)=>True
 |_=>False
section
variable{P:Program}{w:World}{H:Hp}{h h':Heap}{x e:Addr}{o':HO}
theorem HOk.write(ok:HOk P w H h)(mu:Mut (H x))(he:e=x\/H e=some (.own x))(k:∀ b u,b≠e->h.get? b=some u->h'.get? b=some u)(heo:∃ u,h'.get? e=some u)
  (new:zbO P w (upd H x o') h' x o'):HOk P w (upd H x o') h':=fun b u q=>by
 have nown:∀ c y,H c=some (.own y)->c≠x:=fun c y r z=>by subst z;rw[r] at mu;exact mu
 have ntup:∀ c xs,H c=some (.tup xs)->c≠x:=fun c xs r z=>by subst z;rw[r] at mu;exact mu
 by_cases hb:b=x
 ·subst hb;rw[zan] at q;cases q;exact new
 ·rw[zah hb] at q
  by_cases hbe:b=e
  ·have q':H b=some (.own x):=by
    rcases he with z|z
    ·exact absurd (hbe.trans z) hb
    ·rw[hbe];exact z
   rw[q] at q';cases q'
   obtain ⟨v,hv⟩:=heo
   exact ⟨v,by rw[hbe];exact hv⟩
  ·refine (ok b u q).stay (fun c v hc r=>k c v ?_ r) (fun c r=>by rw[zah (nown c b r)];exact r) fun c xs r=>by rw[zah (ntup c xs r)];exact r
   rcases hc with rfl|hc
   ·exact hbe
   ·rintro rfl
    rcases he with z|z
    ·exact nown c b hc z
    ·rw[hc] at z;cases z;exact hb rfl
end
structure Un(fs ex:List Addr)(H H':Hp)(h h':Heap):Prop where
 keep:∀ b o,h.get? b=some o->H b=none->b∉fs->b∉ex->h'.get? b=some o
 slot:∀ b o,h.get? b=some o->H b=none->b∈fs->b∉ex->∃ sl,h'.get? b=some { o with slots:=sl }
 free:∀ b o,h.get? b=some o->H b=none->b∉ex->H' b=none
 there:∀ b o,h.get? b=some o->b∉ex->∃ o',h'.get? b=some o'
 tups:∀ b xs,H b=some (.tup xs)->H' b=some (.tup xs)
 frzs:∀ b o u,H b=some (.frz o u)->H' b=some (.frz o u)
 tbls:∀ b ps,H b=some (.tbl ps)->∃ more,H' b=some (.tbl (ps++more))
section
variable{fs fs' ex ex':List Addr}{H H1 H2:Hp}{h h1 h2 h':Heap}{a x e:Addr}{o:HO}
theorem Un.any(u:Un fs ex H H1 h h1){b:Addr}{ob:Obj}(q:h.get? b=some ob)(n:H b=none)(hx:b∉ex):∃ sl,h1.get? b=some { ob with slots:=sl }:=by
 by_cases hb:b∈fs
 ·exact u.slot b ob q n hb hx
 ·exact ⟨ob.slots,u.keep b ob q n hb hx⟩
theorem Un.trans(a:Un fs ex H H1 h h1)(b:Un fs ex H1 H2 h1 h2):Un fs ex H H2 h h2 where
 keep:=fun c ob q n hc hx=>b.keep c ob (a.keep c ob q n hc hx) (a.free c ob q n hx) hc hx
 slot:=fun c ob q n hc hx=>by
  obtain ⟨sl,e1⟩:=a.slot c ob q n hc hx
  obtain ⟨sl',e2⟩:=b.slot c _ e1 (a.free c ob q n hx) hc hx
  exact ⟨sl',e2⟩
 free:=fun c ob q n hx=>by
  obtain ⟨o',e1⟩:=a.there c ob q hx
  exact b.free c o' e1 (a.free c ob q n hx) hx
 there:=fun c ob q hx=>by
  obtain ⟨o',e1⟩:=a.there c ob q hx
  exact b.there c o' e1 hx
 tups:=fun c xs q=>b.tups c xs (a.tups c xs q)
 frzs:=fun c ob xs q=>b.frzs c ob xs (a.frzs c ob xs q)
 tbls:=fun c ps q=>by
  obtain ⟨m1,e1⟩:=a.tbls c ps q
  obtain ⟨m2,e2⟩:=b.tbls c _ e1
  exact ⟨m1++m2,by rw[e2,Array.append_assoc]⟩
theorem Un.kept(k:∀ b u,h.get? b=some u->h'.get? b=some u):Un fs ex H H h h' :=
 ⟨fun b ob q _ _ _=>k b ob q,fun b ob q _ _ _=>⟨ob.slots,k b ob q⟩,fun _ _ _ n _=>n,fun b ob q _=>⟨ob,k b ob q⟩,fun _ _ q=>q,fun _ _ _ q=>q,fun _ ps q=>⟨#[],by rw[q];simp⟩⟩
theorem Un.refl:Un fs ex H H h h:=Un.kept fun _ _ q=>q
theorem Un.laid(k:∀ b u,h.get? b=some u->h'.get? b=some u)(hp:h.objs.size<=a)(hn:H a=none):Un fs ex H (upd H a o) h h' where
 keep:=fun b u q _ _ _=>k b u q
 slot:=fun b u q _ _ _=>⟨u.slots,k b u q⟩
 free:=fun b u q n _=>by rw[zah (Nat.ne_of_lt (Nat.lt_of_lt_of_le (Heap.lt_size q) hp))];exact n
 there:=fun b u q _=>⟨u,k b u q⟩
 tups:=fun b xs q=>by rw[zah (zak q hn)];exact q
 frzs:=fun b u xs q=>by rw[zah (zak q hn)];exact q
 tbls:=fun b ps q=>⟨#[],by rw[zah (zak q hn),q];simp⟩
theorem Un.write(mu:Mut (H x))(he:e=x\/H e=some (.own x))(k:∀ b u,b≠e->h.get? b=some u->h'.get? b=some u)(heo:∃ u,h'.get? e=some u):Un fs ex H (upd H x o) h h':=by
 have hx:∀ b,H b=none->b≠x:=fun b n z=>by subst z;rw[n] at mu;exact mu
 have hb:∀ b,H b=none->b≠e:=fun b n z=>by
  subst z
  rcases he with r|r
  ·exact hx b n r
  ·rw[n] at r;cases r
 have hm:∀ b u,H b=some u->¬ Mut (some u)->b≠x:=fun b u q nm z=>by subst z;rw[q] at mu;exact nm mu
 refine ⟨fun b u q n _ _=>k b u (hb b n) q,fun b u q n _ _=>⟨u.slots,k b u (hb b n) q⟩,fun b u q n _=>by rw[zah (hx b n)];exact n,fun b u q _=>?_,
  fun b xs q=>by rw[zah (hm b _ q fun z=>z)];exact q,fun b u xs q=>by rw[zah (hm b _ q fun z=>z)];exact q,fun b ps q=>⟨#[],by rw[zah (hm b _ q fun z=>z),q];simp⟩⟩
 by_cases hbe:b=e
 ·subst hbe;exact heo
 ·exact ⟨u,k b u hbe q⟩
theorem Un.mono(u:Un fs ex H H1 h h1)(hs:∀ b∈fs,b∈fs')(hx:∀ b∈ex,b∈ex'):Un fs' ex' H H1 h h1 :=
 ⟨fun b ob q n hb he=>u.keep b ob q n (fun z=>hb (hs b z)) fun z=>he (hx b z),fun _ _ q n _ he=>u.any q n fun z=>he (hx _ z),fun b ob q n he=>u.free b ob q n fun z=>he (hx b z),fun b ob q he=>u.there b ob q fun z=>he (hx b z),u.tups,u.frzs,u.tbls⟩
end
def trk(h:Heap)(H:Hp):List Addr:=(List.range h.objs.size).filter fun a=>(H a).isSome
def znJ(h:Heap)(H:Hp):Heap:=W.hideAll h (trk h H)
theorem znD(h:Heap)(H:Hp):(znJ h H).objs.size=h.objs.size:=W.hideAll_size _ _
theorem zqY{h:Heap}{H:Hp}{b:Addr}{o:Obj}(e:h.get? b=some o)(n:H b=none):(znJ h H).get? b=some o :=
 W.hideAll_get _ e fun hm=>by
  have q:(H b).isSome=true:=(List.mem_filter.mp hm).2
  rw[n] at q;simp at q
theorem zs6{h:Heap}{H:Hp}{b:Addr}{o:Obj}(e:(znJ h H).get? b=some o):h.get? b=some o/\H b=none:=by
 have e':h.get? b=some o:=W.of_hideAll (trk h H) e
 refine ⟨e',?_⟩
 cases q:H b with
 |none=>rfl
 |some x =>
  have hm:b∈trk h H:=List.mem_filter.mpr ⟨List.mem_range.mpr (wai e'),by simp[q]⟩
  have z:(znJ h H).get? b=none:=W.hideAll_none (trk h H) hm
  rw[z] at e;cases e
def ztg(g h:Heap)(L:Addr):List (Addr×Obj):=(List.range h.objs.size).filterMap fun a=>if a=L\/(g.get? a).isSome=true then none else (h.get? a).map fun o=>(a,o)
def zaL(g h:Heap)(L d:Addr):List (Addr×Obj):=(ztg g h L).filter fun p=>decide (p.1≠d)
end L2
namespace L2
open PySem PySem.Spec PyProof.Rows
structure Mod(K:W.Frag)(mg:Str->Option Value)(base:Heap):Prop where
 kin:K.In base
 glob:base.Ns mainGlobals mg
 blt:∃ mb,base.Ns builtinsNs mb/\∀ x:Str,x≠"__name__"->mb x=bootBuiltins x
 nolimit:base.NoLimit
structure Cx where
 prog:Program
 w:World
 K:W.Frag
 mg:Str->Option Value
 base:Heap
 A:Around
 N:List Str
 s₀:Shared
 H₀:Hp
 env:Env
 outer:List Env
 stack:List Env
 ex:List Addr
 fn:Str->Bool
 calm:Bool
 pn:List (Addr×Obj)
 xe:Value->Shared->Prop
def frs(l:List Env):List Addr:=l.filterMap (·.frame)
abbrev Cx.fs(X:Cx):List Addr:=frs X.outer
def Vis(sc:Scope)(x:Str):Prop:=sc.names.lookup x=some .local\/sc.names.lookup x=some .cell\/sc.names.lookup x=some .free
def Loc(sc:Scope)(x:Str):Prop:=sc.names.lookup x=some .local\/sc.names.lookup x=some .cell
def Look(env:Env)(h:Heap)(m:Str->Option Value)(x:Str)(u:Value):Prop :=
 (env.kindOf x=some .local/\m x=some u)\/((env.kindOf x=some .cell\/env.kindOf x=some .free)/\∃ c,env.cells.lookup x=some c/\h.IsCell c (some u))
structure Cx.Ok(X:Cx):Prop where
 mod:Mod X.K X.mg X.base
 kind:X.env.scope.kind=.function
 glob:X.env.globals=mainGlobals
 blt:X.env.builtins=builtinsNs
 above:X.s₀.heap.objs.size<=X.env.locals
 inj:∀ x y c,X.env.cells.lookup x=some c->X.env.cells.lookup y=some c->x=y
 has:∀ x,(X.env.kindOf x=some .cell\/X.env.kindOf x=some .free)->∃ c,X.env.cells.lookup x=some c
 cab:∀ x c,X.fn x=true->X.env.cells.lookup x=some c->X.s₀.heap.objs.size<=c
 hd:X.calm=true->X.A.handled=none
 frames:X.A.frames=some X.stack
 stk:X.stack=X.outer\/(X.stack=X.env::X.outer/\X.env.frame=some X.env.locals)
 exf:∀ b∈X.ex,b≠X.env.locals/\∀ x c,X.env.cells.lookup x=some c->c≠b
 bs:∀ b o,X.base.get? b=some o->X.s₀.heap.get? b=some o/\X.H₀ b=none
 bsz:X.base.objs.size<=X.s₀.heap.objs.size
 noex:∀ b o,X.base.get? b=some o->b∉X.ex
 exfs:∀ b∈X.ex,b∉X.fs
 funs:X.s₀.heap.FunFrames X.base X.outer
 frf:∀ b∈X.fs,X.H₀ b=none
structure Inv(X:Cx)(pS:List (Addr×Obj))(Y:List (Option V))(H:Hp)(s:Shared):Prop where
 ok:X.Ok
 os:s.os=X.s₀.os
 bare:AllBare s.gens
 base:Un X.fs X.ex X.H₀ H X.s₀.heap s.heap
 loc:∃ m,s.heap.Ns X.env.locals m/\∀(i:Nat)(x:Str)(v:V),X.N[i]? = some x->Y[i]? = some (some v)->Vis X.env.scope x->∃ u,zbo v u/\Look X.env s.heap m x u
 cell:∀ x c,X.env.cells.lookup x=some c->∃ v,s.heap.IsCell c v
 free:H X.env.locals=none
 freeC:∀ x c,X.env.cells.lookup x=some c->H c=none
 pin:∀ p∈X.pn++pS,s.heap.get? p.1=some p.2/\H p.1=none/\p.1≠X.env.locals/\p.1∉X.fs/\∀ v,p.2.data≠.cell v
 hok:HOk X.prog X.w H s.heap
 len:Y.length=X.N.length
section
variable{X:Cx}{pS:List (Addr×Obj)}{Y:List (Option V)}{H H':Hp}{s:Shared}{h':Heap}
theorem Cx.Ok.nofr(ok:X.Ok){b:Addr}{o:Obj}(e:X.base.get? b=some o):b∉X.fs:=fun hb=>by
 have:=(ok.funs.mem hb).1
 rw[e] at this;cases this
theorem Inv.bs(I:Inv X pS Y H s):∀ b o,X.base.get? b=some o->s.heap.get? b=some o/\H b=none:=fun b o e =>
 ⟨I.base.keep b o (I.ok.bs b o e).1 (I.ok.bs b o e).2 (I.ok.nofr e) (I.ok.noex b o e),I.base.free b o (I.ok.bs b o e).1 (I.ok.bs b o e).2 (I.ok.noex b o e)⟩
theorem Inv.bk(I:Inv X pS Y H s):∀ b o,X.base.get? b=some o->s.heap.get? b=some o:=fun b o e=>(I.bs b o e).1
theorem Inv.mod(I:Inv X pS Y H s):Mod X.K X.mg X.base:=I.ok.mod
theorem Inv.kIn(I:Inv X pS Y H s):X.K.In s.heap:=I.ok.mod.kin.keeps I.bk
theorem Inv.nolimit(I:Inv X pS Y H s):s.heap.NoLimit:=I.ok.mod.nolimit.keeps I.bk
theorem Inv.fr(I:Inv X pS Y H s):∃ m,Fr X.base X.env.locals s.heap m :=
 let ⟨m,hn,_⟩:=I.loc
 ⟨m,hn,I.bk,Nat.le_trans I.ok.bsz I.ok.above⟩
theorem Inv.lt(I:Inv X pS Y H s):X.env.locals<s.heap.objs.size:=let ⟨_,hn,_⟩:=I.loc;hn.lt
theorem Inv.sz(I:Inv X pS Y H s):X.s₀.heap.objs.size<=s.heap.objs.size:=Nat.le_trans I.ok.above (Nat.le_of_lt I.lt)
theorem Inv.nofs(I:Inv X pS Y H s){a:Addr}(h:s.heap.objs.size<=a):a∉X.fs:=fun hb=>by
 obtain ⟨_,o,ho,_⟩:=I.ok.funs.mem hb
 exact absurd (was (wai ho) (Nat.le_trans I.sz h)) (Nat.lt_irrefl _)
theorem Inv.cne(I:Inv X pS Y H s):∀ x c,X.env.cells.lookup x=some c->c≠X.env.locals:=fun x c e z=>by
 obtain ⟨v,o,ho,hd⟩:=I.cell x c e
 obtain ⟨m,⟨o',es,ep,ho',hd',_⟩,_⟩:=I.loc
 rw[z,ho'] at ho;cases ho;rw[hd'] at hd;cases hd
theorem Inv.funs(I:Inv X pS Y H s):s.heap.FunFrames X.base X.outer:=by
 have all:∀(l:List Env),(∀ b∈frs l,b∈X.fs)->X.s₀.heap.FunFrames X.base l->s.heap.FunFrames X.base l:=by
  intro l
  induction l with
  |nil=>intro _ _;trivial
  |cons env r ih =>
   intro hs hl
   obtain ⟨hk,⟨L,o,hf,hn,ho,hd⟩,hr⟩:=hl
   have hL:L∈X.fs:=hs L (by unfold frs;rw[List.filterMap_cons,hf];exact wau)
   obtain ⟨sl,e⟩:=I.base.slot L o ho (I.ok.frf L hL) hL fun z=>I.ok.exfs L z hL
   exact ⟨hk,⟨L,_,hf,hn,e,hd⟩,ih (fun b hb=>hs b (by unfold frs;rw[List.filterMap_cons,hf];exact wah _ hb)) hr⟩
 exact all X.outer (fun _ hb=>hb) I.ok.funs
theorem Inv.stack(I:Inv X pS Y H s):s.heap.FunFrames X.base X.stack:=by
 rcases I.ok.stk with e|⟨e,hf⟩
 ·rw[e];exact I.funs
 ·rw[e]
  obtain ⟨m,hn,_⟩:=I.loc
  refine .cons (by rw[I.ok.kind];decide) hf hn ?_ I.funs
  exact Heap.get?_none_of_le (Nat.le_trans I.ok.bsz I.ok.above)
theorem Inv.stkSub(I:Inv X pS Y H s):∀ b∈frs X.stack,b∈X.env.locals::X.fs:=fun b hb=>by
 rcases I.ok.stk with e|⟨e,hf⟩
 ·rw[e] at hb;exact wah _ hb
 ·rw[e] at hb
  unfold frs at hb
  rw[List.filterMap_cons,hf] at hb
  exact hb
theorem Inv.stkFree(I:Inv X pS Y H s):∀ b∈frs X.stack,H b=none:=fun b hb=>by
 rcases wap.mp (I.stkSub b hb) with e|hb
 ·rw[e];exact I.free
 ·obtain ⟨_,o,ho,_⟩:=I.ok.funs.mem hb
  exact I.base.free b o ho (I.ok.frf b hb) fun z=>I.ok.exfs b z hb
theorem Inv.step{g':Array GenState}{t':Nat}{d':Drawn}{ch:List Addr}(I:Inv X pS Y H s)
  (hch:∀ b∈ch,(b∈X.ex\/X.s₀.heap.objs.size<=b)/\b≠X.env.locals/\(∀ x c,X.env.cells.lookup x=some c->c≠b)/\∀ p∈X.pn++pS,p.1≠b)
  (keep:∀ b o,b≠X.env.locals->b∉X.fs->b∉ch->s.heap.get? b=some o->H b=none->h'.get? b=some o)
  (slot:∀ b o,b≠X.env.locals->b∈X.fs->b∉ch->s.heap.get? b=some o->H b=none->∃ sl,h'.get? b=some { o with slots:=sl }) (free:∀ b o,b∉ch->s.heap.get? b=some o->H b=none->H' b=none)
  (there:∀ b o,b∉ch->s.heap.get? b=some o->∃ o',h'.get? b=some o')
  (tups:∀ b xs,H b=some (.tup xs)->H' b=some (.tup xs)) (frzs:∀ b o u,H b=some (.frz o u)->H' b=some (.frz o u)) (tbls:∀ b ps,H b=some (.tbl ps)->∃ more,H' b=some (.tbl (ps++more)))
  (ns:∀ m,s.heap.Ns X.env.locals m->h'.Ns X.env.locals m) (hok:HOk X.prog X.w H' h') (hg:AllBare g') :
  Inv X pS Y H' { s with heap:=h',gens:=g',drawn:=d',toks:=t' }:=by
 have neL:∀ b o,X.s₀.heap.get? b=some o->b≠X.env.locals:=fun b o e=>Nat.ne_of_lt (was (wai e) I.ok.above)
 have neC:∀ b o,X.s₀.heap.get? b=some o->b∉X.ex->b∉ch:=fun b o e hx hb=>by
  rcases (hch b hb).1 with z|z
  ·exact hx z
  ·exact absurd (was (wai e) z) (Nat.lt_irrefl _)
 have cellK:∀ x c,X.env.cells.lookup x=some c->∀ v,s.heap.IsCell c v->h'.IsCell c v:=fun x c e v ⟨o,ho,hd⟩=>by
  have nch:c∉ch:=fun z=>(hch c z).2.2.1 x c e rfl
  by_cases hc:c∈X.fs
  ·obtain ⟨sl,q⟩:=slot c o (I.cne x c e) hc nch ho (I.freeC x c e)
   exact ⟨_,q,hd⟩
  ·exact ⟨o,keep c o (I.cne x c e) hc nch ho (I.freeC x c e),hd⟩
 refine ⟨I.ok,I.os,hg,⟨fun b o e n hb hx=>?_,fun b o e n hb hx=>?_,fun b o e n hx=>?_,fun b o e hx=>?_,fun b xs e=>tups b xs (I.base.tups b xs e),fun b o xs e=>frzs b o xs (I.base.frzs b o xs e),fun b ps e=>?_⟩,?_,fun x c e=>?_,?_,fun x c e=>?_,fun p hp=>?_,hok,I.len⟩
 ·exact keep b o (neL b o e) hb (neC b o e hx) (I.base.keep b o e n hb hx) (I.base.free b o e n hx)
 ·obtain ⟨sl,e1⟩:=I.base.slot b o e n hb hx
  obtain ⟨sl',e2⟩:=slot b _ (neL b o e) hb (neC b o e hx) e1 (I.base.free b o e n hx)
  exact ⟨sl',e2⟩
 ·obtain ⟨o',e1⟩:=I.base.there b o e hx
  exact free b o' (neC b o e hx) e1 (I.base.free b o e n hx)
 ·obtain ⟨o',e1⟩:=I.base.there b o e hx
  exact there b o' (neC b o e hx) e1
 ·obtain ⟨m1,e1⟩:=I.base.tbls b ps e
  obtain ⟨m2,e2⟩:=tbls b _ e1
  exact ⟨m1++m2,by rw[e2,Array.append_assoc]⟩
 ·obtain ⟨m,hn,hl⟩:=I.loc
  refine ⟨m,ns m hn,fun i x v e1 e2 e3=>?_⟩
  obtain ⟨u,r,l⟩:=hl i x v e1 e2 e3
  refine ⟨u,r,?_⟩
  rcases l with l|⟨k,c,e,z⟩
  ·exact .inl l
  ·exact .inr ⟨k,c,e,cellK x c e _ z⟩
 ·obtain ⟨v,z⟩:=I.cell x c e
  exact ⟨v,cellK x c e v z⟩
 ·obtain ⟨m,⟨o,_,_,ho,_⟩,_⟩:=I.loc
  exact free _ o (fun z=>(hch _ z).2.1 rfl) ho I.free
 ·obtain ⟨v,o,ho,hd⟩:=I.cell x c e
  exact free c o (fun z=>(hch c z).2.2.1 x c e rfl) ho (I.freeC x c e)
 ·obtain ⟨e,n,ne,nf,d⟩:=I.pin p hp
  have nch:p.1∉ch:=fun z=>(hch p.1 z).2.2.2 p hp rfl
  exact ⟨keep p.1 p.2 ne nf nch e n,free p.1 p.2 nch e n,ne,nf,d⟩
theorem Inv.un{t':Nat}(I:Inv X pS Y H s)(u:Un X.fs [] H H' s.heap h')(hok:HOk X.prog X.w H' h'):Inv X pS Y H' { s with heap:=h',toks:=t' }:=by
 obtain ⟨m,⟨o,es,ep,ho,r⟩,_⟩:=id I.loc
 obtain ⟨sl,hL⟩:=u.any ho I.free xws
 exact I.step (g':=s.gens) (d':=s.drawn) (ch:=[]) (fun _ z=>nomatch z) (fun b o _ hb _ e n=>u.keep b o e n hb xws) (fun b o _ hb _ e n=>u.slot b o e n hb xws) (fun b o _ e n=>u.free b o e n xws) (fun b o _ e=>u.there b o e xws) u.tups u.frzs u.tbls (fun m' hm=>by
  obtain ⟨o',es',ep',ho',r'⟩:=hm
  rw[ho] at ho';cases ho'
  exact ⟨_,es',ep',hL,r'⟩) hok I.bare
theorem Inv.call{g':Array GenState}{t':Nat}{d':Drawn}{ch:List Addr}(I:Inv X pS Y H s)(u:Un (frs X.stack) ch H H' s.heap h')(hok:HOk X.prog X.w H' h')(hg:AllBare g')
  (hch:∀ b∈ch,(b∈X.ex\/X.s₀.heap.objs.size<=b)/\b≠X.env.locals/\(∀ x c,X.env.cells.lookup x=some c->c≠b)/\∀ p∈X.pn++pS,p.1≠b) :
  Inv X pS Y H' { s with heap:=h',gens:=g',drawn:=d',toks:=t' }:=by
 obtain ⟨m,⟨o,es,ep,ho,r⟩,_⟩:=id I.loc
 obtain ⟨sl,hL⟩:=u.any ho I.free fun z=>(hch _ z).2.1 rfl
 exact I.step (ch:=ch) hch (fun b o hL hb hc e n=>u.keep b o e n (fun z=>(wap.mp (I.stkSub b z)).elim hL hb) hc) (fun b o _ _ hc e n=>u.any e n hc) (fun b o hc e n=>u.free b o e n hc) (fun b o hc e=>u.there b o e hc) u.tups u.frzs u.tbls (fun m' hm=>by
  obtain ⟨o',es',ep',ho',r'⟩:=hm
  rw[ho] at ho';cases ho'
  exact ⟨_,es',ep',hL,r'⟩) hok hg
theorem Inv.turned{t':Nat}{it:Addr}(I:Inv X pS Y H s)(k:∀ b o,b≠it->s.heap.get? b=some o->h'.get? b=some o)(hn:H it=none)(hL:it≠X.env.locals)
  (h1:it∈X.ex\/X.s₀.heap.objs.size<=it) (h2:∀ x c,X.env.cells.lookup x=some c->c≠it) (h3:∀ p∈X.pn++pS,p.1≠it):Inv X pS Y H { s with heap:=h',toks:=t' }:=by
 have nit:∀ b u,H b=some u->b≠it:=fun b u e z=>by rw[z,hn] at e;cases e
 refine I.step (g':=s.gens) (d':=s.drawn) (ch:=[it]) (fun b hb=>?_) (fun b o _ _ hc e _=>k b o (fun z=>hc (by simp[z])) e) (fun b o _ _ hc e _=>⟨o.slots,k b o (fun z=>hc (by simp[z])) e⟩) (fun _ _ _ _ n=>n)
  (fun b o hc e=>⟨o,k b o (fun z=>hc (by simp[z])) e⟩) (fun _ _ e=>e) (fun _ _ _ e=>e) (fun b ps e=>⟨#[],by rw[e];simp⟩) (fun m hm=>?_) (fun b u e=>?_) I.bare
 ·have e:b=it:=by simpa using hb
  subst e
  exact ⟨h1,hL,h2,h3⟩
 ·obtain ⟨o,es,ep,ho,r⟩:=hm
  exact ⟨o,es,ep,k _ o (Ne.symm hL) ho,r⟩
 ·refine (I.hok b u e).stay (fun c v hc q=>k c v ?_ q) (fun _ q=>q) fun _ _ q=>q
  rcases hc with z|z
  ·rw[z];exact nit b u e
  ·exact nit c _ z
theorem Inv.tok(I:Inv X pS Y H s)(t:Nat):Inv X pS Y H { s with toks:=t }:=I.un (h':=s.heap) (t':=t) Un.refl I.hok
theorem Inv.kept{t':Nat}(I:Inv X pS Y H s)(k:∀ b u,s.heap.get? b=some u->h'.get? b=some u):Inv X pS Y H { s with heap:=h',toks:=t' }:=I.un (Un.kept k) (I.hok.kept k)
theorem Inv.laid{a:Addr}{o:HO}{t':Nat}(I:Inv X pS Y H s)(k:∀ b u,s.heap.get? b=some u->h'.get? b=some u)(hp:s.heap.objs.size<=a)(new:zbO X.prog X.w (upd H a o) h' a o) :
  Inv X pS Y (upd H a o) { s with heap:=h',toks:=t' }:=I.un (Un.laid k hp (I.hok.fresh hp)) (I.hok.laid k hp new)
theorem Inv.write{x e:Addr}{o:HO}{t':Nat}(I:Inv X pS Y H s)(mu:Mut (H x))(he:e=x\/H e=some (.own x))(k:∀ b u,b≠e->s.heap.get? b=some u->h'.get? b=some u)(heo:∃ u,h'.get? e=some u)
  (new:zbO X.prog X.w (upd H x o) h' x o):Inv X pS Y (upd H x o) { s with heap:=h',toks:=t' }:=I.un (Un.write mu he k heo) (I.hok.write mu he k heo new)
theorem Inv.weak{Y':List (Option V)}(I:Inv X pS Y H s)(hl:Y'.length = Y.length)(w:∀(i:Nat) v,Y'[i]? = some (some v)->Y[i]? = some (some v)):Inv X pS Y' H s :=
 ⟨I.ok,I.os,I.bare,I.base,let ⟨m,hn,hl'⟩:=I.loc;⟨m,hn,fun i x v e1 e2 e3=>hl' i x v e1 (w i v e2) e3⟩,I.cell,I.free,I.freeC,I.pin,I.hok,hl.trans I.len⟩
theorem Inv.pins_of{pins':List (Addr×Obj)}(I:Inv X pS Y H s)(h:∀ p∈pins',s.heap.get? p.1=some p.2/\H p.1=none/\p.1≠X.env.locals/\p.1∉X.fs/\∀ v,p.2.data≠.cell v):Inv X pins' Y H s :=
 ⟨I.ok,I.os,I.bare,I.base,I.loc,I.cell,I.free,I.freeC,fun p hp=>(wax.mp hp).elim (fun z=>I.pin p (List.mem_append_left _ z)) (h p),I.hok,I.len⟩
theorem zi3{N:List Str}(hN:N.Nodup){i j:Nat}{x:Str}(a:N[i]? = some x)(b:N[j]? = some x):i=j:=by
 obtain ⟨h1,e1⟩:=wam.mp a
 obtain ⟨h2,e2⟩:=wam.mp b
 exact (List.getElem_inj hN).mp (e1.trans e2.symm)
theorem zjG{M:Model}{A:Around}{E:Value->Shared->Prop}{i:Nat}{x:Str}{v:V}{u:Value}{Q:Unit->Shared->Prop}(I:Inv X pS Y H s)(hN:X.N.Nodup)(hi:X.N[i]? = some x)(hx:Loc X.env.scope x)(r:zbo v u)
  (h:∀ s',Inv X pS (Y.set i (some v)) H s'->(∃ a,Heap.SameBut a s.heap s'.heap/\(a=X.env.locals\/X.env.cells.lookup x=some a))->Q () s') (hf:X.fn x=true\/X.env.scope.names.lookup x=some .local:=by exact xwA):wpAny M A (storeName X.env x u) Q E s:=by
 obtain ⟨m,hn,hl⟩:=id I.loc
 have hcls:(X.env.scope.kind == .class || (X.env.scope.kind == .module && X.env.locals != X.env.globals))=false:=by rw[I.ok.kind];rfl
 have hiσ:i < Y.length:=by rw[I.len];exact (wam.mp hi).1
 have cne:=I.cne
 have tracked:∀{a:Addr}{h':Heap},(∃ o,s.heap.get? a=some o/\H a=none)->Heap.SameBut a s.heap h'->HOk X.prog X.w H h':=fun {a h'} ha hs b ob e=>by
  obtain ⟨_,_,hfree⟩:=ha
  refine (I.hok b ob e).stay (fun c w' hc q=>(hs.2 c ?_).trans q) (fun _ q=>q) fun _ _ q=>q
  rintro rfl
  rcases hc with rfl|hc
  ·rw[hfree] at e;cases e
  ·rw[hfree] at hc;cases hc
 rcases hx with hk|hk
 ·refine wpAny_storeName_local hk hn (fun h' hn' hs=>?_) hcls
  obtain ⟨oL,_,_,hoL,_⟩:=id hn
  refine h _ ⟨I.ok,I.os,I.bare,⟨fun b o e n hb hx=>?_,fun b o e n hb hx=>?_,I.base.free,fun b o e hx=>?_,I.base.tups,I.base.frzs,I.base.tbls⟩,⟨_,hn',fun j y v' e1 e2 e3=>?_⟩,fun y c e=>?_,I.free,I.freeC,fun p hp=>?_,tracked ⟨oL,hoL,I.free⟩ hs,by simpa using I.len⟩ ⟨_,hs,.inl rfl⟩
  ·exact (hs.2 b (Nat.ne_of_lt (was (wai e) I.ok.above))).trans (I.base.keep b o e n hb hx)
  ·obtain ⟨sl,e1⟩:=I.base.slot b o e n hb hx
   exact ⟨sl,(hs.2 b (Nat.ne_of_lt (was (wai e) I.ok.above))).trans e1⟩
  ·obtain ⟨o',e1⟩:=I.base.there b o e hx
   exact ⟨o',(hs.2 b (Nat.ne_of_lt (was (wai e) I.ok.above))).trans e1⟩
  ·by_cases hj:j=i
   ·subst hj
    rw[hi] at e1;cases e1
    rw[List.getElem?_set_self hiσ] at e2
    cases e2
    exact ⟨u,r,.inl ⟨hk,xws⟩⟩
   ·rw[List.getElem?_set_ne (Ne.symm hj)] at e2
    obtain ⟨u',r',q⟩:=hl j y v' e1 e2 e3
    refine ⟨u',r',?_⟩
    rcases q with ⟨k,e⟩|⟨k,c,e,z⟩
    ·refine .inl ⟨k,?_⟩
     have:y≠x:=fun e=>hj (zi3 hN e1 (e ▸ hi))
     simp[this,e]
    ·exact .inr ⟨k,c,e,z.sameBut hs (cne y c e)⟩
  ·obtain ⟨w',z⟩:=I.cell y c e
   exact ⟨w',z.sameBut hs (cne y c e)⟩
  ·obtain ⟨e,n,ne,nf,d⟩:=I.pin p hp
   exact ⟨(hs.2 p.1 ne).trans e,n,ne,nf,d⟩
 ·have hfn:X.fn x=true:=by
   rcases hf with z|z
   ·exact z
   ·rw[z] at hk;cases hk
  obtain ⟨c,hc⟩:=I.ok.has x (.inl hk)
  obtain ⟨w',z⟩:=I.cell x c hc
  refine wpAny_storeName_cell I.ok.kind hk hc z (fun h' hc' hs=>?_)
  obtain ⟨oc,hoc,hocd⟩:=id z
  refine h { s with heap:=h' } ⟨I.ok,I.os,I.bare,⟨fun b o e n hb hx=>?_,fun b o e n hb hx=>?_,I.base.free,fun b o e hx=>?_,I.base.tups,I.base.frzs,I.base.tbls⟩,⟨m,hn.sameBut hs (Ne.symm (cne x c hc)),fun j y v' e1 e2 e3=>?_⟩,fun y c' e=>?_,I.free,I.freeC,fun p hp=>?_,tracked ⟨oc,hoc,I.freeC x c hc⟩ hs,by simpa using I.len⟩ ⟨c,hs,.inr hc⟩
  ·exact (hs.2 b (Nat.ne_of_lt (was (wai e) (I.ok.cab x c hfn hc)))).trans (I.base.keep b o e n hb hx)
  ·obtain ⟨sl,e1⟩:=I.base.slot b o e n hb hx
   exact ⟨sl,(hs.2 b (Nat.ne_of_lt (was (wai e) (I.ok.cab x c hfn hc)))).trans e1⟩
  ·obtain ⟨o',e1⟩:=I.base.there b o e hx
   exact ⟨o',(hs.2 b (Nat.ne_of_lt (was (wai e) (I.ok.cab x c hfn hc)))).trans e1⟩
  ·by_cases hj:j=i
   ·subst hj
    rw[hi] at e1;cases e1
    rw[List.getElem?_set_self hiσ] at e2
    cases e2
    exact ⟨u,r,.inr ⟨.inl hk,c,hc,hc'⟩⟩
   ·rw[List.getElem?_set_ne (Ne.symm hj)] at e2
    obtain ⟨u',r',q⟩:=hl j y v' e1 e2 e3
    refine ⟨u',r',?_⟩
    rcases q with q|⟨k,c',e,z'⟩
    ·exact .inl q
    ·refine .inr ⟨k,c',e,z'.sameBut hs ?_⟩
     rintro rfl
     exact hj (zi3 hN e1 (I.ok.inj _ _ _ e hc ▸ hi))
  ·by_cases hcc:c'=c
   ·subst hcc;exact ⟨_,hc'⟩
   ·obtain ⟨w2,z2⟩:=I.cell y c' e
    exact ⟨w2,z2.sameBut hs hcc⟩
  ·obtain ⟨e,n,ne,nf,d⟩:=I.pin p hp
   refine ⟨(hs.2 p.1 ?_).trans e,n,ne,nf,d⟩
   intro q
   rw[q,hoc] at e
   have q':oc=p.2:=waB e
   exact d w' (by rw[<- q'];exact hocd)
theorem ziM{M:Model}{A:Around}{E:Value->Shared->Prop}{i:Nat}{x:Str}{v:V}{u:Value}{Q:Unit->Shared->Prop}(I:Inv X pS Y H s)(hN:X.N.Nodup)(hi:X.N[i]? = some x)(hx:Loc X.env.scope x)(r:zbo v u)
  (h:∀ s',Inv X pS (Y.set i (some v)) H s'->Q () s') (hf:X.fn x=true\/X.env.scope.names.lookup x=some .local:=by exact xwA):wpAny M A (storeName X.env x u) Q E s :=
 zjG I hN hi hx r (fun s' I' _=>h s' I') hf
theorem Inv.call'{s':Shared}{ch:List Addr}(I:Inv X pS Y H s)(ho:s'.os=s.os)(u:Un (frs X.stack) ch H H' s.heap s'.heap)(hok:HOk X.prog X.w H' s'.heap)(hg:AllBare s'.gens)
  (hch:∀ b∈ch,(b∈X.ex\/X.s₀.heap.objs.size<=b)/\b≠X.env.locals/\(∀ x c,X.env.cells.lookup x=some c->c≠b)/\∀ p∈X.pn++pS,p.1≠b):Inv X pS Y H' s':=by
 obtain ⟨h',g',d',t',o'⟩:=s'
 have e:o'=s.os:=ho
 subst e
 exact I.call (g':=g') (t':=t') (d':=d') u hok hg hch
end
abbrev XK:=Value->Option Addr->Hp->Prop
abbrev St:=List (Option V)
abbrev VK:=V->Hp->Prop
abbrev TE:=St->Hp->VK->Prop
abbrev TT:=St->Hp->(Bool->Hp->Prop)->Prop
abbrev TA:=St->Hp->(List V->Hp->Prop)->Prop
structure zrv where
 nx:St->Hp->Prop
 rt:VK
 bk:St->Hp->Prop:=fun _ _=>False
 ct:St->Hp->Prop:=fun _ _=>False
abbrev TS:=zrv->St->Hp->Prop
def EP(X:Cx)(pS:List (Addr×Obj))(Y:St)(Q:VK)(u:Value)(s':Shared):Prop:=∃ v H',Inv X pS Y H' s'/\zbo v u/\Q v H'
def TP(X:Cx)(pS:List (Addr×Obj))(Y:St)(Q:Bool->Hp->Prop)(b:Bool)(s':Shared):Prop:=∃ H',Inv X pS Y H' s'/\Q b H'
def AP(X:Cx)(pS:List (Addr×Obj))(Y:St)(Q:List V->Hp->Prop)(us:List Value)(s':Shared):Prop:=∃ vs H',Inv X pS Y H' s'/\zbc vs us/\Q vs H'
def SP(X:Cx)(pS:List (Addr×Obj))(D:zrv)(f:Flow)(s':Shared):Prop :=
 match f with
 |.next=>∃ Y' H',Inv X pS Y' H' s'/\D.nx Y' H'
 |.brk=>∃ Y' H',Inv X pS Y' H' s'/\D.bk Y' H'
 |.cont=>∃ Y' H',Inv X pS Y' H' s'/\D.ct Y' H'
 |.ret u=>∃ v Y' H',Inv X pS Y' H' s'/\zbo v u/\D.rt v H'
def PE(X:Cx)(e:Expr)(t:TE):Prop :=
 ∀(pS:List (Addr×Obj))(s:Shared)(Y:St)(H:Hp)(Q:VK),Inv X pS Y H s->t Y H Q->wpAny (model X.prog X.w) X.A (eval e X.env) (EP X pS Y Q) X.xe s
def PT(X:Cx)(e:Expr)(t:TT):Prop :=
 ∀(pS:List (Addr×Obj))(s:Shared)(Y:St)(H:Hp)(Q:Bool->Hp->Prop),Inv X pS Y H s->t Y H Q->wpAny (model X.prog X.w) X.A (isTrue e X.env (eval e X.env)) (TP X pS Y Q) X.xe s
def PW(X:Cx)(e:Expr)(t:TT):Prop :=
 ∀(whole:Sem Value)(pS:List (Addr×Obj))(s:Shared)(Y:St)(H:Hp)(Q:Bool->Hp->Prop),Inv X pS Y H s->t Y H Q->wpAny (model X.prog X.w) X.A (isTrue e X.env whole) (TP X pS Y Q) X.xe s
theorem PW.pt{X:Cx}{e:Expr}{t:TT}(h:PW X e t):PT X e t:=h _
def PA(X:Cx)(es:List Expr)(t:TA):Prop :=
 ∀(pos:Pos)(pS:List (Addr×Obj))(s:Shared)(Y:St)(H:Hp)(Q:List V->Hp->Prop),Inv X pS Y H s->t Y H Q->wpAny (model X.prog X.w) X.A (spliced (backTo pos (starEach es X.env))) (AP X pS Y Q) X.xe s
def PS(X:Cx)(st:Stmt)(t:TS):Prop :=
 ∀(pS:List (Addr×Obj))(s:Shared)(Y:St)(H:Hp)(D:zrv),Inv X pS Y H s->t D Y H->wpAny (model X.prog X.w) X.A (exec st X.env) (SP X pS D) X.xe s
def PSs(X:Cx)(st:List Stmt)(t:TS):Prop :=
 ∀(pS:List (Addr×Obj))(s:Shared)(Y:St)(H:Hp)(D:zrv),Inv X pS Y H s->t D Y H->wpAny (model X.prog X.w) X.A (execs st X.env) (SP X pS D) X.xe s
theorem thn{α:Type}{t:Sem α}{Q Q':α->Shared->Prop}{M:Model}{A:Around}{E:Value->Shared->Prop}{s:Shared}(h:wpAny M A t Q E s)(hQ:∀ a s,Q a s->Q' a s):wpAny M A t Q' E s:=wpAny_mono h hQ fun _ _ x=>x
end L2
namespace L2
open PySem PySem.Spec PyProof.Rows
section
variable{X:Cx}
def tVar(i:Nat):TE:=fun Y H Q=>∃ v,Y[i]? = some (some v)/\Q v H
def tC(v:V):TE:=fun _ H Q=>Q v H
theorem zcm{i:Nat}{x:Str}{pos:Pos}(hN:X.N[i]? = some x)(hv:Vis X.env.scope x)(hd:(x == ("__debug__" : Str))=false:=by decide)(hcd:(x == ("__classdict__" : Str))=false:=by decide):PE X (.Name x pos) (tVar i):=by
 intro pS s Y H Q I h
 obtain ⟨v,e,h⟩:=h
 obtain ⟨m,hn,hl⟩:=I.loc
 obtain ⟨u,r,l⟩:=hl i x v hN e hv
 have fin:EP X pS Y Q u s:=⟨v,H,I,r,h⟩
 rcases l with ⟨hk,hm⟩|⟨hk,c,hc,hcell⟩
 ·exact wpAny_Name (wpAny_loadName_local I.ok.kind hk hn hm fin) hd
 ·rcases hk with hk|hk
  ·exact wpAny_Name (wpAny_loadName_cell I.ok.kind hk hc hcell fin) hd
  ·exact wpAny_Name (wpAny_loadName_free I.ok.kind hk hc hcell fin hcd) hd
theorem zj6{i j pos}:PE X (.Constant (.int i) j pos) (tC (.int i)):=fun _ _ _ H _ I h=>wpAny_Constant_int ⟨.int i,H,I.tok _,⟨_,rfl⟩,h⟩
theorem zuZ{b j pos}:PE X (.Constant (.bool b) j pos) (tC (.bl b)):=fun _ _ _ H _ I h=>Constant_bool ⟨.bl b,H,I,rfl,h⟩
theorem zrw{j pos}:PE X (.Constant .none j pos) (tC .non):=fun _ _ _ H _ I h=>Constant_none ⟨.non,H,I,rfl,h⟩
theorem zui{x j pos}:PE X (.Constant (.str x) j pos) (tC (.str x)):=fun _ _ _ H _ I h=>Calls.Constant_str ⟨.str x,H,I.tok _,⟨_,rfl⟩,h⟩
def Gl(X:Cx)(x:Str):Prop:=X.env.kindOf x=some .globalImplicit
theorem zhe{E:Value->Shared->Prop}{pS:List (Addr×Obj)}{s:Shared}{Y:St}{H:Hp}{x:Str}{u:Value}{pos:Pos}{Q:Value->Shared->Prop}(I:Inv X pS Y H s)(hg:Gl X x)(hm:X.mg x=some u)(h:Q u s)
  (hd:(x == ("__debug__" : Str))=false:=by decide):wpAny (model X.prog X.w) X.A (eval (.Name x pos) X.env) Q E s :=
 Calls.Name_function_global I.ok.kind hg (Calls.loadGlobal_global (by rw[I.ok.glob];exact I.mod.glob.keeps I.bk) hm h) hd
theorem zeA{E:Value->Shared->Prop}{pS:List (Addr×Obj)}{s:Shared}{Y:St}{H:Hp}{x:Str}{u:Value}{pos:Pos}{Q:Value->Shared->Prop}(I:Inv X pS Y H s)(hg:Gl X x)(hm:X.mg x=none)(hv:bootBuiltins x=some u)(h:Q u s)
  (hn:x≠"__name__":=by decide) (hd:(x == ("__debug__" : Str))=false:=by decide):wpAny (model X.prog X.w) X.A (eval (.Name x pos) X.env) Q E s:=by
 obtain ⟨mb,h1,h2⟩:=I.mod.blt
 exact Calls.Name_function_global I.ok.kind hg (Calls.loadGlobal_builtin (by rw[I.ok.glob];exact I.mod.glob.keeps I.bk) hm (by rw[I.ok.blt];exact h1.keeps I.bk) ((h2 x hn).trans hv) h) hd
theorem znH{x:Str}{v:V}{u:Value}{pos:Pos}(hg:Gl X x)(hm:X.mg x=some u)(r:zbo v u)(hd:(x == ("__debug__" : Str))=false:=by decide):PE X (.Name x pos) (tC v) :=
 fun _ _ _ H _ I h=>zhe I hg hm ⟨v,H,I,r,h⟩ hd
theorem znY{x:Str}{v:V}{u:Value}{pos:Pos}(hg:Gl X x)(hm:X.mg x=none)(hv:bootBuiltins x=some u)(r:zbo v u)(hn:x≠"__name__":=by decide)(hd:(x == ("__debug__" : Str))=false:=by decide):PE X (.Name x pos) (tC v) :=
 fun _ _ _ H _ I h=>zeA I hg hm hv ⟨v,H,I,r,h⟩ hn hd
variable{a b:Expr}{ta tb:TE}{pos:Pos}
def PC(X:Cx)(op:CmpOp)(a b:Expr)(t:TE):Prop :=
 ∀(pS:List (Addr×Obj))(s:Shared)(Y:St)(H:Hp)(Q:VK),Inv X pS Y H s->t Y H Q ->
  wpAny (model X.prog X.w) X.A (eval a X.env) (fun v s₁=>wpAny (model X.prog X.w) X.A (eval b X.env) (fun u s₂=>wpAny (model X.prog X.w) X.A (compareOp op v u) (EP X pS Y Q) X.xe s₂) X.xe s₁) X.xe s
theorem zpY(b:Expr){op:CmpOp}(h:op≠.In)(h2:op≠.NotIn):behindInMarks op b=false:=by
 have e1:(op == CmpOp.In)=false:=by cases op <;> first|rfl|exact absurd rfl h
 have e2:(op == CmpOp.NotIn)=false:=by cases op <;> first|rfl|exact absurd rfl h2
 cases b <;> simp[behindInMarks,e1,e2]
def zv4(ta:TE):TE:=fun Y H Q=>ta Y H fun x H1=>Q (.bl (!decide (x=.non))) H1
theorem zbo.none_iff{x:V}{v:Value}(r:zbo x v):(v == Value.none)=decide (x=.non):=by
 cases x with
 |non=>cases r;rfl
 |bl _=>cases r;rfl
 |int _=>obtain ⟨t,rfl⟩:=r;rfl
 |str _=>obtain ⟨t,rfl⟩:=r;rfl
 |byt _=>obtain ⟨t,rfl⟩:=r;rfl
 |flt _=>obtain ⟨t,rfl⟩:=r;rfl
 |ref _=>cases r;rfl
 |ty _=>cases r;rfl
theorem zsS{j pos'}(ha:PE X a ta):PC X .IsNot a (.Constant .none j pos') (zv4 ta):=by
 intro pS s Y H Q I h
 refine thn (ha pS s Y H _ I h) fun v s1 ⟨x,H1,I1,r1,q1⟩=>?_
 exact Constant_none (isnot_none_gen ⟨.bl _,H1,I1,by rw[r1.none_iff];rfl,q1⟩)
def tB(t:TE):TT:=fun Y H Q=>t Y H fun x H1=>∃ c,x=.bl c/\Q c H1
theorem zox{op:CmpOp}{t:TE}(h:PC X op a b t)(h1:behindInMarks op b=false:=by first|exact zpY _ xwd xwd|rfl):PT X (.Compare a [op] [b] pos) (tB t):=by
 intro pS s Y H Q I hw
 refine wpAny_isTrue_Compare1 (thn (h pS s Y H _ I hw) fun v s1 h1=>thn h1 fun u s2 h2=>thn h2 fun c s3 ⟨x,H1,I1,r1,q1⟩=>?_) h1
 obtain ⟨d,rfl,q⟩:=q1
 cases r1
 exact wpAny_truthy_bool ⟨H1,I1,q⟩
theorem zt5{e:Expr}{t:TE}(h:PE X e t)(he:∀ whole,isTrue e X.env whole=(do let v <- whole;standAt e.pos;holding [v] (truthy v)):=by intro _;rfl):PT X e (tB t):=by
 intro pS s Y H Q I hw
 refine isTrue_plain (thn (h pS s Y H _ I hw) fun v s1 ⟨x,H1,I1,r1,q1⟩=>?_) (he _)
 obtain ⟨d,rfl,q⟩:=q1
 cases r1
 exact wpAny_truthy_bool ⟨H1,I1,q⟩
variable{tA tB':TT}{zaL:List Expr}
def tAnd(t u:TT):TT:=fun Y H Q=>t Y H fun c H1=>if c=true then u Y H1 Q else Q false H1
def tOr(t u:TT):TT:=fun Y H Q=>t Y H fun c H1=>if c=true then Q true H1 else u Y H1 Q
def tNot(t:TT):TT:=fun Y H Q=>t Y H fun c H1=>Q (!c) H1
theorem zsc(ha:PT X a tA):PW X (.BoolOp .And [a] pos) tA:=by
 intro wh pS s Y H Q I h
 refine isTrue_and (thn (ha pS s Y H Q I h) fun c s1 e=>?_)
 cases c with
 |true=>exact isTrue_and_nil e
 |false=>exact e
theorem zuC(ha:PT X a tA):PW X (.BoolOp .Or [a] pos) tA:=by
 intro wh pS s Y H Q I h
 refine isTrue_or (thn (ha pS s Y H Q I h) fun c s1 e=>?_)
 cases c with
 |false=>exact isTrue_or_nil e
 |true=>exact e
theorem ztX(ha:PT X a tA)(hb:PW X (.BoolOp .And (b::zaL) pos) tB'):PW X (.BoolOp .And (a::b::zaL) pos) (tAnd tA tB'):=by
 intro wh pS s Y H Q I h
 refine isTrue_and (thn (ha pS s Y H _ I h) fun c s1 ⟨H1,I1,q1⟩=>?_)
 cases c with
 |true=>exact hb wh pS s1 Y H1 Q I1 q1
 |false=>exact ⟨H1,I1,q1⟩
theorem zvy(ha:PT X a tA)(hb:PW X (.BoolOp .Or (b::zaL) pos) tB'):PW X (.BoolOp .Or (a::b::zaL) pos) (tOr tA tB'):=by
 intro wh pS s Y H Q I h
 refine isTrue_or (thn (ha pS s Y H _ I h) fun c s1 ⟨H1,I1,q1⟩=>?_)
 cases c with
 |true=>exact ⟨H1,I1,q1⟩
 |false=>exact hb wh pS s1 Y H1 Q I1 q1
theorem zt0(ha:PT X a tA):PT X (.UnaryOp .Not a pos) (tNot tA):=by
 intro pS s Y H Q I h
 exact isTrue_not (ha pS s Y H (fun c H1=>Q (!c) H1) I h)
def zvh(ta tb:TE):TE:=fun Y H Q=>ta Y H fun x H1=>∃ c,x=.bl c/\if c=true then tb Y H1 Q else Q (.bl false) H1
def zvg(ta:TE):TE:=fun Y H Q=>ta Y H fun x H1=>∃ c,x=.bl c/\Q (.bl (!c)) H1
theorem ztx{op}{t:TE}(h:PE X a t):PE X (.BoolOp op [a] pos) t:=fun pS s Y H Q I hw=>BoolOp_one (h pS s Y H Q I hw)
theorem zud(ha:PE X a ta)(hb:PE X (.BoolOp .And (b::zaL) pos) tb):PE X (.BoolOp .And (a::b::zaL) pos) (zvh ta tb):=by
 intro pS s Y H Q I h
 refine BoolOp_and (thn (ha pS s Y H _ I h) fun v s1 ⟨x,H1,I1,r1,q1⟩=>?_)
 obtain ⟨c,rfl,q1⟩:=q1
 cases r1
 refine wpAny_truthy_bool ?_
 cases c with
 |true=>exact hb pS s1 Y H1 Q I1 q1
 |false=>exact ⟨.bl false,H1,I1,rfl,q1⟩
theorem zuB(ha:PE X a ta):PE X (.UnaryOp .Not a pos) (zvg ta):=by
 intro pS s Y H Q I h
 refine UnaryOp_ (thn (ha pS s Y H _ I h) fun v s1 ⟨x,H1,I1,r1,q1⟩=>?_)
 obtain ⟨c,rfl,q1⟩:=q1
 cases r1
 exact not_of (wpAny_truthy_bool ⟨.bl (!c),H1,I1,rfl,q1⟩)
def tIf(t:TT)(ta tb:TE):TE:=fun Y H Q=>t Y H fun c H1=>if c=true then ta Y H1 Q else tb Y H1 Q
theorem zpC{c:Expr}(hc:PT X c tA)(ha:PE X a ta)(hb:PE X b tb):PE X (.IfExp c a b pos) (tIf tA ta tb):=by
 intro pS s Y H Q I h
 refine wpAny_IfExp (thn (hc pS s Y H _ I h) fun d s1 ⟨H1,I1,q1⟩=>?_)
 cases d with
 |true=>exact ha pS s1 Y H1 Q I1 q1
 |false=>exact hb pS s1 Y H1 Q I1 q1
end
end L2
namespace L2
open PySem PySem.Spec PyProof.Rows
def SqL(K:W.Frag)(H:Hp)(a:Addr)(xs:List V):Prop :=
 Rd H a (.lst xs) \/
  ∃(o:Obj)(its:Array Value)(n:Nat),K.lookup a=some o/\o.cls=.type "list"/\o.dict=none/\o.data=.seq its n/\its.size<=sizeLine/\zbc xs its.toList
def SqT(K:W.Frag)(H:Hp)(a:Addr)(xs:List V):Prop :=
 Rd H a (.tup xs) \/
  ∃(o:Obj)(its:Array Value)(n:Nat),K.lookup a=some o/\o.cls=.type "tuple"/\o.data=.seq its n/\its.size<=sizeLine/\zbc xs its.toList
def absV:Value->Option V
 |.none=>some .non
 |.bool b=>some (.bl b)
 |.int i _=>some (.int i)
 |.str x _=>some (.str x)
 |.bytes b _=>some (.byt b)
 |.float b _=>some (.flt b)
 |.ref a=>some (.ref a)
 |.type n=>some (.ty n)
 |_=>none
theorem zbo.abs{x:V}{u:Value}(r:zbo x u):absV u=some x:=by
 cases x with
 |non=>cases r;rfl
 |bl _=>cases r;rfl
 |int _=>obtain ⟨t,rfl⟩:=r;rfl
 |str _=>obtain ⟨t,rfl⟩:=r;rfl
 |byt _=>obtain ⟨t,rfl⟩:=r;rfl
 |flt _=>obtain ⟨t,rfl⟩:=r;rfl
 |ref _=>cases r;rfl
 |ty _=>cases r;rfl
theorem zbo.inj{x y:V}{u:Value}(r:zbo x u)(q:zbo y u):x=y:=waB (r.abs.symm.trans q.abs)
theorem zbc.inj:∀{xs ys:List V}{us:List Value},zbc xs us->zbc ys us->xs=ys
 |_,_,_,.nil,.nil=>rfl
 |_,_,_,.cons r t,.cons r' t'=>by rw[r.inj r',zbc.inj t t']
section
variable{X:Cx}{pS:List (Addr×Obj)}{Y:St}{H:Hp}{s:Shared}{a:Addr}{xs ys:List V}
theorem SqL.of{K:W.Frag}(h:H a=some (.lst xs)):SqL K H a xs:=.inl (.inl h)
theorem SqT.of{K:W.Frag}(h:H a=some (.tup xs)):SqT K H a xs:=.inl (.inl h)
theorem Inv.list(I:Inv X pS Y H s)(h:SqL X.K H a xs):∃ its:List Value,zbc xs its/\PlainL s.heap a its.toArray/\xs.length<=sizeLine:=by
 rcases h with h|⟨o,its,n,hk,hc,hd,hs,hz,r⟩
 ·obtain ⟨z,its,n,r,e⟩:=h.ok I.hok
  exact ⟨its,r,⟨_,n,e,rfl,rfl,rfl⟩,z⟩
 ·refine ⟨its.toList,r,⟨o,n,I.kIn a o hk,hc,hd,by simpa using hs⟩,?_⟩
  have e:=r.length
  simp only[Array.length_toList] at e
  omega
theorem Inv.tuple(I:Inv X pS Y H s)(h:SqT X.K H a xs):∃ its:List Value,zbc xs its/\IsTup s.heap a its.toArray/\xs.length<=sizeLine:=by
 rcases h with h|⟨o,its,n,hk,hc,hs,hz,r⟩
 ·obtain ⟨z,its,r,n,e⟩:=h.ok I.hok
  exact ⟨its,r,⟨_,e,rfl,n,rfl⟩,z⟩
 ·refine ⟨its.toList,r,⟨o,I.kIn a o hk,hc,n,by simpa using hs⟩,?_⟩
  have e:=r.length
  simp only[Array.length_toList] at e
  omega
theorem Inv.list_inj(I:Inv X pS Y H s)(h:SqL X.K H a xs)(h':SqL X.K H a ys):xs=ys:=by
 obtain ⟨its,r,⟨o,n,e,_,_,d⟩,_⟩:=I.list h
 obtain ⟨its',r',⟨o',n',e',_,_,d'⟩,_⟩:=I.list h'
 rw[e] at e';cases e'
 rw[d] at d'
 injection d' with d1 _
 have:its=its':=by simpa using congrArg Array.toList d1
 subst this
 exact r.inj r'
theorem Inv.tuple_inj(I:Inv X pS Y H s)(h:SqT X.K H a xs)(h':SqT X.K H a ys):xs=ys:=by
 obtain ⟨its,r,⟨o,e,_,n,d⟩,_⟩:=I.tuple h
 obtain ⟨its',r',⟨o',e',_,n',d'⟩,_⟩:=I.tuple h'
 rw[e] at e';cases e'
 rw[d] at d'
 injection d' with d1 _
 have:its=its':=by simpa using congrArg Array.toList d1
 subst this
 exact r.inj r'
end
abbrev Cx.wish(X:Cx)(E:Value->Shared->Prop):Cx:={ X with xe:=E }
abbrev Cx.nox(X:Cx):Cx:=X.wish fun _ _=>False
theorem Cx.Ok.wish{X:Cx}(ok:X.Ok)(E:Value->Shared->Prop):(X.wish E).Ok :=
 ⟨ok.mod,ok.kind,ok.glob,ok.blt,ok.above,ok.inj,ok.has,ok.cab,ok.hd,ok.frames,ok.stk,ok.exf,ok.bs,ok.bsz,ok.noex,ok.exfs,ok.funs,ok.frf⟩
theorem Cx.Ok.unwish{X:Cx}{E:Value->Shared->Prop}(ok:(X.wish E).Ok):X.Ok :=
 ⟨ok.mod,ok.kind,ok.glob,ok.blt,ok.above,ok.inj,ok.has,ok.cab,ok.hd,ok.frames,ok.stk,ok.exf,ok.bs,ok.bsz,ok.noex,ok.exfs,ok.funs,ok.frf⟩
section
variable{X:Cx}{pS:List (Addr×Obj)}{Y:St}{H:Hp}{s:Shared}{E:Value->Shared->Prop}
theorem Inv.wish(I:Inv X pS Y H s)(E:Value->Shared->Prop):Inv (X.wish E) pS Y H s:=⟨I.ok.wish E,I.os,I.bare,I.base,I.loc,I.cell,I.free,I.freeC,I.pin,I.hok,I.len⟩
theorem Inv.unwish(I:Inv (X.wish E) pS Y H s):Inv X pS Y H s:=⟨I.ok.unwish,I.os,I.bare,I.base,I.loc,I.cell,I.free,I.freeC,I.pin,I.hok,I.len⟩
theorem SP.unwish{D:zrv}{f:Flow}{s':Shared}(h:SP (X.wish E) pS D f s'):SP X pS D f s':=by
 cases f with
 |next=>obtain ⟨Y',H',I,q⟩:=h;exact ⟨Y',H',I.unwish,q⟩
 |brk=>obtain ⟨Y',H',I,q⟩:=h;exact ⟨Y',H',I.unwish,q⟩
 |cont=>obtain ⟨Y',H',I,q⟩:=h;exact ⟨Y',H',I.unwish,q⟩
 |ret u=>obtain ⟨v,Y',H',I,r,q⟩:=h;exact ⟨v,Y',H',I.unwish,r,q⟩
theorem PE.nox{e:Expr}{t:TE}(h:PE X.nox e t):PE X e t:=fun pS s Y H Q I hw =>
 wpAny_mono (h pS s Y H Q (I.wish _) hw) (fun _ _ ⟨v,H',I',r,q⟩=>⟨v,H',I'.unwish,r,q⟩) fun _ _ z=>False.elim z
theorem PT.nox{e:Expr}{t:TT}(h:PT X.nox e t):PT X e t:=fun pS s Y H Q I hw =>
 wpAny_mono (h pS s Y H Q (I.wish _) hw) (fun _ _ ⟨H',I',q⟩=>⟨H',I'.unwish,q⟩) fun _ _ z=>False.elim z
theorem PSs.nox{st:List Stmt}{t:TS}(h:PSs X.nox st t):PSs X st t:=fun pS s Y H D I hw =>
 wpAny_mono (h pS s Y H D (I.wish _) hw) (fun _ _ q=>q.unwish) fun _ _ z=>False.elim z
end
section
variable{X:Cx}{st:Stmt}{zaL:List Stmt}{t u:TS}{e:Expr}{te:TE}{pos:Pos}
def zvd:TS:=fun D Y H=>D.nx Y H
def tSeq(t u:TS):TS:=fun D Y H=>t { D with nx:=u D } Y H
theorem zsh:PSs X [] zvd:=fun _ _ Y H _ I h=>wpAny_execs_nil ⟨Y,H,I,h⟩
theorem zp9(h1:PS X st t)(h2:PSs X zaL u):PSs X (st::zaL) (tSeq t u):=by
 intro pS s Y H D I h
 refine wpAny_execs_cons (thn (h1 pS s Y H { D with nx:=u D } I h) fun f s1 q=>?_)
 cases f with
 |next =>
  obtain ⟨Y',H',I',q⟩:=q
  exact h2 pS s1 Y' H' D I' q
 |ret v=>exact q
 |brk=>exact q
 |cont=>exact q
theorem znW(h1:PS X st t):PSs X [st] t:=by
 intro pS s Y H D I h
 refine wpAny_execs_cons (thn (h1 pS s Y H D I h) fun f s1 q=>?_)
 cases f with
 |next=>exact wpAny_execs_nil q
 |ret v=>exact q
 |brk=>exact q
 |cont=>exact q
theorem Inv.quiet{pS:List (Addr×Obj)}{Y:St}{H:Hp}{s:Shared}(I:Inv X pS Y H s):interactive X.env=false:=by simp[interactive,I.ok.kind]
def zvn(te:TE):TS:=fun D Y H=>te Y H fun _ H1=>D.nx Y H1
theorem zsj(he:PE X e te)(hs:swapsWith e none pos.line X.env=pure false:=by rfl):PS X (.Expr e pos) (zvn te):=by
 intro pS s Y H D I h
 exact wpAny_Expr_any (thn (he pS s Y H _ I h) fun v s1 ⟨x,H1,I1,r1,q1⟩=>⟨Y,H1,I1,q1⟩) I.quiet hs
def tRet(te:TE):TS:=fun D Y H=>te Y H D.rt
theorem zrs(he:PE X e te):PS X (.Return (some e) pos) (tRet te):=by
 intro pS s Y H D I h
 exact wpAny_Return_some (thn (he pS s Y H _ I h) fun v s1 ⟨x,H1,I1,r1,q1⟩=>⟨x,Y,H1,I1,r1,q1⟩)
def tIfS(c:TT)(t u:TS):TS:=fun D Y H=>c Y H fun b H1=>if b=true then t D Y H1 else u D Y H1
theorem zvp{c:Expr}{a b:List Stmt}{tc:TT}(hc:PT X c tc)(ha:PSs X a t)(hb:PSs X b u):PS X (.If c a b pos) (tIfS tc t u):=by
 intro pS s Y H D I h
 refine wpAny_If (thn (hc pS s Y H _ I h) fun d s1 ⟨H1,I1,q1⟩=>?_)
 cases d with
 |true=>exact ha pS s1 Y H1 D I1 q1
 |false=>exact hb pS s1 Y H1 D I1 q1
end
abbrev TG:=V->St->Hp->(St->Hp->Prop)->Prop
abbrev TGs:=List V->St->Hp->(St->Hp->Prop)->Prop
def PG(X:Cx)(target:Expr)(t:TG):Prop :=
 ∀(pS:List (Addr×Obj))(s:Shared)(Y:St)(H:Hp)(v:V)(u:Value)(Q:St->Hp->Prop),Inv X pS Y H s->zbo v u->t v Y H Q ->
  wpAny (model X.prog X.w) X.A (assign target X.env u) (fun _ s'=>∃ Y' H',Inv X pS Y' H' s'/\Q Y' H') X.xe s
def PGs(X:Cx)(ts:List Expr)(t:TGs):Prop :=
 ∀(pS:List (Addr×Obj))(s:Shared)(Y:St)(H:Hp)(vs:List V)(us:List Value)(Q:St->Hp->Prop),Inv X pS Y H s->zbc vs us->t vs Y H Q ->
  wpAny (model X.prog X.w) X.A (assignInOrder ((assignEach ts X.env).map (·.2)) us) (fun _ s'=>∃ Y' H',Inv X pS Y' H' s'/\Q Y' H') X.xe s
abbrev zv2:=V->V->V->Hp->(Hp->Prop)->Prop
def PSet(X:Cx)(t:zv2):Prop :=
 ∀(pS:List (Addr×Obj))(s:Shared)(Y:St)(H:Hp)(o i v:V)(ov iv u:Value)(Q:Hp->Prop),Inv X pS Y H s->zbo o ov->zbo i iv->zbo v u->t o i v H Q ->
  wpAny (model X.prog X.w) X.A (setItem ov iv u) (fun _ s'=>∃ H',Inv X pS Y H' s'/\Q H') X.xe s
section
variable{X:Cx}{pos:Pos}
def zup(i:Nat):TG:=fun v Y H Q=>Q (Y.set i (some v)) H
theorem zi7{i:Nat}{x:Str}(hN:X.N.Nodup)(hi:X.N[i]? = some x)(hx:Loc X.env.scope x)(hf:X.fn x=true\/X.env.scope.names.lookup x=some .local:=by exact xwA):PG X (.Name x pos) (zup i):=by
 intro pS s Y H v u Q I r h
 exact wpAny_assign_Name (ziM I hN hi hx r (fun s' I'=>⟨_,H,I',h⟩) hf)
def gNil:TGs:=fun vs Y H Q=>vs=[]/\Q Y H
def zvE(t:TG)(u:TGs):TGs:=fun vs Y H Q=>∃ v r,vs=v::r/\t v Y H fun Y' H'=>u r Y' H' Q
theorem zrJ:PGs X [] gNil:=by
 intro pS s Y H vs us Q I r h
 obtain ⟨e,h⟩:=h
 subst e
 cases r
 exact assignInOrder_nil ⟨Y,H,I,h⟩
theorem zlu{e:Expr}{es:List Expr}{t:TG}{u:TGs}(h1:PG X e t)(h2:PGs X es u)
  (hs:(assignEach (e::es) X.env).map (·.2)=assign e X.env::(assignEach es X.env).map (·.2):=by rfl):PGs X (e::es) (zvE t u):=by
 intro pS s Y H vs us Q I r h
 obtain ⟨v,vr,e1,h⟩:=h
 subst e1
 cases r with
 |cons r rr =>
  rw[hs]
  refine assignInOrder_cons (thn (h1 pS s Y H _ _ _ I r h) fun _ s1 ⟨Y1,H1,I1,q1⟩=>?_)
  exact h2 pS s1 Y1 H1 _ _ Q I1 rr q1
def gTup(K:W.Frag)(n:Nat)(t:TGs):TG:=fun v Y H Q=>∃ a xs,v=.ref a/\SqT K H a xs/\xs.length=n/\t xs Y H Q
theorem zu2{es:List Expr}{k:Nat}{t:TGs}{n:Nat}(hc:X.calm=true)(h:PGs X es t)
  (hn:(assignEach es X.env).length=n:=by rfl) (hst:(assignEach es X.env).findIdx? (·.1)=none:=by rfl):PG X (.Tuple es k pos) (gTup X.K n t):=by
 intro pS s Y H v u Q I r hw
 obtain ⟨a,xs,e1,hq,hl,hw⟩:=hw
 subst e1
 cases r
 obtain ⟨its,rv,ht,hz⟩:=I.tuple hq
 refine assign_Tuple_tuple (I.ok.hd hc) ht (by simp[hn,<- hl,rv.length]) hst fun h' hx=>?_
 have I1:Inv X pS Y H { s with heap:=h' }:=I.kept (t':=s.toks) fun b o e=>hx b o (Nat.ne_of_lt (wai e)) e
 exact h pS _ Y H xs _ Q I1 (by simpa using rv) hw
def zhI(to ti:TE)(t:zv2):TG:=fun v Y H Q=>to Y H fun o H1=>ti Y H1 fun i H2=>t o i v H2 fun H3=>Q Y H3
theorem zu3{o i:Expr}{to ti:TE}{t:zv2}(ho:PE X o to)(hi:PE X i ti)(hs:PSet X t)
  (ha:∀ v,assign (.Subscript o i pos) X.env v=(do
   let ov <- holding [v] (eval o X.env)
   let iv <- holding [v,ov] (eval i X.env)
   standAt pos
   holding [v,ov,iv] (setItem ov iv v)
   release [v,ov,iv] []):=by intro _;rfl):PG X (.Subscript o i pos) (zhI to ti t):=by
 intro pS s Y H v u Q I r h
 rw[ha]
 refine wab (wpAny_holding (thn (ho pS s Y H _ I h) fun ov s1 ⟨x,H1,I1,r1,q1⟩=>?_))
 refine wab (wpAny_holding (thn (hi pS s1 Y H1 _ I1 q1) fun iv s2 ⟨y,H2,I2,r2,q2⟩=>?_))
 refine wab (wpAny_standAt (wab (wpAny_holding (thn (hs pS s2 Y H2 x y v ov iv u _ I2 r1 r2 r q2) fun _ s3 ⟨H3,I3,q3⟩=>?_))))
 exact wpAny_release ⟨Y,H3,I3,q3⟩
def zv9(te:TE)(g:TG):TS:=fun D Y H=>te Y H fun x H1=>g x Y H1 D.nx
theorem zrh{tg e:Expr}{te:TE}{g:TG}(he:PE X e te)(hg:PG X tg g)(hs:swapsWithSole [tg] e pos.line X.env=pure false:=by rfl)(hw:swappedStores [tg] e X.env=pure none:=by rfl)
  (h1:(assignEach [tg] X.env).map (·.2)=[assign tg X.env]:=by rfl):PS X (.Assign [tg] e pos) (zv9 te g):=by
 intro pS s Y H D I h
 refine wpAny_Assign_stores (thn (he pS s Y H _ I h) fun v s1 ⟨x,H1,I1,r1,q1⟩=>?_) hs hw
 rw[h1]
 exact thn (hg pS s1 Y H1 x v _ I1 r1 q1) fun _ s2 q=>q
theorem zlI{i:Nat}{x:Str}{e:Expr}{te:TE}{pos':Pos}(hN:X.N.Nodup)(hi:X.N[i]? = some x)(hx:Loc X.env.scope x)(he:PE X e te)(hs:swapsWith e (some (.Name x pos')) pos.line X.env=pure false:=by rfl)(hf:X.fn x=true\/X.env.scope.names.lookup x=some .local:=by exact xwA) :
  PS X (.Assign [.Name x pos'] e pos) (zv9 te (zup i)):=by
 intro pS s Y H D I h
 refine wpAny_Assign_Name (thn (he pS s Y H _ I h) fun v s1 ⟨y,H1,I1,r1,q1⟩=>?_) hs
 exact ziM I1 hN hi hx r1 (fun s2 I2=>⟨_,H1,I2,q1⟩) hf
end
section
variable{X:Cx}{pos:Pos}
def ztu(c:TT)(tb:TS):TS:=fun D Y H=>∃ W:Nat->St->Hp->Prop,(∃ m,W m Y H)/\∀ m Y H,W m Y H ->
 c Y H fun b H1=>if b=true then ∃ N:St->Hp->Prop,(∀ Y' H',N Y' H'->∃ m',m'<m/\W m' Y' H')/\tb { D with nx:=N,ct:=N,bk:=D.nx } Y H1 else D.nx Y H1
theorem zqO{c:Expr}{body:List Stmt}{tc:TT}{tb:TS}(hp:PassesOwn (model X.prog X.w) X.A X.env X.xe)(hc:PT X c tc)(hb:PSs X body tb):PS X (.While c body [] pos) (ztu tc tb):=by
 intro pS s Y H D I h
 obtain ⟨W,⟨m0,w0⟩,turn⟩:=h
 refine wpAny_While (codeAny_whileLoop (fun n s'=>∃ Y' H',Inv X pS Y' H' s'/\W n Y' H') ?_ m0 ⟨Y,H,I,w0⟩)
 rintro n s1 ⟨Y1,H1,I1,w1⟩
 refine wpAny_passesOwn hp (thn (hc pS s1 Y1 H1 _ I1 (turn n Y1 H1 w1)) fun b s2 ⟨H2,I2,q2⟩=>?_)
 cases b with
 |true =>
  obtain ⟨N,hN,q2⟩:=q2
  rw[if_pos rfl]
  refine wpAny_passesOwn hp (thn (hb pS s2 Y1 H2 _ I2 q2) fun f s3 q3=>?_)
  cases f with
  |next =>
   obtain ⟨Y3,H3,I3,n3⟩:=q3
   obtain ⟨m',hm,w3⟩:=hN Y3 H3 n3
   exact ⟨m',hm,Y3,H3,I3,w3⟩
  |cont =>
   obtain ⟨Y3,H3,I3,n3⟩:=q3
   obtain ⟨m',hm,w3⟩:=hN Y3 H3 n3
   exact ⟨m',hm,Y3,H3,I3,w3⟩
  |brk=>exact q3
  |ret v=>exact q3
 |false =>
  rw[if_neg Bool.false_ne_true]
  exact wpAny_execs_nil ⟨Y1,H2,I2,q2⟩
end
structure It where
 go:Nat->Hp->Prop
 yld:Nat->Hp->V->Hp->Prop
 stop:Nat->Hp->Prop
def zfj(X:Cx)(pS:List (Addr×Obj))(H:Hp)(b:Addr):Prop :=
 H b=none/\b≠X.env.locals/\b∉X.fs/\(b∈X.ex\/X.s₀.heap.objs.size<=b)/\(∀ x c,X.env.cells.lookup x=some c->c≠b)/\∀ p∈X.pn++pS,p.1≠b
theorem Inv.fpOk{X:Cx}{pS:List (Addr×Obj)}{Y:St}{H H':Hp}{s:Shared}{b:Addr}(I:Inv X pS Y H s)(hb:s.heap.objs.size<=b)(hn:H' b=none):zfj X pS H' b:=by
 refine ⟨hn,Nat.ne_of_gt (was I.lt hb),I.nofs hb,.inr (Nat.le_trans I.sz hb),fun x c e z=>?_,fun p hp z=>?_⟩
 ·obtain ⟨v,q⟩:=I.cell x c e
  exact absurd (was q.lt (by rw[z];exact hb)) (Nat.lt_irrefl _)
 ·exact absurd (was (wai (I.pin p hp).1) (by rw[z];exact hb)) (Nat.lt_irrefl _)
structure zoO(P:Program)(w:World)(K:W.Frag)(tg:Expr)(J:It)(fp:List Addr)(it:Addr)(tn:Nat->Heap->Prop):Prop where
 mem:it∈fp
 obj:∀ i h,tn i h->∀ b∈fp,∃ o,h.get? b=some o/\∀ v,o.data≠.cell v
 keep:∀ i h h',tn i h->(∀ b∈fp,∀ o,h.get? b=some o->h'.get? b=some o)->tn i h'
 item:∀(X:Cx),X.prog=P->X.w=w->X.K=K->X.calm=true->∀(i:Nat)(pS:List (Addr×Obj))(s:Shared)(Y:St)(H:Hp)(E:Value->Shared->Prop),Inv X pS Y H s->(∀ b∈fp,zfj X pS H b)->tn i s.heap->J.go i H ->
  wpAny (model P w) X.A (pyNext (.ref it)) (fun r s1=>∃ u,r=some u /\
   wpAny (model P w) X.A (letOwnedTupleGo tg (.ref it) u) (fun _ s2=>∃ x H',Inv X pS Y H' s2/\zbo x u/\J.yld i H x H'/\tn (i+1) s2.heap/\∀ b∈fp,H' b=none) E s1) E s
 done:∀(X:Cx),X.prog=P->X.w=w->X.K=K->X.calm=true->∀(i:Nat)(pS:List (Addr×Obj))(s:Shared)(Y:St)(H:Hp)(E:Value->Shared->Prop),Inv X pS Y H s->(∀ b∈fp,zfj X pS H b)->tn i s.heap->J.stop i H ->
  wpAny (model P w) X.A (pyNext (.ref it)) (fun r s1=>r=none/\Inv X pS Y H s1) E s
 self:∀(A:Around)(i:Nat)(s:Shared)(Q:Value->Shared->Prop)(E:Value->Shared->Prop),tn i s.heap->Q (.ref it) s->wpAny (model P w) A (pyIter (.ref it)) Q E s
abbrev TI:=St->Hp->(It->Hp->Prop)->Prop
def PIE(X:Cx)(pS:List (Addr×Obj))(Y:St)(tg:Expr)(R:It->Hp->Prop)(itv:Value)(s2:Shared):Prop :=
 ∃(it:Addr)(fp:List Addr)(tn:Nat->Heap->Prop)(J:It)(H':Hp),itv=.ref it/\Inv X pS Y H' s2/\zoO X.prog X.w X.K tg J fp it tn/\tn 0 s2.heap/\(∀ b∈fp,zfj X pS H' b)/\R J H'
def PI(X:Cx)(tg iter:Expr)(wi:TI):Prop :=
 ∀(pS:List (Addr×Obj))(s:Shared)(Y:St)(H:Hp)(R:It->Hp->Prop),Inv X pS Y H s->wi Y H R ->
  wpAny (model X.prog X.w) X.A (eval iter X.env) (fun v s1=>wpAny (model X.prog X.w) X.A (pyIter v) (PIE X pS Y tg R) X.xe s1) X.xe s
theorem zqv{M:Model}{A:Around}{E:Value->Shared->Prop}{s:Shared}{tg:Expr}{it:Addr}{u:Value}{o:Obj}{n:String}{vs:Array Value}{Q:Unit->Shared->Prop}(ho:s.heap.get? it=some o)(hc:o.cls=.type n)(hd:o.data=.fields vs)
  (hn:["enumerate","zip","dict_itemiterator","dict_reverseitemiterator","odict_iterator","itertools.zip_longest","itertools.pairwise"].contains n=false) (hQ:Q () s):wpAny M A (letOwnedTupleGo tg (.ref it) u) Q E s:=by
 unfold letOwnedTupleGo
 cases tg <;> first
  |exact wad hQ
  | (cases u <;> first
    |exact wad hQ
    | (refine wab (wpAny_load ho ?_)
       rw[hc,hd]
       show wpAny M A (if (["enumerate","zip","dict_itemiterator","dict_reverseitemiterator","odict_iterator","itertools.zip_longest","itertools.pairwise"].contains n && vs[0]? == some (rawInt _))=true then _ else _) Q E s
       rw[if_neg (by intro h;rw[hn,Bool.false_and] at h;cases h)]
       exact wad hQ))
def Itl(K:W.Frag)(a:Addr):It :=
 ⟨fun i H=>∃ xs x,SqL K H a xs/\xs[i]? = some x,fun i H x H'=>H'=H/\∀ xs,SqL K H a xs->xs[i]? = some x,fun i H=>∃ xs,SqL K H a xs/\xs.length<=i⟩
def Itt(K:W.Frag)(a:Addr):It :=
 ⟨fun i H=>∃ xs x,SqT K H a xs/\xs[i]? = some x,fun i H x H'=>H'=H/\∀ xs,SqT K H a xs->xs[i]? = some x,fun i H=>∃ xs,SqT K H a xs/\xs.length<=i⟩
def Itr(lo:Int)(n:Nat):It:=⟨fun i _=>i<n,fun i H x H'=>H'=H/\x=.int (lo+i),fun i _=>n<=i⟩
theorem zog{P:Program}{w:World}{K:W.Frag}{tg:Expr}(a it:Addr):zoO P w K tg (Itl K a) [it] it (fun i h=>h.IsListIter it a i) where
 mem:=by simp
 obj:=fun i h st b hb=>by
  have e:b=it:=by simpa using hb
  subst e
  obtain ⟨o,e,c,d⟩:=st
  exact ⟨o,e,fun v z=>by rw[d] at z;cases z⟩
 keep:=fun i h h' st k=>st.at fun o e=>k it xws o e
 item:=by
  intro X hP hw hK hc i pS s Y H E I hf st hg
  subst hP hw hK
  obtain ⟨xs,x,hq,hx⟩:=hg
  obtain ⟨its,rv,p,hz⟩:=I.list hq
  obtain ⟨u,hu,ru⟩:=rv.get hx
  obtain ⟨f0,f1,f2,f3,f4,f5⟩:=hf it xws
  refine wpAny_pyNext_list_item st p.isList (x:=u) (by simpa using hu) fun h' st' sb=>?_
  have I1:Inv X pS Y H { s with heap:=h' }:=I.turned (t':=s.toks) (fun b o hb e=>(sb.2 b hb).trans e) f0 f1 f3 f4 f5
  obtain ⟨o,e,c,d⟩:=id st'
  exact ⟨u,rfl,zqv (s:={ s with heap:=h' }) e c d xwd ⟨x,H,I1,ru,⟨rfl,fun ys hy=>by rw[I.list_inj hy hq];exact hx⟩,st',fun b hb=>(hf b hb).1⟩⟩
 done:=by
  intro X hP hw hK hc i pS s Y H E I hf st hg
  subst hP hw hK
  obtain ⟨xs,hq,hx⟩:=hg
  obtain ⟨its,rv,p,hz⟩:=I.list hq
  obtain ⟨f0,f1,f2,f3,f4,f5⟩:=hf it xws
  have hl:=rv.length
  exact wpAny_pyNext_list_end (I.ok.hd hc) st p.isList (by simp;omega) fun h' eb=>⟨rfl,I.turned (t':=s.toks) (fun b o hb e=>eb b o hb e) f0 f1 f3 f4 f5⟩
 self:=fun _ _ _ _ _ st h=>wpAny_pyIter_listiter st h
theorem zmJ{P:Program}{w:World}{K:W.Frag}{tg:Expr}(a it:Addr):zoO P w K tg (Itt K a) [it] it (fun i h=>h.IsTupleIter it a i) where
 mem:=by simp
 obj:=fun i h st b hb=>by
  have e:b=it:=by simpa using hb
  subst e
  obtain ⟨o,e,c,d⟩:=st
  exact ⟨o,e,fun v z=>by rw[d] at z;cases z⟩
 keep:=fun i h h' st k=>st.at fun o e=>k it xws o e
 item:=by
  intro X hP hw hK hc i pS s Y H E I hf st hg
  subst hP hw hK
  obtain ⟨xs,x,hq,hx⟩:=hg
  obtain ⟨its,rv,p,hz⟩:=I.tuple hq
  obtain ⟨u,hu,ru⟩:=rv.get hx
  obtain ⟨f0,f1,f2,f3,f4,f5⟩:=hf it xws
  refine wpAny_pyNext_tuple_item st (show s.heap.IsTuple a its.toArray from p) (x:=u) (by simpa using hu) fun h' st' sb=>?_
  have I1:Inv X pS Y H { s with heap:=h' }:=I.turned (t':=s.toks) (fun b o hb e=>(sb.2 b hb).trans e) f0 f1 f3 f4 f5
  obtain ⟨o,e,c,d⟩:=id st'
  exact ⟨u,rfl,zqv (s:={ s with heap:=h' }) e c d xwd ⟨x,H,I1,ru,⟨rfl,fun ys hy=>by rw[I.tuple_inj hy hq];exact hx⟩,st',fun b hb=>(hf b hb).1⟩⟩
 done:=by
  intro X hP hw hK hc i pS s Y H E I hf st hg
  subst hP hw hK
  obtain ⟨xs,hq,hx⟩:=hg
  obtain ⟨its,rv,p,hz⟩:=I.tuple hq
  obtain ⟨f0,f1,f2,f3,f4,f5⟩:=hf it xws
  have hl:=rv.length
  exact wpAny_pyNext_tuple_end (I.ok.hd hc) st (show s.heap.IsTuple a its.toArray from p) (by simp;omega) fun h' eb=>⟨rfl,I.turned (t':=s.toks) (fun b o hb e=>eb b o hb e) f0 f1 f3 f4 f5⟩
 self:=fun _ _ _ _ _ st h=>wpAny_pyIter_tupleiter st h
theorem zna{P:Program}{w:World}{K:PySem.W.Frag}{tg:Expr}(it:Addr)(lo:Int)(n:Nat):zoO P w K tg (Itr lo n) [it] it (fun i h=>IsRangeIter h it (lo+(i:Nat) * 1) ((n:Int)-(i:Nat)) 1) where
 mem:=by simp
 obj:=fun i h st b hb=>by
  have e:b=it:=by simpa using hb
  subst e
  exact ⟨_,st,fun v z=>by
   have z':Data.fields _=Data.cell v:=z
   cases z'⟩
 keep:=fun i h h' st k=>k it xws _ st
 item:=by
  intro X hP hw hK hc i pS s Y H E I hf st hg
  subst hP hw hK
  obtain ⟨f0,f1,f2,f3,f4,f5⟩:=hf it xws
  have W:=Walks.range (prog:=X.prog) (w:=X.w) (I.ok.hd hc) it lo 1 n
  refine W.item i s _ _ hg st fun v h' tk hv st' kk=>?_
  obtain ⟨t,rfl⟩:=hv
  have I1:Inv X pS Y H { s with heap:=h',toks:=tk }:=I.turned (fun b o hb e=>kk b o (by simpa using hb) e) f0 f1 f3 f4 f5
  refine ⟨_,rfl,zqv (s:={ s with heap:=h',toks:=tk }) (n:="range_iterator") st' rfl rfl xwd ⟨.int (lo+i),H,I1,⟨t,?_⟩,⟨rfl,rfl⟩,st',fun b hb=>(hf b hb).1⟩⟩
  rw[Int.mul_one]
 done:=by
  intro X hP hw hK hc i pS s Y H E I hf st hg
  subst hP hw hK
  obtain ⟨f0,f1,f2,f3,f4,f5⟩:=hf it xws
  exact wpAny_pyNext_range_end (I.ok.hd hc) st (by have:n<=i:=hg;omega) fun h' eb=>⟨rfl,I.turned (t':=s.toks) (fun b o hb e=>eb b o hb e) f0 f1 f3 f4 f5⟩
 self:=fun _ _ _ _ _ st h=>wpAny_pyIter_rangeiter st h
end L2
namespace L2
open PySem PySem.Spec PyProof.Rows
section
variable{X:Cx}{tg:Expr}
def zv1(K:W.Frag)(tl:TE):TI:=fun Y H R=>tl Y H fun x H1=>∃ a,x=.ref a/\(∃ xs,SqL K H1 a xs)/\R (Itl K a) H1
def iTup(K:W.Frag)(tl:TE):TI:=fun Y H R=>tl Y H fun x H1=>∃ a,x=.ref a/\(∃ xs,SqT K H1 a xs)/\R (Itt K a) H1
theorem zsO{l:Expr}{tl:TE}(hl:PE X l tl):PI X tg l (zv1 X.K tl):=by
 intro pS s Y H R I h
 refine thn (hl pS s Y H _ I h) fun v s1 ⟨x,H1,I1,r1,q1⟩=>?_
 obtain ⟨a,e,⟨xs,hq⟩,q⟩:=q1
 subst e
 cases r1
 obtain ⟨its,rv,p,hz⟩:=I1.list hq
 refine wpAny_pyIter_list p.isList ?_
 refine ⟨s1.heap.objs.size,[s1.heap.objs.size],_,_,H1,rfl,I1.kept (t':=s1.toks) fun b o e=>waa _ e,zog a _,⟨_,waj _ rfl,rfl,rfl⟩,fun b hb=>?_,q⟩
 have e:b=s1.heap.objs.size:=by simpa using hb
 subst e
 exact I1.fpOk (wal _) (I1.hok.fresh (wal _))
theorem ztW{l:Expr}{tl:TE}(hl:PE X l tl):PI X tg l (iTup X.K tl):=by
 intro pS s Y H R I h
 refine thn (hl pS s Y H _ I h) fun v s1 ⟨x,H1,I1,r1,q1⟩=>?_
 obtain ⟨a,e,⟨xs,hq⟩,q⟩:=q1
 subst e
 cases r1
 obtain ⟨its,rv,p,hz⟩:=I1.tuple hq
 refine wpAny_pyIter_tuple (show s1.heap.IsTuple a its.toArray from p) ?_
 refine ⟨s1.heap.objs.size,[s1.heap.objs.size],_,_,H1,rfl,I1.kept (t':=s1.toks) fun b o e=>waa _ e,zmJ a _,⟨_,waj _ rfl,rfl,rfl⟩,fun b hb=>?_,q⟩
 have e:b=s1.heap.objs.size:=by simpa using hb
 subst e
 exact I1.fpOk (wal _) (I1.hok.fresh (wal _))
theorem zqK{pS:List (Addr×Obj)}{Y:St}{H:Hp}{s:Shared}{R:It->Hp->Prop}{E:Value->Shared->Prop}{lo hi:Int}{t u v:Tok}{tk:Nat}(I:Inv X pS Y H s)(h1:-(2 ^ 62)<=lo)(h2:lo<2 ^ 62)(h3:-(2 ^ 62)<=hi)(h4:hi<2 ^ 62)
  (q:R (Itr lo (hi-lo).toNat) H):wpAny (model X.prog X.w) X.A (pyIter (.ref s.heap.objs.size)) (PIE X pS Y tg R) E { s with heap:=s.heap.push { cls:=.type "range",data:=.fields #[.int lo t,.int hi u,.int 1 v] },toks:=tk }:=by
 refine wpAny_pyIter_range (IsRange.new ..) (small_one h1 h2 h3 h4) ?_
 have I1:Inv X pS Y H { s with heap:=s.heap.push { cls:=.type "range",data:=.fields #[.int lo t,.int hi u,.int 1 v] },toks:=tk }:=I.kept fun b o e=>waa _ e
 refine ⟨(s.heap.push { cls:=.type "range",data:=.fields #[.int lo t,.int hi u,.int 1 v] }).objs.size,[(s.heap.push { cls:=.type "range",data:=.fields #[.int lo t,.int hi u,.int 1 v] }).objs.size],_,_,H,rfl,
  I1.kept (t':=tk) fun b o e=>waa _ e,zna _ lo (hi-lo).toNat,?_,fun b hb=>?_,q⟩
 ·have e1:lo+((0:Nat):Int) * 1=lo:=by simp
  have e2:(((hi-lo).toNat:Nat):Int)-((0:Nat):Int)=Builtin.Range.rangeSize lo hi 1:=by rw[rangeSize_one];split <;> omega
  show IsRangeIter _ _ (lo+((0:Nat):Int) * 1) ((((hi-lo).toNat:Nat):Int)-((0:Nat):Int)) 1
  rw[e1,e2]
  exact waj _ rfl
 ·have e:b=(s.heap.push { cls:=.type "range",data:=.fields #[.int lo t,.int hi u,.int 1 v] }).objs.size:=by simpa using hb
  subst e
  exact I1.fpOk (wal _) (I1.hok.fresh (wal _))
def zv5(ta:TA):TI:=fun Y H R=>ta Y H fun vs H1=>∃ j:Int,vs=[.int j]/\-(2 ^ 62)<=j/\j<2 ^ 62/\R (Itr 0 j.toNat) H1
theorem znT{a:Expr}{ta:TA}{p pos:Pos}(hg:Gl X "range")(hm:X.mg "range"=none)(ha:PA X [a] ta)(hs:starEach [a] X.env=[(false,eval a X.env)]:=by rfl):PI X tg (.Call (.Name "range" p) [a] [] pos) (zv5 ta):=by
 intro pS s Y H R I h
 refine Call_ (zeA I hg hm boot_range (PyProof.Rows.callWith_type1 (thn (ha pos pS s Y H _ I h) fun us s1 ⟨vs,H1,I1,r1,q1⟩=>?_) hs rfl))
 obtain ⟨j,e,q1,q2,q⟩:=q1
 subst e
 cases r1 with
 |cons r rr =>
  cases rr
  obtain ⟨t,rfl⟩:=r
  exact call_range_1 (zqK I1 xwo xwo q1 q2 (by simpa using q))
def tFor(wi:TI)(g:TG)(tb:TS):TS:=fun D Y H=>wi Y H fun J H1=>∃ W:Nat->Nat->St->Hp->Prop,(∃ m,W 0 m Y H1)/\∀ i m Y H,W i m Y H ->
 (J.stop i H/\D.nx Y H)\/(J.go i H/\∃ N:St->Hp->Prop,(∀ Y' H',N Y' H'->∃ m',m'<m/\W (i+1) m' Y' H')/\∀ x H',J.yld i H x H'->g x Y H' fun Y2 H2=>tb { D with nx:=N,ct:=N,bk:=D.nx } Y2 H2)
def zfF(fp:List Addr)(h:Heap):List (Addr×Obj):=fp.filterMap fun b=>(h.get? b).map fun o=>(b,o)
theorem zey{fp:List Addr}{h:Heap}{b:Addr}{o:Obj}(hb:b∈fp)(e:h.get? b=some o):(b,o)∈zfF fp h:=List.mem_filterMap.mpr ⟨b,hb,by rw[e];rfl⟩
theorem zoc{fp:List Addr}{h:Heap}{p:Addr×Obj}(hp:p∈zfF fp h):p.1∈fp/\h.get? p.1=some p.2:=by
 obtain ⟨b,hb,e⟩:=List.mem_filterMap.mp hp
 cases q:h.get? b with
 |none=>rw[q] at e;cases e
 |some o =>
  rw[q] at e
  have e':(b,o)=p:=waB e
  subst e'
  exact ⟨hb,q⟩
theorem Inv.pinned{pS:List (Addr×Obj)}{Y:St}{H:Hp}{s:Shared}{fp:List Addr}(I:Inv X pS Y H s)(hf:∀ b∈fp,zfj X pS H b)(ho:∀ b∈fp,∃ o,s.heap.get? b=some o/\∀ v,o.data≠.cell v):Inv X (pS++zfF fp s.heap) Y H s :=
 I.pins_of fun p hp=>(wax.mp hp).elim (fun z=>I.pin p (waA _ z)) fun z=>by
  obtain ⟨hb,e⟩:=zoc z
  obtain ⟨f0,f1,f2,_⟩:=hf p.1 hb
  obtain ⟨o,e',d⟩:=ho p.1 hb
  rw[e] at e';cases e'
  exact ⟨e,f0,f1,f2,d⟩
theorem Inv.unpinned{pS pl:List (Addr×Obj)}{Y:St}{H:Hp}{s:Shared}(I:Inv X (pS++pl) Y H s):Inv X pS Y H s:=I.pins_of fun p hp=>I.pin p (waA _ (List.mem_append_left _ hp))
theorem zt9{iter:Expr}{body:List Stmt}{wi:TI}{g:TG}{tb:TS}{pos:Pos}(hp:PassesOwn (model X.prog X.w) X.A X.env X.xe)(hc:X.calm=true)(hi:PI X tg iter wi)(hg:PG X tg g)(hb:PSs X body tb)
  (hs:∀ x,foldedSetIterable iter X.env x=pure x:=by intro _;rfl):PS X (.For tg iter body [] pos) (tFor wi g tb):=by
 intro pS s Y H D I h
 refine wpAny_For (thn (hi pS s Y H _ I h) fun v s1 h1=>thn h1 fun itv s2 h2=>?_) hs
 obtain ⟨it,fp,tn,J,H2,e,I2,T,st2,f2,W,⟨m0,w0⟩,turn⟩:=h2
 subst e
 have stat:∀{H':Hp},(∀ b∈fp,H' b=none)->∀ b∈fp,zfj X pS H' b:=fun hn b hb=>⟨hn b hb,(f2 b hb).2⟩
 refine codeAny_forLoop_any (fun n s'=>∃ i Y' H',Inv X pS Y' H' s'/\tn i s'.heap/\(∀ b∈fp,H' b=none)/\W i n Y' H') ?_ m0 ⟨0,Y,H2,I2,st2,fun b hb=>(f2 b hb).1,w0⟩
 rintro n s3 ⟨i,Y3,H3,I3,st3,fr3,w3⟩
 rcases turn i n Y3 H3 w3 with ⟨stop,qn⟩|⟨go,N,hN,step⟩
 ·refine wpAny_passesOwn hp (thn (T.done X rfl rfl rfl hc i pS s3 Y3 H3 X.xe I3 (stat fr3) st3 stop) fun r s4 ⟨hr,I4⟩=>?_)
  subst hr
  exact wpAny_execs_nil ⟨Y3,H3,I4,qn⟩
 ·refine wpAny_passesOwn hp (thn (T.item X rfl rfl rfl hc i pS s3 Y3 H3 X.xe I3 (stat fr3) st3 go) fun r s4 ⟨u,hr,h4⟩=>?_)
  subst hr
  refine wpAny_passesOwn hp (thn h4 fun _ s5 ⟨x,H5,I5,r5,y5,st5,fr5⟩=>?_)
  have I5':=I5.pinned (stat fr5) (T.obj _ _ st5)
  refine wpAny_passesOwn hp (thn (hg _ s5 Y3 H5 x u _ I5' r5 (step x H5 y5)) fun _ s6 ⟨Y6,H6,I6,q6⟩=>?_)
  refine wpAny_passesOwn hp (thn (hb _ s6 Y6 H6 _ I6 q6) fun f s7 q7=>?_)
  have again:∀{Y7:St}{H7:Hp},Inv X (pS++zfF fp s5.heap) Y7 H7 s7->N Y7 H7->∃ m,m<n/\∃ i Y' H',Inv X pS Y' H' s7/\tn i s7.heap/\(∀ b∈fp,H' b=none)/\W i m Y' H':=fun {Y7 H7} I7 n7=>by
   obtain ⟨m',hm,w7⟩:=hN Y7 H7 n7
   refine ⟨m',hm,i+1,Y7,H7,I7.unpinned,T.keep _ _ _ st5 fun b hb o e=>(I7.pin (b,o) (waA _ (waA _ (zey hb e)))).1,fun b hb=>?_,w7⟩
   obtain ⟨o,e,d⟩:=T.obj _ _ st5 b hb
   exact (I7.pin (b,o) (waA _ (waA _ (zey hb e)))).2.1
  cases f with
  |next=>obtain ⟨Y7,H7,I7,n7⟩:=q7;exact again I7 n7
  |cont=>obtain ⟨Y7,H7,I7,n7⟩:=q7;exact again I7 n7
  |brk=>obtain ⟨Y7,H7,I7,q7⟩:=q7;exact ⟨Y7,H7,I7.unpinned,q7⟩
  |ret v=>obtain ⟨x7,Y7,H7,I7,r7,q7⟩:=q7;exact ⟨x7,Y7,H7,I7.unpinned,r7,q7⟩
end
end L2
namespace L2
open PySem PySem.Spec PyProof.Rows
abbrev R2:=V->V->Hp->VK->Prop
def OpR(X:Cx)(f:Value->Value->Sem Value)(r:R2):Prop :=
 ∀(pS:List (Addr×Obj))(s:Shared)(Y:St)(H:Hp)(x y:V)(v u:Value)(Q:VK),Inv X pS Y H s->zbo x v->zbo y u->r x y H Q ->
  wpAny (model X.prog X.w) X.A (f v u) (EP X pS Y Q) X.xe s
def UnR(X:Cx)(f:Value->Sem Value)(r:V->Hp->VK->Prop):Prop :=
 ∀(pS:List (Addr×Obj))(s:Shared)(Y:St)(H:Hp)(x:V)(v:Value)(Q:VK),Inv X pS Y H s->zbo x v->r x H Q ->
  wpAny (model X.prog X.w) X.A (f v) (EP X pS Y Q) X.xe s
def zda(X:Cx)(f:Value)(r:List V->Hp->VK->Prop):Prop :=
 ∀(pS:List (Addr×Obj))(s:Shared)(Y:St)(H:Hp)(xs:List V)(us:List Value)(Q:VK),Inv X pS Y H s->zbc xs us->r xs H Q ->
  wpAny (model X.prog X.w) X.A (call f us) (EP X pS Y Q) X.xe s
def tOp(r:R2)(ta tb:TE):TE:=fun Y H Q=>ta Y H fun x H1=>tb Y H1 fun y H2=>r x y H2 Q
def tUn(r:V->Hp->VK->Prop)(ta:TE):TE:=fun Y H Q=>ta Y H fun x H1=>r x H1 Q
def rI(C:Int->Int->Prop)(g:Int->Int->V):R2:=fun x y H Q=>∃ i j,x=.int i/\y=.int j/\C i j/\Q (g i j) H
def rI0(g:Int->Int->V):R2:=fun x y H Q=>∃ i j,x=.int i/\y=.int j/\Q (g i j) H
def rU(g:Int->V):V->Hp->VK->Prop:=fun x H Q=>∃ i,x=.int i/\Q (g i) H
section
variable{X:Cx}{a b c:Expr}{ta tb tc:TE}{pos:Pos}
theorem zvH(ha:PE X a ta)(hb:PE X b tb){pS:List (Addr×Obj)}{s:Shared}{Y:St}{H:Hp}{R:V->V->Hp->Prop}(I:Inv X pS Y H s)
  (h:ta Y H fun x H1=>tb Y H1 fun y H2=>R x y H2) {Q:Value->Shared->Prop} {f:Value->Value->Sem Value}
  (hf:∀ v u s2 x y H2,Inv X pS Y H2 s2->zbo x v->zbo y u->R x y H2->wpAny (model X.prog X.w) X.A (f v u) Q X.xe s2) :
  wpAny (model X.prog X.w) X.A (eval a X.env) (fun v s₁=>wpAny (model X.prog X.w) X.A (eval b X.env) (fun u s₂=>wpAny (model X.prog X.w) X.A (f v u) Q X.xe s₂) X.xe s₁) X.xe s:=by
 refine thn (ha pS s Y H _ I h) fun v s1 ⟨x,H1,I1,r1,q1⟩=>?_
 refine thn (hb pS s1 Y H1 _ I1 q1) fun u s2 ⟨y,H2,I2,r2,q2⟩=>?_
 exact hf v u s2 x y H2 I2 r1 r2 q2
theorem zu6{op:Operator}{r:R2}(ho:OpR X (binaryOp op) r)(ha:PE X a ta)(hb:PE X b tb):PE X (.BinOp a op b pos) (tOp r ta tb):=by
 intro pS s Y H Q I h
 exact wpAny_BinOp (zvH ha hb I h fun v u s2 x y H2 I2 rx ry q=>ho pS s2 Y H2 x y v u Q I2 rx ry q)
theorem ztS{op:UnaryOp}{r:V->Hp->VK->Prop}(ho:UnR X (unaryOp op) r)(ha:PE X a ta):PE X (.UnaryOp op a pos) (tUn r ta):=by
 intro pS s Y H Q I h
 exact UnaryOp_ (thn (ha pS s Y H _ I h) fun v s1 ⟨x,H1,I1,r1,q1⟩=>ho pS s1 Y H1 x v Q I1 r1 q1)
theorem opI{f:Value->Value->Sem Value}{C:Int->Int->Prop}{g:Int->Int->Int}
  (rule:∀(i j:Int)(t u:Tok)(s:Shared)(Q:Value->Shared->Prop)(E:Value->Shared->Prop),C i j->Q (.int (g i j) s.toks) { s with toks:=s.toks+1 }->wpAny (model X.prog X.w) X.A (f (.int i t) (.int j u)) Q E s) :
  OpR X f (rI C fun i j=>.int (g i j)):=by
 intro pS s Y H x y v u Q I rx ry h
 obtain ⟨i,j,rfl,rfl,hc,q⟩:=h
 obtain ⟨t,rfl⟩:=rx
 obtain ⟨t',rfl⟩:=ry
 exact rule i j t t' s _ _ hc ⟨.int (g i j),H,I.tok _,⟨_,rfl⟩,q⟩
theorem opI0{f:Value->Value->Sem Value}{g:Int->Int->Int}
  (rule:∀(i j:Int)(t u:Tok)(s:Shared)(Q:Value->Shared->Prop)(E:Value->Shared->Prop),Q (.int (g i j) s.toks) { s with toks:=s.toks+1 }->wpAny (model X.prog X.w) X.A (f (.int i t) (.int j u)) Q E s) :
  OpR X f (rI0 fun i j=>.int (g i j)):=by
 intro pS s Y H x y v u Q I rx ry h
 obtain ⟨i,j,rfl,rfl,q⟩:=h
 obtain ⟨t,rfl⟩:=rx
 obtain ⟨t',rfl⟩:=ry
 exact rule i j t t' s _ _ ⟨.int (g i j),H,I.tok _,⟨_,rfl⟩,q⟩
theorem zuU{f:Value->Value->Sem Value}{g:Int->Int->Bool}
  (rule:∀(i j:Int)(t u:Tok)(s:Shared)(Q:Value->Shared->Prop)(E:Value->Shared->Prop),Q (.bool (g i j)) s->wpAny (model X.prog X.w) X.A (f (.int i t) (.int j u)) Q E s) :
  OpR X f (rI0 fun i j=>.bl (g i j)):=by
 intro pS s Y H x y v u Q I rx ry h
 obtain ⟨i,j,rfl,rfl,q⟩:=h
 obtain ⟨t,rfl⟩:=rx
 obtain ⟨t',rfl⟩:=ry
 exact rule i j t t' s _ _ ⟨.bl (g i j),H,I,rfl,q⟩
def CDiv(i j:Int):Prop:=0<j/\j<1073741824
def CPow(i j:Int):Prop:=0<=j/\j<=1000000/\i.natAbs<2 ^ 64
def zuR(i j:Int):Prop:=(-(2 ^ 64)<i/\i<2 ^ 64)\/(-(2 ^ 64)<j/\j<2 ^ 64)
theorem zuR.ok{i j:Int}(h:zuR i j):IntMulOk i j:=by
 rcases h with ⟨h1,h2⟩|⟨h1,h2⟩
 ·exact .of_left (intBits_le_64 h1 h2)
 ·exact .of_right (intBits_le_64 h1 h2)
theorem zuf:OpR X (binaryOp .Add) (rI0 fun i j=>.int (i+j)):=opI0 fun _ _ _ _ _ _ _ q=>add_int q
theorem zuL:OpR X (binaryOp .Sub) (rI0 fun i j=>.int (i-j)):=opI0 fun _ _ _ _ _ _ _ q=>sub_int q
theorem zus:OpR X (binaryOp .Mult) (rI zuR fun i j=>.int (i * j)):=opI fun _ _ _ _ _ _ _ hc q=>mul_int q hc.ok
theorem zsu:OpR X (binaryOp .FloorDiv) (rI CDiv fun i j=>.int (i / j)):=opI fun i j _ _ _ _ _ hc q=>by
 have h1:(0:Int)<j:=hc.1
 have h2:j<1073741824:=hc.2
 exact floordiv_int xwo (by rw[Int.fdiv_eq_ediv_of_nonneg i xwo];exact q) (.inl (PyProof.noPylong_small xwo))
theorem zty:OpR X (binaryOp .Mod) (rI (fun _ j=>0<j) fun i j=>.int (i % j)):=opI fun i j _ _ _ _ _ hc q=>by
 have h1:(0:Int)<j:=hc
 exact mod_int' xwo (by rw[Int.fmod_eq_emod_of_nonneg i xwo];exact q)
theorem ztY:OpR X (binaryOp .Pow) (rI CPow fun i j=>.int (i ^ j.toNat)):=opI fun _ _ _ _ _ _ _ hc q=>pow_int_small hc.1 hc.2.1 hc.2.2 q
theorem unI{f:Value->Sem Value}{g:Int->Int}
  (rule:∀(i:Int)(t:Tok)(s:Shared)(Q:Value->Shared->Prop)(E:Value->Shared->Prop),Q (.int (g i) s.toks) { s with toks:=s.toks+1 }->wpAny (model X.prog X.w) X.A (f (.int i t)) Q E s) :
  UnR X f (rU fun i=>.int (g i)):=by
 intro pS s Y H x v Q I rx h
 obtain ⟨i,rfl,q⟩:=h
 obtain ⟨t,rfl⟩:=rx
 exact rule i t s _ _ ⟨.int (g i),H,I.tok _,⟨_,rfl⟩,q⟩
theorem zrB:UnR X (unaryOp .USub) (rU fun i=>.int (-i)):=unI fun _ _ _ _ _ q=>neg_int q
end
section
variable{X:Cx}{a b c:Expr}{ta tb tc:TE}{pos:Pos}
theorem zkG:OpR X (compareOp .Lt) (rI0 fun i j=>.bl (decide (i<j))):=zuU fun _ _ _ _ _ _ _ q=>lt_int q
theorem zsI:OpR X (compareOp .LtE) (rI0 fun i j=>.bl (decide (i<=j))):=zuU fun _ _ _ _ _ _ _ q=>le_int q
theorem zu9:OpR X (compareOp .Gt) (rI0 fun i j=>.bl (decide (j<i))):=zuU fun _ _ _ _ _ _ _ q=>gt_int q
theorem zvz:OpR X (compareOp .GtE) (rI0 fun i j=>.bl (decide (j<=i))):=zuU fun _ _ _ _ _ _ _ q=>ge_int q
theorem OpR.or{f:Value->Value->Sem Value}{r r':R2}(h:OpR X f r)(h':OpR X f r'):OpR X f (fun x y H Q=>r x y H Q\/r' x y H Q):=by
 intro pS s Y H x y v u Q I rx ry q
 rcases q with q|q
 ·exact h pS s Y H x y v u Q I rx ry q
 ·exact h' pS s Y H x y v u Q I rx ry q
theorem zeB(b:Expr){op:CmpOp}(h:op≠.In:=by decide)(h2:op≠.NotIn:=by decide):behindInMarks op b=false:=by
 have e1:(op == CmpOp.In)=false:=by cases op <;> first|rfl|exact absurd rfl h
 have e2:(op == CmpOp.NotIn)=false:=by cases op <;> first|rfl|exact absurd rfl h2
 cases b <;> simp[behindInMarks,e1,e2]
theorem zs4{op:CmpOp}{r:R2}(ho:OpR X (compareOp op) r)(ha:PE X a ta)(hb:PE X b tb)(hm:behindInMarks op b=false):PE X (.Compare a [op] [b] pos) (tOp r ta tb):=by
 intro pS s Y H Q I h
 exact wpAny_Compare1 (zvH ha hb I h fun v u s2 x y H2 I2 rx ry q=>ho pS s2 Y H2 x y v u Q I2 rx ry q) hm
def zuX(t:TE):TT:=fun Y H Q=>t Y H fun x H'=>∃ k,x=.bl k/\Q k H'
theorem zpi{op:CmpOp}{r:R2}(ho:OpR X (compareOp op) r)(ha:PE X a ta)(hb:PE X b tb)(hm:behindInMarks op b=false):PT X (.Compare a [op] [b] pos) (zuX (tOp r ta tb)):=by
 intro pS s Y H Q I h
 refine wpAny_isTrue_Compare1 (thn (ha pS s Y H _ I h) fun v s1 ⟨x,H1,I1,r1,q1⟩=>thn (hb pS s1 Y H1 _ I1 q1) fun u s2 ⟨y,H2,I2,r2,q2⟩ =>
  thn (ho pS s2 Y H2 x y v u _ I2 r1 r2 q2) fun c s3 ⟨z,H3,I3,r3,k,e,q3⟩=>?_) hm
 subst e
 cases r3
 exact wpAny_truthy_bool ⟨H3,I3,q3⟩
def zrl(r r':R2)(ta tb tc:TE):TE:=fun Y H Q=>ta Y H fun x H1=>tb Y H1 fun y H2=>r x y H2 fun z H3=>∃ k,z=.bl k /\
 (if k=true then tc Y H3 fun w' H4=>r' y w' H4 Q else Q (.bl false) H3)
theorem zrc{op op':CmpOp}{r r':R2}(ho:OpR X (compareOp op) r)(ho':OpR X (compareOp op') r')(ha:PE X a ta)(hb:PE X b tb)(hc:PE X c tc)
  (hm:lastMarks [op,op'] [b,c]=false:=by with_unfolding_all rfl):PE X (.Compare a [op,op'] [b,c] pos) (zrl r r' ta tb tc):=by
 intro pS s Y H Q I h
 refine Compare_chain (thn (ha pS s Y H _ I h) fun v s1 ⟨x,H1,I1,r1,q1⟩=>chain_link (thn (hb pS s1 Y H1 _ I1 q1) fun u s2 ⟨y,H2,I2,r2,q2⟩ =>
  thn (ho pS s2 Y H2 x y v u _ I2 r1 r2 q2) fun d s3 ⟨z,H3,I3,r3,k,e,q3⟩=>?_)) hm
 subst e
 cases r3
 refine wpAny_truthy_bool ?_
 cases k with
 |false=>exact ite_ff ⟨.bl false,H3,I3,rfl,q3⟩
 |true=>exact ite_tt (chain_last (thn (hc pS s3 Y H3 _ I3 q3) fun w' s4 ⟨z',H4,I4,r4,q4⟩=>ho' pS s4 Y H4 y z' u w' Q I4 r2 r4 q4))
theorem zj0:(sizeLine:Nat)<2 ^ 63:=by rw[sizeLine_eq];decide
theorem zgM{x:V}{us:List Value}(r:zbc [x] us):∃ u,us=[u]/\zbo x u:=by
 cases r with
 |cons r1 r2=>cases r2;exact ⟨_,rfl,r1⟩
theorem zmX{x y:V}{us:List Value}(r:zbc [x,y] us):∃ u w',us=[u,w']/\zbo x u/\zbo y w':=by
 cases r with
 |cons r1 r2 =>
  cases r2 with
  |cons r3 r4=>cases r4;exact ⟨_,_,rfl,r1,r3⟩
theorem zpe(hc:X.calm=true):zda X (.builtin "max") (fun xs H Q=>∃ i j,xs=[.int i,.int j]/\Q (.int (if j > i then j else i)) H):=by
 intro pS s Y H xs us Q I r h
 obtain ⟨i,j,rfl,q⟩:=h
 obtain ⟨u,w',rfl,⟨t,rfl⟩,⟨t',rfl⟩⟩:=zmX r
 refine max_two_ints (I.ok.hd hc) fun h' tk k=>⟨_,H,I.kept k,?_,q⟩
 by_cases hj:j > i
 ·rw[if_pos hj,if_pos hj];exact ⟨_,rfl⟩
 ·rw[if_neg hj,if_neg hj];exact ⟨_,rfl⟩
theorem zoA(hc:X.calm=true):zda X (.builtin "min") (fun xs H Q=>∃ i j,xs=[.int i,.int j]/\Q (.int (if j<i then j else i)) H):=by
 intro pS s Y H xs us Q I r h
 obtain ⟨i,j,rfl,q⟩:=h
 obtain ⟨u,w',rfl,⟨t,rfl⟩,⟨t',rfl⟩⟩:=zmX r
 refine min_two_ints (I.ok.hd hc) fun h' tk k=>⟨_,H,I.kept k,?_,q⟩
 by_cases hj:j<i
 ·rw[if_pos hj,if_pos hj];exact ⟨_,rfl⟩
 ·rw[if_neg hj,if_neg hj];exact ⟨_,rfl⟩
end
end L2
namespace L2
open PySem PySem.Spec PyProof.Rows
structure ObjM(h:Heap)(x dx C:Addr)(mA:Str->Option Value):Prop where
 obj:h.get? x=some (W.instObj C dx)
 ns:h.Ns1 dx mA
 ne:dx≠x
section
variable{prog:Program}{w:World}{A:Around}{E:Value->Shared->Prop}{s:Shared}{K:W.Frag}{x dx C f:Addr}{mA:Str->Option Value}{name:Str}{v:Value}
end
theorem zme.some_of{v:V}{o:Option Value}(r:zme (some v) o):∃ u,o=some u/\zbo v u:=by
 cases o with
 |none=>exact (show False from r).elim
 |some u=>exact ⟨u,rfl,r⟩
theorem zme.none_of{o:Option Value}(r:zme none o):o=none:=by
 cases o with
 |none=>rfl
 |some u=>exact (show False from r).elim
section
variable{P:Program}{w:World}{H H':Hp}{h h':Heap}{a C dx:Addr}{fs fs':List (Str×V)}
end
structure Cls(K:W.Frag)(C:Addr):Prop where
 pg:W.plainGet K C Str.empty=true
 hd:W.hasDictIn K C=true
 po:W.plainOver K C=true
 sa:W.findIn K (.ref C) "__setattr__"=some (some (.builtin "object.__setattr__"))
theorem Cls.get{K:W.Frag}{C:Addr}(c:Cls K C)(f:Str):W.plainGet K C f=true:=c.pg
structure Con(K:W.Frag)(C:Addr)(f:Str)(v:V)(u:Value):Prop where
 at_:W.findIn K (.ref C) f=some (some u)
 rel:zbo v u
 get:W.specialIn K u "__get__"=some none
 cp:W.copiedNames.contains f=false
structure Meth(K:W.Frag)(C:Addr)(m:Str)(f:Addr):Prop where
 at_:W.findIn K (.ref C) m=some (some (.ref f))
 fn:W.isFn K (.ref f)=true
 kp:W.keepIn K (.ref f)=true
section
variable{X:Cx}{pS:List (Addr×Obj)}{Y:St}{H:Hp}{s:Shared}{a C dx:Addr}{fs:List (Str×V)}{f:Str}{v:V}{A:Around}{E:Value->Shared->Prop}
end
section
variable{X:Cx}{o e value:Expr}{f:Str}{pos pos' tpos:Pos}{ta tv:TE}
end
section
variable{X:Cx}{pS:List (Addr×Obj)}{Y:St}{H:Hp}{s:Shared}{A:Around}{E:Value->Shared->Prop}{Q:Value->Shared->Prop}{c:Value}{b:Bool}
inductive zpp(K:W.Frag)(H:Hp):V->Value->Prop where
 |non:zpp K H .non (.type "NoneType")
 |bl (x:Bool):zpp K H (.bl x) (.type "bool")
 |int (i:Int):zpp K H (.int i) (.type "int")
 |str (x:Str):zpp K H (.str x) (.type "str")
 |flt (x:UInt64):zpp K H (.flt x) (.type "float")
 |lst {a:Addr} {xs:List V} (e:H a=some (.lst xs)):zpp K H (.ref a) (.type "list")
 |frz {a:Addr} {o:Obj} {xs:List V} (e:H a=some (.frz o (.lst xs))):zpp K H (.ref a) (.type "list")
 |tup {a:Addr} {xs:List V} (e:H a=some (.tup xs)):zpp K H (.ref a) (.type "tuple")
 |dK {a:Addr} {kvs:List (Key×V)} (e:H a=some (.dK kvs)):zpp K H (.ref a) (.type "dict")
 |dT {a:Addr} {kvs:List (List Key×V)} (e:H a=some (.dT kvs)):zpp K H (.ref a) (.type "dict")
 |ins {a C dx:Addr} {fs:List (Str×V)} (e:H a=some (.ins C dx fs)) (cl:Cls K C) (ha:W.findIn K (.ref C) "__class__"=some (some (.builtin "object.__class__")))
   (hn:W.specialIn K (.builtin "object.__class__") "__get__"=some (some (.builtin "getset_descriptor.__get__"))) (htk:W.takesIn K (.builtin "object.__class__")=some true)
   (hm:W.mroIn K C (.type "object")=some true):zpp K H (.ref a) (.ref C)
end
end L2
namespace L2
open PySem PySem.Spec PyProof.Rows
structure zcY(k:Nat)(A:Around):Prop where
 hd:A.handled=none
 dp:A.depth+3 * k+5<recursionLimit
 un:A.units+16 * k+200<cLine
theorem zcY.mono{j k:Nat}{A:Around}(r:zcY k A)(h:j<=k):zcY j A:=⟨r.hd,by have:=r.dp;omega,by have:=r.un;omega⟩
theorem zcY.deeper{k:Nat}{A:Around}(r:zcY (k+1) A)(env:Env):zcY k (A.deeper env) :=
 ⟨r.hd,by have:=r.dp;show A.depth+1+3 * k+5<_;omega,by have:=r.un;show A.units+3+16 * k+200<_;omega⟩
theorem zcY.in1{k:Nat}{A:Around}(r:zcY (k+1) A):zcY k A.in1 :=
 ⟨r.hd,by have:=r.dp;show A.depth+3 * k+5<_;omega,by have:=r.un;show A.units+1+16 * k+200<_;omega⟩
theorem zcY.depth{k:Nat}{A:Around}(r:zcY k A):A.depth<recursionLimit:=by have:=r.dp;omega
theorem zcY.units{k:Nat}{A:Around}(r:zcY k A):A.units+64<cLine:=by have:=r.un;omega
def tNil:TA:=fun _ H Q=>Q [] H
def zuz(ta:TE)(tr:TA):TA:=fun Y H Q=>ta Y H fun x H1=>tr Y H1 fun xs H2=>Q (x::xs) H2
section
variable{X:Cx}{e:Expr}{es:List Expr}{te:TE}{t:TA}{pos:Pos}
theorem zep:PA X [] tNil:=fun _ _ _ _ H Q I h=>Calls.spliced_nil ⟨[],H,I,.nil,h⟩
theorem zbT(ha:PE X e te)(hr:PA X es t)(hs:starEach (e::es) X.env=(false,eval e X.env)::starEach es X.env:=by rfl):PA X (e::es) (zuz te t):=by
 intro pos pS s Y H Q I h
 rw[hs]
 show wpAny _ _ (spliced ((false,eval e X.env)::backTo pos (starEach es X.env))) _ _ s
 refine Calls.spliced_cons (thn (ha pS s Y H _ I h) fun u s1 ⟨x,H1,I1,r1,q1⟩=>?_)
 exact thn (hr pos pS s1 Y H1 _ I1 q1) fun us s2 ⟨xs,H2,I2,r2,q2⟩=>⟨x::xs,H2,I2,.cons r1 r2,q2⟩
def tTup(t:TA):TE:=fun Y H Q=>t Y H fun xs H1=>xs.length<=sizeLine/\∀ p,H1 p=none->Q (.ref p) (upd H1 p (.tup xs))
def tLst(t:TA):TE:=fun Y H Q=>t Y H fun xs H1=>xs.length<=sizeLine/\∀ p,H1 p=none->Q (.ref p) (upd H1 p (.lst xs))
theorem ztn{x1}(h:PA X es t):PE X (.Tuple es x1 pos) (tTup t):=by
 intro pS s Y H Q I hq
 refine wpAny_Tuple_spliced (thn (h pos pS s Y H _ I hq) fun us s1 ⟨xs,H1,I1,r,z,q⟩=>⟨by rw[<- r.length];exact z,?_⟩)
 have hf:H1 s1.heap.objs.size=none:=I1.hok.fresh (wal _)
 refine ⟨.ref s1.heap.objs.size,upd H1 s1.heap.objs.size (.tup xs),I1.laid (t':=s1.toks) (fun b u e=>waa _ e) (wal _) ?_,rfl,q _ hf⟩
 exact ⟨z,us,r,⟨_,waj _ rfl⟩⟩
theorem zuH(h:PA X es t):PE X (.List es pos) (tLst t):=by
 intro pS s Y H Q I hq
 refine wpAny_List_spliced (thn (h pos pS s Y H _ I hq) fun us s1 ⟨xs,H1,I1,r,z,q⟩=>⟨by rw[<- r.length];exact z,?_⟩)
 have hf:H1 s1.heap.objs.size=none:=I1.hok.fresh (wal _)
 refine ⟨.ref s1.heap.objs.size,upd H1 s1.heap.objs.size (.lst xs),I1.laid (t':=s1.toks) (fun b u e=>waa _ e) (wal _) ?_,rfl,q _ hf⟩
 exact ⟨z,us,0,r,waj _ rfl⟩
end
abbrev Sp:=List V->Hp->VK->XK->Prop
abbrev CXT:=List Env->Hp->Shared->XK->Value->Shared->Prop
structure zp2(P:Program)(w:World)(K:W.Frag)(mg:Str->Option Value)(base:Heap)(A:Around)(outer:List Env)(s:Shared)(H:Hp):Prop where
 frames:A.frames=some outer
 mod:Mod K mg base
 bs:∀ b o,base.get? b=some o->s.heap.get? b=some o/\H b=none
 bsz:base.objs.size<=s.heap.objs.size
 funs:s.heap.FunFrames base outer
 frf:∀ b∈frs outer,H b=none
 hok:HOk P w H s.heap
 bare:AllBare s.gens
def CE(outer:List Env)(P:Program)(w:World)(H:Hp)(s:Shared)(Q:VK)(u:Value)(s':Shared):Prop :=
 ∃ v H',s'.os=s.os/\AllBare s'.gens/\Un (frs outer) [] H H' s.heap s'.heap/\HOk P w H' s'.heap/\zbo v u/\Q v H'
def CR(CX:CXT)(outer:List Env)(P:Program)(w:World)(H:Hp)(s:Shared)(Q:VK)(E:XK)(r:Result)(s':Shared):Prop :=
 match r with
 |.ok (.ret u)=>CE outer P w H s Q u s'
 |.ok _=>False
 |.error e=>CX outer H s E e s'
structure zhF(P:Program)(w:World)(K:W.Frag)(mg:Str->Option Value)(base:Heap)(CX:CXT)(k:Nat)(f:Addr)(fd:FuncData)(ps:List Str)(sp:Sp):Prop where
 len:∀ vs H Q E,sp vs H Q E->vs.length=ps.length
 run:∀(A:Around)(outer:List Env)(s:Shared)(H:Hp)(args:Args)(us:List Value)(vs:List V)(Q:VK)(E:XK),zcY k A->zp2 P w K mg base A outer s H->BindsTo s fd args (ps.zip us)->zbc vs us->sp vs H Q E ->
  codeAny (model P w) A (.call (.ref f) args) (CR CX outer P w H s Q E) s
theorem zhF.mono{P:Program}{w:World}{K:W.Frag}{mg:Str->Option Value}{base:Heap}{CX:CXT}{j k:Nat}{f:Addr}{fd:FuncData}{ps:List Str}{sp:Sp}(F:zhF P w K mg base CX j f fd ps sp)(h:j<=k) :
  zhF P w K mg base CX k f fd ps sp:=⟨F.len,fun A outer s H args us vs Q E hr=>F.run A outer s H args us vs Q E (hr.mono h)⟩
theorem zhF.imp{P:Program}{w:World}{K:W.Frag}{mg:Str->Option Value}{base:Heap}{CX:CXT}{k:Nat}{f:Addr}{fd:FuncData}{ps:List Str}{sp sp':Sp}(F:zhF P w K mg base CX k f fd ps sp)
  (h:∀ vs H Q E,sp' vs H Q E->sp vs H Q E):zhF P w K mg base CX k f fd ps sp' :=
 ⟨fun vs H Q E q=>F.len vs H Q E (h _ _ _ _ q),fun A outer s H args us vs Q E hr he hb hv hs=>F.run A outer s H args us vs Q E hr he hb hv (h _ _ _ _ hs)⟩
theorem zp2.in1{P:Program}{w:World}{K:W.Frag}{mg:Str->Option Value}{base:Heap}{A:Around}{outer:List Env}{s:Shared}{H:Hp}(e:zp2 P w K mg base A outer s H) :
  zp2 P w K mg base A.in1 outer s H:=⟨e.frames,e.mod,e.bs,e.bsz,e.funs,e.frf,e.hok,e.bare⟩
section
variable{X:Cx}{pS:List (Addr×Obj)}{Y:St}{H:Hp}{s s':Shared}
theorem Inv.env0(I:Inv X pS Y H s):zp2 X.prog X.w X.K X.mg X.base X.A X.stack s H :=
 ⟨I.ok.frames,I.ok.mod,I.bs,Nat.le_trans I.ok.bsz I.sz,I.stack,I.stkFree,I.hok,I.bare⟩
theorem Inv.after{Q:VK}{u:Value}(I:Inv X pS Y H s)(h:CE X.stack X.prog X.w H s Q u s'):EP X pS Y Q u s':=by
 obtain ⟨v,H',os,bare,un,hok,r,q⟩:=h
 obtain ⟨hh,g,d,t,os'⟩:=s'
 obtain rfl:os'=s.os:=os
 exact ⟨v,H',I.call (h':=hh) (g':=g) (d':=d) (t':=t) (ch:=[]) un hok bare (fun b z=>absurd z xws),r,q⟩
end
def zqC(sp:Sp)(dvs:List V)(E:XK)(t:TA):TE:=fun Y H Q=>t Y H fun vs H1=>sp (vs++dvs) H1 Q E
def zgP(K:W.Frag)(fd:FuncData)(ps:List Str)(ds:List Value):Prop :=
 ∀(s:Shared)(us:List Value),K.In s.heap->(us++ds).length=ps.length->BindsTo s fd ⟨us,[]⟩ (ps.zip (us++ds))
theorem zgP.all{K:W.Frag}{fd:FuncData}{ps:List Str}(h:∀ us:List Value,us.length=ps.length->bindArgs fd ⟨us,[]⟩=pure (ps.zip us)):zgP K fd ps []:=fun s us _ hl=>by
 rw[List.append_nil] at hl ⊢
 exact .of_eq (h us hl)
def zcH(CX:CXT)(X:Cx)(E:XK):Prop:=∀(pS:List (Addr×Obj))(Y:St)(H:Hp)(s:Shared)(e:Value)(s':Shared),Inv X pS Y H s->CX X.stack H s E e s'->X.xe e s'
section
variable{X:Cx}{CX:CXT}{k:Nat}{f C:Addr}{fd:FuncData}{ps:List Str}{sp:Sp}{dvs:List V}{ds:List Value}{E:XK}{x m:Str}{p pos apos:Pos}{e o:Expr}{es:List Expr}{ta:TE}{t:TA}
theorem ztJ{pS:List (Addr×Obj)}{Y:St}{H:Hp}{s:Shared}{Q:VK}{us:List Value}{vs:List V}(F:zhF X.prog X.w X.K X.mg X.base CX k f fd ps sp)(hr:zcY k X.A)(hb:zgP X.K fd ps ds)(hd:zbc dvs ds)(hx:zcH CX X E)
  (I:Inv X pS Y H s) (r:zbc vs us) (h:sp (vs++dvs) H Q E):wpAny (model X.prog X.w) X.A (call (.ref f) us) (EP X pS Y Q) X.xe s:=by
 have r2:zbc (vs++dvs) (us++ds):=r.append hd
 have hl:(us++ds).length=ps.length:=by rw[<- r2.length];exact F.len _ _ _ _ h
 refine wpAny_call (codeAny_mono (F.run X.A X.stack s H ⟨us,[]⟩ (us++ds) (vs++dvs) Q E hr I.env0 (hb s us I.kIn hl) r2 h) fun r s' hq=>?_)
 cases r with
 |error e=>exact hx pS Y H s e s' I hq
 |ok fl =>
  cases fl with
  |ret u=>exact I.after hq
  |next=>exact False.elim hq
  |brk=>exact False.elim hq
  |cont=>exact False.elim hq
theorem zkH(F:zhF X.prog X.w X.K X.mg X.base CX k f fd ps sp)(hr:zcY k X.A)(hg:Gl X x)(hm:X.mg x=some (.ref f))(hk:W.keepIn X.K (.ref f)=true)(hb:zgP X.K fd ps ds)(hd:zbc dvs ds)(hx:zcH CX X E)
  (ha:PA X (e::es) t) (hdb:(x == ("__debug__" : Str))=false:=by decide) (he:starEach (e::es) X.env=(false,eval e X.env)::starEach es X.env:=by rfl) (hpl:(backTo pos (starEach es X.env)).any (·.1)=false:=by rfl) :
  PE X (.Call (.Name x p) (e::es) [] pos) (zqC sp dvs E t):=by
 intro pS s Y H Q I h
 refine wpAny_Call_Name_kw (zhe I hg hm ?_ hdb)
 refine W.callWith_K (h₀:=X.base) I.ok.mod.kin hk (thn (ha pos pS s Y H _ I h) fun us s1 ⟨vs,H1,I1,r,q⟩=>⟨I1.kIn,?_⟩) he hpl
 exact ztJ F hr hb hd hx I1 r q
structure Mk(K:W.Frag)(C f:Addr):Prop where
 makes:W.makesIn K C=true
 init:W.findIn K (.ref C) "__init__"=some (some (.ref f))
 fn:W.isFn K (.ref f)=true
 kp:W.keepIn K (.ref C)=true
end
def PK(X:Cx)(kws:List Keyword)(t:TA):Prop :=
 ∀(pos:Pos)(pS:List (Addr×Obj))(s:Shared)(Y:St)(H:Hp)(Q:List V->Hp->Prop),Inv X pS Y H s->t Y H Q->wpAny (model X.prog X.w) X.A (evalAll ((backToKw pos (keywordEach kws X.env)).map (·.2))) (AP X pS Y Q) X.xe s
section
variable{X:Cx}{CX:CXT}{k:Nat}{f C:Addr}{fd:FuncData}{ps ks:List Str}{sp:Sp}{E:XK}{x m:Str}{p pos apos kpos:Pos}{e o:Expr}{es:List Expr}{kws:List Keyword}{te ta:TE}{t tk:TA}{nm:Option Str}
theorem zuy:PK X [] tNil:=fun _ _ _ _ H Q I h=>wpAny_evalAll_nil ⟨[],H,I,.nil,h⟩
theorem znS(ha:PE X e te)(hr:PK X kws t):PK X (⟨nm,e,kpos⟩::kws) (zuz te t):=by
 intro pos pS s Y H Q I h
 show wpAny _ _ (evalAll ((do let v <- eval e X.env;standAt pos;pure v)::(backToKw pos (keywordEach kws X.env)).map (·.2))) _ _ s
 refine wpAny_evalAll_cons (wab (thn (ha pS s Y H _ I h) fun u s1 ⟨x,H1,I1,r1,q1⟩=>wab (wpAny_standAt (wad ?_))))
 exact thn (hr pos pS s1 Y H1 _ I1 q1) fun us s2 ⟨xs,H2,I2,r2,q2⟩=>⟨x::xs,H2,I2,.cons r1 r2,q2⟩
structure KBinds(K:W.Frag)(fd:FuncData)(ps ks:List Str)(g:List Value->List Value->List Value)(gV:List V->List V->List V):Prop where
 to:∀(s:Shared)(us ws:List Value),K.In s.heap->(g us ws).length=ps.length->BindsTo s fd ⟨us,ks.zip ws⟩ (ps.zip (g us ws))
 rel:∀{vs:List V}{us:List Value}{zs:List V}{ws:List Value},zbc vs us->zbc zs ws->zbc (gV vs zs) (g us ws)
variable{g:List Value->List Value->List Value}{gV:List V->List V->List V}
end
structure zax(N P:List Str)(sc:Scope):Prop where
 kind:sc.kind=.function
 co:sc.isCoroutine=false
 gen:sc.isGenerator=false
 nd:N.Nodup
 pre:N.take P.length=P
 par:∀ x∈P,sc.names.lookup x=some .local\/sc.names.lookup x=some .cell
 nofree:∀ y∈sc.names,y.2≠.free
theorem zj1{kindOf:Str->Option NameKind}{x:Str}:∀{binds:List (Str×Value)}{m:Str->Option Value},(∀ v,(x,v)∉binds)->bindL kindOf binds m x=m x
 |[],_,_=>rfl
 | (n,v)::r,m,h=>by
  unfold bindL
  rw[zj1 fun w hw=>h w (List.mem_cons_of_mem _ hw)]
  split
  ·have:x≠n:=by rintro rfl;exact h v wau
   simp[this]
  ·rfl
theorem zj8{kindOf:Str->Option NameKind}{x:Str}:∀{binds:List (Str×Value)}{m:Str->Option Value},(∀ v,(x,v)∉binds)->bindC kindOf binds m x=m x
 |[],_,_=>rfl
 | (n,v)::r,m,h=>by
  unfold bindC
  rw[zj8 fun w hw=>h w (List.mem_cons_of_mem _ hw)]
  split
  ·rfl
  ·have:x≠n:=by rintro rfl;exact h v wau
   simp[this]
theorem zjp{kindOf:Str->Option NameKind}{x:Str}{v:Value}:∀{P:List Str}{vs:List Value}{i:Nat}{m:Str->Option Value},P.Nodup->P[i]? = some x->vs[i]? = some v->kindOf x=some .local ->
  bindL kindOf (P.zip vs) m x=some v
 |[],_,_,_,_,h,_,_=>by simp at h
 |_::_,[],_,_,_,_,h,_=>by simp at h
 |p::P,w::vs,0,m,nd,h1,h2,hk=>by
  simp at h1 h2;subst h1;subst h2
  show bindL kindOf ((p,w)::P.zip vs) m p=_
  unfold bindL
  rw[zj1 fun v hv=>(List.nodup_cons.mp nd).1 (List.of_mem_zip hv).1,if_pos hk]
  simp
 |p::P,w::vs,i+1,m,nd,h1,h2,hk=>by
  show bindL kindOf ((p,w)::P.zip vs) m x=_
  unfold bindL
  exact zjp (i:=i) (List.nodup_cons.mp nd).2 (by simpa using h1) (by simpa using h2) hk
theorem zjM{kindOf:Str->Option NameKind}{x:Str}{v:Value}:∀{P:List Str}{vs:List Value}{i:Nat}{m:Str->Option Value},P.Nodup->P[i]? = some x->vs[i]? = some v->kindOf x≠some .local ->
  bindC kindOf (P.zip vs) m x=some v
 |[],_,_,_,_,h,_,_=>by simp at h
 |_::_,[],_,_,_,_,h,_=>by simp at h
 |p::P,w::vs,0,m,nd,h1,h2,hk=>by
  simp at h1 h2;subst h1;subst h2
  show bindC kindOf ((p,w)::P.zip vs) m p=_
  unfold bindC
  rw[zj8 fun v hv=>(List.nodup_cons.mp nd).1 (List.of_mem_zip hv).1,if_neg hk]
  simp
 |p::P,w::vs,i+1,m,nd,h1,h2,hk=>by
  show bindC kindOf ((p,w)::P.zip vs) m x=_
  unfold bindC
  exact zjM (i:=i) (List.nodup_cons.mp nd).2 (by simpa using h1) (by simpa using h2) hk
def start(N:List Str)(vs:List V):St:=vs.map some++List.replicate (N.length-vs.length) none
def ziN(CX:CXT)(P:Program)(w:World)(K:W.Frag)(mg:Str->Option Value)(base:Heap)(N:List Str)(qual:Str)(scope:Scope)(f:Addr)(cd:Value)(A:Around)(outer:List Env)(s:Shared)(H:Hp)(E:XK):Cx where
 prog:=P
 w:=w
 K:=K
 mg:=mg
 base:=base
 A:=A.deeper (envOfC qual scope s.heap.objs.size f cd)
 N:=N
 s₀:=s
 H₀:=H
 env:=envOfC qual scope s.heap.objs.size f cd
 outer:=outer
 stack:=envOfC qual scope s.heap.objs.size f cd::outer
 ex:=[]
 calm:=true
 fn:=fun _=>true
 pn:=[]
 xe:=fun e s'=>wpAny (model P w) (A.deeper (envOfC qual scope s.heap.objs.size f cd)) (leaving (envOfC qual scope s.heap.objs.size f cd) e) (fun _ s''=>CX outer H s E e s'') (fun e' s''=>CX outer H s E e' s'') s'
theorem zmd{sc:Scope}{n:Nat}{x:Str}(h:sc.names.lookup x=some .cell):∃ c,(cellsFrom n sc.names []).lookup x=some c:=by
 have q:=W.cellsFrom_some sc.names n [] (.inl h)
 exact Option.isSome_iff_exists.mp q
theorem zh3{CX:CXT}{P:Program}{w:World}{K:W.Frag}{mg:Str->Option Value}{base:Heap}{N ps:List Str}{qual:Str}{scope:Scope}{f:Addr}{cd:Value}{A:Around}{outer:List Env}{s s1:Shared}{H:Hp}{E:XK}{us:List Value}{vs:List V}
  (S:zax N ps scope) (hd:A.handled=none) (e0:zp2 P w K mg base A outer s H) (hl:vs.length=ps.length) (r:zbc vs us)
  (x:InCallC s s.heap.objs.size (bindL (envOfC qual scope s.heap.objs.size f cd).kindOf (ps.zip us) fun _=>none) (cellsFrom (s.heap.objs.size+1) scope.names []) (bindC (envOfC qual scope s.heap.objs.size f cd).kindOf (ps.zip us) fun _=>none) s1) :
  Inv (ziN CX P w K mg base N qual scope f cd A outer s H E) [] (start N vs) H s1:=by
 have hpl:ps.length<=N.length:=by have:=congrArg List.length S.pre;rw[List.length_take] at this;omega
 obtain ⟨h1,tk,rfl,hk⟩:=x.done
 have noA:∀ b:Addr,b∉(ziN CX P w K mg base N qual scope f cd A outer s H E).ex:=fun b z=>absurd (show b∈([]:List Addr) from z) xws
 refine ⟨⟨e0.mod,S.kind,rfl,rfl,wal _,fun y z c h1 h2=>?_,fun y hy=>?_,fun y c _ h=>?_,fun _=>hd,Around.frames_deeper e0.frames,.inr ⟨rfl,rfl⟩,fun b z=>absurd z (noA b),e0.bs,e0.bsz,fun b _ _=>noA b,fun b z=>absurd z (noA b),e0.funs,e0.frf⟩,
  rfl,e0.bare,Un.kept hk,⟨_,x.toInCall.ns,fun i y v h1 h2 h3=>?_⟩,fun y c h=>⟨_,x.cell y c h⟩,e0.hok.fresh (wal _),fun y c h=>?_,fun p hp=>absurd (show p∈([]:List (Addr×Obj)) from hp) xws,e0.hok.kept hk,?_⟩
 ·exact name_of_addr x.apart (PySem.mem_of_lookup h1) (PySem.mem_of_lookup h2)
 ·have hy:scope.names.lookup y=some .cell\/scope.names.lookup y=some .free:=hy
  rcases hy with hy|hy
  ·exact zmd hy
  ·exact absurd rfl (S.nofree _ (PySem.mem_of_lookup hy))
 ·exact Nat.le_of_lt (x.above y c (PySem.mem_of_lookup h))
 ·have hi:i<vs.length:=by
   unfold start at h2
   by_cases hi:i<vs.length
   ·exact hi
   ·rw[List.getElem?_append_right (by simpa using hi)] at h2
    rw[List.getElem?_replicate] at h2
    split at h2 <;> cases h2
  have ha:vs[i]? = some v:=by
   unfold start at h2
   rw[List.getElem?_append_left (by simpa using hi),List.getElem?_map] at h2
   cases e:vs[i]? with
   |none=>rw[e] at h2;cases h2
   |some a=>rw[e] at h2;cases h2;rfl
  obtain ⟨u,hu,rv⟩:=r.get ha
  have hp:ps[i]? = some y:=by
   rw[<- S.pre,List.getElem?_take_of_lt xwo];exact h1
  have ndP:ps.Nodup:=by rw[<- S.pre];exact S.nd.sublist (List.take_sublist _ _)
  refine ⟨u,rv,?_⟩
  rcases S.par y (List.mem_of_getElem? hp) with k|k
  ·exact .inl ⟨k,zjp ndP hp hu k⟩
  ·obtain ⟨c,e⟩:=zmd (n:=s.heap.objs.size+1) k
   refine .inr ⟨.inl k,c,e,?_⟩
   have q:=x.cell y c e
   rw[zjM ndP hp hu (by show scope.names.lookup y≠_;rw[k];decide)] at q
   exact q
 ·exact e0.hok.fresh (Nat.le_of_lt (x.above y c (PySem.mem_of_lookup h)))
 ·unfold start
  show _=N.length
  rw[List.length_append,List.length_map,List.length_replicate]
  omega
theorem zqr{CX:CXT}{P:Program}{w:World}{K:W.Frag}{mg:Str->Option Value}{base:Heap}{k:Nat}{f:Addr}{name qual:Str}{params:Arguments}{body:List Stmt}{scope:Scope}{dV kV doc pm cdv ct oc:Value}{an od:Option Addr}
  {osl:Array (Option Value)} {N ps:List Str} {sp:Sp} (lk:K.lookup f=some ⟨oc,od,.func (W.fnOf name qual params body scope dV kV doc pm an cdv ct),osl⟩) (hcd:W.codeIn K cdv qual=true) (S:zax N ps scope)
  (len:∀ vs H Q E,sp vs H Q E->vs.length=ps.length)
  (hbody:∀(A:Around)(outer:List Env)(s:Shared)(H:Hp)(vs:List V)(Q:VK)(E:XK),zcY k (A.deeper (envOfC qual scope s.heap.objs.size f cdv))->sp vs H Q E ->
   ∃ t,PSs (ziN CX P w K mg base N qual scope f cdv A outer s H E) body t/\t { nx:=fun _ H'=>Q .non H',rt:=Q } (start N vs) H) :
  zhF P w K mg base CX (k+1) f (W.fnOf name qual params body scope dV kV doc pm an cdv ct) ps sp:=by
 refine ⟨len,fun A outer s H args us vs Q E hr e0 hb r hsp=>?_⟩
 have hl:=len _ _ _ _ hsp
 have KX:K.In s.heap:=e0.mod.kin.keeps fun b o e=>(e0.bs b o e).1
 have lim:s.heap.NoLimit:=e0.mod.nolimit.keeps fun b o e=>(e0.bs b o e).1
 have hkind:∀ y∈ps.zip us,scope.names.lookup y.1=some .local\/(scope.names.lookup y.1=some .cell/\((cellsFrom (s.heap.objs.size+1) scope.names []).lookup y.1).isSome=true):=fun ⟨n,v⟩ hy=>by
  rcases S.par n (List.of_mem_zip hy).1 with q|q
  ·exact .inl q
  ·exact .inr ⟨q,W.cellsFrom_some _ _ _ (.inl q)⟩
 refine codeAny_call_function hr.depth (KX _ _ lk) rfl S.co S.gen rfl (W.codeRec_of KX hcd) (hb _ _ _ _ ?_)
 refine wpAny_newFunctionEnv_cells S.kind hkind fun env he s1 x=>?_
 subst he
 refine ⟨lim.keeps x.toInCall.keep,codeAny_func ?_⟩
 obtain ⟨t,ht,hq⟩:=hbody A outer s H vs Q E (hr.deeper _) hsp
 have I:Inv (ziN CX P w K mg base N qual scope f cdv A outer s H E) [] (start N vs) H s1:=zh3 S hr.hd e0 hl r x
 refine wpAny_mono (ht [] s1 (start N vs) H _ I hq) (fun fl s' hs=>?_) fun e s' hs=>hs
 have fin:∀{Y':St}{H':Hp}{v:V}{u:Value},Inv (ziN CX P w K mg base N qual scope f cdv A outer s H E) [] Y' H' s'->zbo v u->Q v H'->CE outer P w H s Q u s' :=
  fun {Y' H' v u} J rv q=>⟨v,H',J.os,J.bare,J.base,J.hok,rv,q⟩
 cases fl with
 |ret u =>
  obtain ⟨v,Y',H',J,rv,q⟩:=hs
  exact fin J rv q
 |next =>
  obtain ⟨Y',H',J,q⟩:=hs
  exact fin (v:=V.non) (u:=Value.none) J rfl q
 |brk =>
  obtain ⟨_,_,_,q⟩:=hs
  exact False.elim q
 |cont =>
  obtain ⟨_,_,_,q⟩:=hs
  exact False.elim q
end L2
namespace L2
open PySem PySem.Spec PyProof.Rows
section
variable{X:Cx}{x:Str}{p pos:Pos}{e:Expr}{es:List Expr}{t:TA}{id T:String}{r:List V->Hp->VK->Prop}
def tCB(r:List V->Hp->VK->Prop)(t:TA):TE:=fun Y H Q=>t Y H fun vs H1=>r vs H1 Q
theorem zez(hc:zda X (.builtin id) r)(hg:Gl X x)(hm:X.mg x=none)(hv:bootBuiltins x=some (.builtin id))(ha:PA X (e::es) t)(hn:x≠"__name__":=by decide)(hdb:(x == ("__debug__" : Str))=false:=by decide)
  (he:starEach (e::es) X.env=(false,eval e X.env)::starEach es X.env:=by rfl) (hpl:(backTo pos (starEach es X.env)).any (·.1)=false:=by rfl):PE X (.Call (.Name x p) (e::es) [] pos) (tCB r t):=by
 intro pS s Y H Q I h
 refine wpAny_Call_Name_kw (zeA I hg hm hv ?_ hn hdb)
 exact PyProof.Rows.callWith_builtin1 (thn (ha pos pS s Y H _ I h) fun us s1 ⟨vs,H1,I1,r1,q1⟩=>hc pS s1 Y H1 vs us Q I1 r1 q1) he hpl
theorem zh6(hc:zda X (.type T) r)(hg:Gl X x)(hm:X.mg x=none)(hv:bootBuiltins x=some (.type T))(ha:PA X (e::es) t)(hn:x≠"__name__":=by decide)(hdb:(x == ("__debug__" : Str))=false:=by decide)
  (he:starEach (e::es) X.env=(false,eval e X.env)::starEach es X.env:=by rfl) (hpl:(backTo pos (starEach es X.env)).any (·.1)=false:=by rfl):PE X (.Call (.Name x p) (e::es) [] pos) (tCB r t):=by
 intro pS s Y H Q I h
 refine wpAny_Call_Name_kw (zeA I hg hm hv ?_ hn hdb)
 exact PyProof.Rows.callWith_type1 (thn (ha pos pS s Y H _ I h) fun us s1 ⟨vs,H1,I1,r1,q1⟩=>hc pS s1 Y H1 vs us Q I1 r1 q1) he hpl
end
end L2
namespace HT
open PySem PyProof.Rows
theorem rcLt_int(A:Around)(s:Shared)(a:Int)(t:Tok)(c:Int)(u:Tok)(prog:Program)(w:World)(E:Value->Shared->Prop)(Q:Value->Shared->Prop)(h:Q (.bool (decide (a<c))) s) :
  wpAny (model prog w) A (richCompare .Lt (.int a t) (.int c u)) Q E s :=
 (PyProof.Rows.lt_int h:wpAny (model prog w) A (compareOp .Lt (.int a t) (.int c u)) Q E s)
section
open PySem.SeqAt
open PySem.AutoSeq1 (wpAny_loadPart')
open PySem.MeetsSeq PySem.MeetsSeq2 PySem.MeetsSeq3
end
section
variable{prog:Program}{w:World}{A:Around}{E:Value->Shared->Prop}{s:Shared}
theorem cat_tup{t b:Addr}{vs ws:List Value}{Q:Value->Shared->Prop}(ht:IsTup s.heap t vs.toArray)(hb:IsTup s.heap b ws.toArray)(hv:vs≠[])
  (h1:ws=[]->Q (.ref t) s) (h2:ws≠[]->Q (.ref s.heap.objs.size) { s with heap:=s.heap.push { cls:=.type "tuple",data:=.seq (vs++ws).toArray } })
  (hsz:vs.length+ws.length<=sizeLine):wpAny (model prog w) A (binaryOp .Add (.ref t) (.ref b)) Q E s:=by
 obtain ⟨⟨cls,dd,data,sl⟩,ho,hc,n,hd⟩:=id ht
 obtain ⟨⟨cls2,dd2,data2,sl2⟩,ho2,hc2,n2,hd2⟩:=id hb
 simp only at hc hd hc2 hd2
 subst hc hd hc2 hd2
 have e:vs.toArray++ws.toArray=(vs++ws).toArray:=by simp
 by_cases hw:ws=[]
 ·exact concat_meets ⟨_,ho,rfl⟩ ⟨_,ho2,rfl⟩ noFill_tuple_add seq_tuple_add PySem.F.slot_tuple_add PySem.F.entry_tuple_add (PySem.F.args_tuple_add_2 _ _)
   (tuple_addW1 t b vs.toArray ws.toArray n n2 dd dd2 sl sl2 (by simpa using hv) (by simp[hw])) ⟨ho,ho2,h1 hw⟩
 ·refine concat_meets ⟨_,ho,rfl⟩ ⟨_,ho2,rfl⟩ noFill_tuple_add seq_tuple_add PySem.F.slot_tuple_add PySem.F.entry_tuple_add (PySem.F.args_tuple_add_2 _ _)
   (tuple_addW2 t b vs.toArray ws.toArray n n2 dd dd2 sl sl2 (by simpa using hv) (by simpa using hw) (by rw[List.size_toArray,List.size_toArray];exact hsz)) ⟨ho,ho2,?_⟩
  rw[e]
  exact h2 hw
def sIx(n d:Nat):Option Int->Nat
 |none=>d
 |some v=>if v<0 then (v+(n:Int)).toNat else min v.toNat n
theorem sIx_none(n d:Nat):sIx n d none=d:=rfl
theorem sIx_nat(n d k:Nat):sIx n d (some (k:Int))=min k n:=by
 show (if (k:Int)<0 then ((k:Int)+(n:Int)).toNat else min (k:Int).toNat n)=min k n
 rw[if_neg xwo,Int.toNat_natCast]
theorem ztT(n d:Nat)(hd:d<=n)(o:Option Int):sIx n d o<=n:=by
 cases o with
 |none=>exact hd
 |some v =>
  show (if v<0 then (v+(n:Int)).toNat else min v.toNat n)<=n
  by_cases hv:v<0
  ·rw[if_pos hv];omega
  ·rw[if_neg hv];exact Nat.min_le_right _ _
theorem zn3(v:Int)(n d:Nat):(if v<0 then max (v+(n:Int)) 0 else min v (n:Int))=((sIx n d (some v):Nat):Int):=by
 show (if v<0 then max (v+(n:Int)) 0 else min v (n:Int))=(((if v<0 then (v+(n:Int)).toNat else min v.toNat n):Nat):Int)
 by_cases hv:v<0
 ·simp only[if_pos hv];omega
 ·simp only[if_neg hv];omega
theorem zmH(lo hi:Option Int)(n:Nat):Builtin.Slice.sliceAdjust lo hi 1 (n:Int)=(((sIx n 0 lo:Nat):Int),((sIx n n hi:Nat):Int)):=by
 have h1:¬ ((1:Int)<0):=by omega
 unfold Builtin.Slice.sliceAdjust
 simp only[h1,if_false]
 refine Prod.ext ?_ ?_
 ·cases lo with
  |none=>rfl
  |some v=>exact zn3 v n 0
 ·cases hi with
  |none=>rfl
  |some v=>exact zn3 v n n
theorem zmO(i j:Nat):Builtin.Slice.slicePlaces (i:Int) (j:Int) 1=j-i:=by
 unfold Builtin.Slice.slicePlaces
 have h1:(1:Int) > 0:=by omega
 simp only[h1,if_true,Int.ediv_one]
 split <;> omega
theorem zii{v:Value}{o:Option Int}{Q:Option Int->Shared->Prop}(p:IsPart v o)(h:Q o s):wpAny (model prog w) A (Builtin.Slice.slicePartIndex v) Q E s:=by
 cases p with
 |none=>exact slicePart_none h
 |int i t=>exact slicePart_int h
theorem sliceApplied_gen{sl:Addr}{vl vu:Value}{lo hi:Option Int}{n:Nat}{Q:Int×Int×Nat->Shared->Prop}(hs:s.heap.IsSliceOf sl vl vu .none)(pl:IsPart vl lo)(pu:IsPart vu hi)
  (h:Q (((sIx n 0 lo:Nat):Int),1,sIx n n hi-sIx n 0 lo) s):wpAny (model prog w) A (Builtin.Slice.sliceApplied (.ref sl) (pure (n:Int))) Q E s:=by
 obtain ⟨os,hos,hcs,hds⟩:=id hs
 unfold Builtin.Slice.sliceApplied Builtin.Slice.sliceFields
 refine wab (wab (wpAny_field hos hds (x:=vl) rfl (wab (wpAny_field hos hds (x:=vu) rfl (wab (wpAny_field hos hds (x:=.none) rfl (wad ?_)))))))
 refine wab (slicePart_none ?_)
 show wpAny _ _ (if ((1:Int) == 0)=true then _ else _) _ _ s
 rw[if_neg xwd]
 refine wab (zii pl (wab (zii pu (wab (wad ?_)))))
 show wpAny _ _ (match Builtin.Slice.sliceAdjust lo hi 1 (n:Int) with|(lo,hi)=>pure (lo,(1:Int),Builtin.Slice.slicePlaces lo hi 1)) _ _ s
 rw[zmH lo hi n]
 show wpAny _ _ (pure (((sIx n 0 lo:Nat):Int),(1:Int),Builtin.Slice.slicePlaces ((sIx n 0 lo:Nat):Int) ((sIx n n hi:Nat):Int) 1)) _ _ s
 rw[zmO]
 exact wad h
theorem zqQ(xs:Array Value)(i k:Nat):((List.range k).filterMap fun (m:Nat)=>xs[((i:Int)+(m:Int) * 1).toNat]?).toArray=((xs.toList.drop i).take k).toArray:=by
 have e:(fun (m:Nat)=>xs[((i:Int)+(m:Int) * 1).toNat]?)=fun m=>xs[i+m]? := by
  funext m
  have:((i:Int)+(m:Int) * 1).toNat=i+m:=by omega
  rw[this]
 rw[e]
 have:=pick_run xs i k
 rw[List.filterMap_map] at this
 have e2:((fun x=>xs[x]?) ∘ fun x=>i+x)=fun m=>xs[i+m]? := rfl
 rw[e2] at this
 rw[this]
theorem getItem_tuple_cut{t sl:Addr}{items:Array Value}{vl vu:Value}{lo hi:Option Int}{Q:Value->Shared->Prop}(ht:IsTup s.heap t items)(hs:s.heap.IsSliceOf sl vl vu .none)(pl:IsPart vl lo)(pu:IsPart vu hi)
  (hw:¬ (sIx items.size 0 lo=0/\sIx items.size items.size hi=items.size))
  (h:Q (.ref s.heap.objs.size) { s with heap:=s.heap.push { cls:=.type "tuple",data:=.seq ((items.toList.drop (sIx items.size 0 lo)).take (sIx items.size items.size hi-sIx items.size 0 lo)).toArray } })
  (hsz:items.size<=sizeLine):wpAny (model prog w) A (getItem (.ref t) (.ref sl)) Q E s:=by
 have htake:sizeOk (.seq ((items.toList.drop (sIx items.size 0 lo)).take (sIx items.size items.size hi-sIx items.size 0 lo)).toArray):=by
  show ((items.toList.drop (sIx items.size 0 lo)).take (sIx items.size items.size hi-sIx items.size 0 lo)).toArray.size<=sizeLine
  rw[List.size_toArray,List.length_take,List.length_drop,Array.length_toList]
  omega
 have hj:sIx items.size items.size hi<=items.size:=ztT _ _ (wal _) hi
 obtain ⟨os,hos,hcs,hds⟩:=id hs
 have hTs:s.TypeIs (.ref sl) "slice":=⟨os,hos,hcs⟩
 unfold getItem
 try with_reducible refine wpAny_holding ?_
 first|refine wab (wad ?_)|skip
 refine wab (wpAny_sequenceKey ht.typeIs xwd ?_)
 refine wab (wpAny_callSpecial?_slot (name:=Str.ofString "__getitem__") ht.typeIs PyProof.Rows.slot_tuple_getitem
  (wpAny_call_entry PyProof.Rows.slot_tuple_getitem ht.typeIs entry_tuple_getitem ?_ (args_tuple_getitem _ _)))
 show wpAny _ _ (Builtin.Tuple.tupleItemsOf (.ref t) >>= _) _ _ s
 refine wab (tupleItemsOf_ ht ?_)
 refine wab (wpAny_typeOf hTs ?_)
 rw[if_pos xwd]
 refine wab (sliceApplied_gen hs pl pu ?_)
 have hno:¬ ((((sIx items.size 0 lo:Nat):Int) == 0 && (1:Int) == 1 && (sIx items.size items.size hi-sIx items.size 0 lo) == items.size)=true):=by
  intro q
  rw[Bool.and_eq_true,Bool.and_eq_true] at q
  have q1:((sIx items.size 0 lo:Nat):Int)=0:=eq_of_beq q.1.1
  have q2:sIx items.size items.size hi-sIx items.size 0 lo=items.size:=eq_of_beq q.2
  exact hw ⟨xwo,xwo⟩
 show wpAny _ _ (if (((sIx items.size 0 lo:Nat):Int) == 0 && (1:Int) == 1 && (sIx items.size items.size hi-sIx items.size 0 lo) == items.size)=true then _ else _) _ _ s
 rw[if_neg hno,zqQ]
 first
  |exact wab (m:=Builtin.Tuple.tupleExact _) (wpAny_newObj_type (wad ⟨_,rfl,wad h⟩) htake)
  |exact wab (m:=Builtin.Tuple.tupleExact _) (wpAny_newObj_type (wab (wad (wad ⟨_,rfl,wad h⟩))) htake)
  |exact wab (wab (m:=Builtin.Tuple.tupleExact _) (wpAny_newObj_type (wad (wad ⟨_,rfl,wad h⟩)) htake))
  |exact wab (wab (m:=Builtin.Tuple.tupleExact _) (wpAny_newObj_type (wad ⟨_,rfl,wad h⟩) htake))
end
end HT
namespace L2
open PySem PySem.Spec PyProof.Rows
abbrev TO:=St->Hp->(Option Int->Hp->Prop)->Prop
def PO(X:Cx)(e:Option Expr)(t:TO):Prop :=
 ∀(pS:List (Addr×Obj))(s:Shared)(Y:St)(H:Hp)(Q:Option Int->Hp->Prop),Inv X pS Y H s->t Y H Q ->
  wpAny (model X.prog X.w) X.A (evalPart e X.env) (fun u s'=>∃ o H',Inv X pS Y H' s'/\IsPart u o/\Q o H') X.xe s
def zsg:TO:=fun _ H Q=>Q none H
def zvt(t:TE):TO:=fun Y H Q=>t Y H fun x H1=>∃ i,x=.int i/\Q (some i) H1
theorem zfJ{ns:List Int}:∀{us:List Value},zbc (ns.map V.int) us->IntsAre us ns:=by
 induction ns with
 |nil=>intro us r;rw[List.map_nil] at r;cases r;exact .nil
 |cons n ns ih =>
  intro us r
  rw[List.map_cons] at r
  cases r with
  |cons r1 r2 =>
   obtain ⟨t,e⟩:=r1
   subst e
   exact .cons n t (ih r2)
section
variable{X:Cx}{e:Expr}{te:TE}{lo hi:Option Expr}{tl th:TO}{pos p2:Pos}
theorem zsR:PO X none zsg:=by
 intro pS s Y H Q I h
 rw[evalPart_none]
 exact wad ⟨none,H,I,.none,h⟩
theorem zsN(h:PE X e te):PO X (some e) (zvt te):=by
 intro pS s Y H Q I hw
 rw[evalPart_some]
 refine thn (h pS s Y H _ I hw) fun u s1 ⟨x,H1,I1,r1,q1⟩=>?_
 obtain ⟨i,rfl,q⟩:=q1
 obtain ⟨t,rfl⟩:=r1
 exact ⟨some i,H1,I1,.int i t,q⟩
def SlR(X:Cx)(r:V->Option Int->Option Int->Hp->VK->Prop):Prop :=
 ∀(pS:List (Addr×Obj))(s:Shared)(Y:St)(H:Hp)(x:V)(v vl vu:Value)(lo hi:Option Int)(sl:Addr)(Q:VK),Inv X pS Y H s->zbo x v->s.heap.IsSliceOf sl vl vu .none->IsPart vl lo->IsPart vu hi->r x lo hi H Q ->
  ∃ T id,typeLookup (.type T) "__getitem__"=pure (some (.builtin id))/\s.TypeIs v T/\wpAny (model X.prog X.w) X.A (getItem v (.ref sl)) (EP X pS Y Q) X.xe s
theorem SlR.or{r r':V->Option Int->Option Int->Hp->VK->Prop}(h:SlR X r)(h':SlR X r'):SlR X (fun x lo hi H Q=>r x lo hi H Q\/r' x lo hi H Q):=by
 intro pS s Y H x v vl vu lo hi sl Q I rx hs pl pu q
 rcases q with q|q
 ·exact h pS s Y H x v vl vu lo hi sl Q I rx hs pl pu q
 ·exact h' pS s Y H x v vl vu lo hi sl Q I rx hs pl pu q
def tSl(r:V->Option Int->Option Int->Hp->VK->Prop)(te:TE)(tl th:TO):TE:=fun Y H Q=>te Y H fun x H1=>tl Y H1 fun l H2=>th Y H2 fun u H3=>r x l u H3 Q
theorem zlR{r:V->Option Int->Option Int->Hp->VK->Prop}(hr:SlR X r)(he:PE X e te)(hl:PO X lo tl)(hu:PO X hi th):PE X (.Subscript e (.Slice lo hi none p2) pos) (tSl r te tl th):=by
 intro pS s Y H Q I h
 refine Subscript_ (thn (he pS s Y H _ I h) fun v s1 ⟨x,H1,I1,r1,q1⟩=>?_)
 refine wpAny_Slice (thn (hl pS s1 Y H1 _ I1 q1) fun vl s2 ⟨l,H2,I2,pl,q2⟩=>thn (hu pS s2 Y H2 _ I2 q2) fun vu s3 ⟨u,H3,I3,pu,q3⟩=>?_)
 rw[evalPart_none]
 refine wad ?_
 have I4:Inv X pS Y H3 { s3 with heap:=s3.heap.push { cls:=.type "slice",data:=.fields #[vl,vu,.none] } }:=I3.kept (t':=s3.toks) fun b ob q=>waa _ q
 obtain ⟨T,id,hT,ht,hg⟩:=hr pS { s3 with heap:=s3.heap.push { cls:=.type "slice",data:=.fields #[vl,vu,.none] } } Y H3 x v vl vu l u s3.heap.objs.size Q I4 r1 (Heap.IsSliceOf.new ..) pl pu q3
 show wpAny (model X.prog X.w) X.A (subscriptTail e (.Slice lo hi none p2) v (.ref s3.heap.objs.size)) (EP X pS Y Q) X.xe { s3 with heap:=s3.heap.push { cls:=.type "slice",data:=.fields #[vl,vu,.none] } }
 exact tail_any (ops:=[.ref s3.heap.objs.size,v]) ht hT hg (by with_unfolding_all rfl)
def znq(xs:List V)(lo hi:Option Int):List V:=(xs.drop (HT.sIx xs.length 0 lo)).take (HT.sIx xs.length xs.length hi-HT.sIx xs.length 0 lo)
theorem zgY(xs:List V)(lo hi:Option Int):(znq xs lo hi).length<=xs.length:=by
 unfold znq
 rw[List.length_take,List.length_drop]
 omega
def rSlT(K:W.Frag):V->Option Int->Option Int->Hp->VK->Prop:=fun x lo hi H Q=>∃ a xs,x=.ref a/\SqT K H a xs /\
 ¬ (HT.sIx xs.length 0 lo=0/\HT.sIx xs.length xs.length hi=xs.length)/\∀ p,H p=none->Q (.ref p) (upd H p (.tup (znq xs lo hi)))
theorem zul:SlR X (rSlT X.K):=by
 intro pS s Y H x v vl vu lo hi sl Q I rx hs pl pu h
 obtain ⟨a,xs,rfl,hx,hw,q⟩:=h
 cases rx
 obtain ⟨its,r,ht,hz⟩:=I.tuple hx
 have hlen:its.toArray.size=xs.length:=by rw[List.size_toArray];exact r.length.symm
 refine ⟨"tuple",_,PyProof.Rows.slot_tuple_getitem.lookup,ht.typeIs,?_⟩
 refine HT.getItem_tuple_cut ht hs pl pu (by rw[hlen];exact hw) ?_ (by rw[hlen];exact hz)
 rw[hlen]
 refine ⟨.ref s.heap.objs.size,_,I.laid (t':=s.toks) (o:=.tup (znq xs lo hi)) (fun b ob q=>waa _ q) (wal _) ?_,rfl,q _ (I.hok.fresh (wal _))⟩
 exact ⟨Nat.le_trans (zgY xs lo hi) hz,_,(r.drop (HT.sIx xs.length 0 lo)).take (HT.sIx xs.length xs.length hi-HT.sIx xs.length 0 lo),_,waj _ rfl⟩
def zvC(K:W.Frag):R2:=fun x y H Q=>∃ a b xs ys,x=.ref a/\y=.ref b/\SqT K H a xs/\SqT K H b ys/\xs≠[]/\xs.length+ys.length<=sizeLine /\
 (ys=[]->Q (.ref a) H)/\(ys≠[]->∀ p,H p=none->Q (.ref p) (upd H p (.tup (xs++ys))))
theorem zbc.nil_iff{xs:List V}{us:List Value}(r:zbc xs us):us=[] ↔ xs=[]:=by
 cases r with
 |nil=>simp
 |cons _ _=>simp
theorem zsQ:OpR X (binaryOp .Add) (zvC X.K):=by
 intro pS s Y H x y v u Q I rx ry h
 obtain ⟨a,b,xs,ys,rfl,rfl,ha,hb,hx,hz,q1,q2⟩:=h
 cases rx
 cases ry
 obtain ⟨its,r1,p1,_⟩:=I.tuple ha
 obtain ⟨its2,r2,p2,_⟩:=I.tuple hb
 refine HT.cat_tup p1 p2 (fun z=>hx (r1.nil_iff.mp z)) (fun z=>⟨.ref a,H,I,rfl,q1 (r2.nil_iff.mp z)⟩) (fun z=>?_) (by rw[<- r1.length,<- r2.length];exact hz)
 refine ⟨.ref s.heap.objs.size,_,I.laid (t':=s.toks) (o:=.tup (xs++ys)) (fun b ob q=>waa _ q) (wal _) ?_,rfl,q2 (fun w=>z (r2.nil_iff.mpr w)) _ (I.hok.fresh (wal _))⟩
 exact ⟨by rw[List.length_append];exact hz,_,r1.append r2,_,waj _ rfl⟩
end
end L2
namespace L2
open PySem PySem.Spec PyProof.Rows
def ixN(n:Nat)(i:Int):Option Nat:=if 0<=i then (if i<n then some i.toNat else none) else if -(n:Int)<=i then some (i+n).toNat else none
def atI{α:Type}(xs:List α)(i:Int):Option α:=(ixN xs.length i).bind fun j=>xs[j]?
theorem zkW{n:Nat}{i:Int}{j:Nat}(h:ixN n i=some j):seqIndex? i n=some j/\j<n/\-(n:Int)<=i/\i<n:=by
 unfold ixN at h
 by_cases h0:0<=i
 ·rw[if_pos h0] at h
  by_cases h1:i<n
  ·rw[if_pos h1] at h
   have e:i.toNat=j:=waB h
   exact ⟨by rw[seqIndex_of h0 h1,e],xwo,xwo,h1⟩
  ·rw[if_neg h1] at h;cases h
 ·rw[if_neg h0] at h
  by_cases h1:-(n:Int)<=i
  ·rw[if_pos h1] at h
   have e:(i+n).toNat=j:=waB h
   exact ⟨by rw[seqIndex_neg xwo h1,e],xwo,h1,xwo⟩
  ·rw[if_neg h1] at h;cases h
theorem zoa{α:Type}{xs:List α}{i:Int}{v:α}(h:atI xs i=some v):∃ j,seqIndex? i xs.length=some j/\xs[j]? = some v/\j<xs.length/\-(xs.length:Int)<=i/\i<xs.length:=by
 unfold atI at h
 cases e:ixN xs.length i with
 |none=>rw[e] at h;cases h
 |some j =>
  rw[e] at h
  obtain ⟨h1,h2,h3,h4⟩:=zkW e
  exact ⟨j,h1,h,h2,h3,h4⟩
theorem zhi{α:Type}{xs:List α}{j:Nat}{v:α}(h:xs[j]? = some v):atI xs (j:Int)=some v:=by
 have hj:j<xs.length:=(wam.mp h).1
 have e:ixN xs.length (j:Int)=some j:=by
  unfold ixN
  rw[if_pos xwo,if_pos xwo];simp
 unfold atI;rw[e];exact h
theorem zmb{α:Type}(xs:List α)(v:α):atI (xs++[v]) (-1)=some v:=by
 have hl:(xs++[v]).length=xs.length+1:=by simp
 have e:ixN (xs++[v]).length (-1)=some xs.length:=by
  unfold ixN
  rw[hl,if_neg xwd,if_pos xwo]
  congr 1
  omega
 unfold atI
 rw[e]
 show (xs++[v])[xs.length]? = some v
 simp
def zli(b:Expr):Prop:=∀ o i,subscripted b false o i=operate [o,i] (getItem o i)
def IxR(X:Cx)(r:R2):Prop :=
 ∀(value slice:Expr)(pS:List (Addr×Obj))(s:Shared)(Y:St)(H:Hp)(x y:V)(v u:Value)(Q:VK),Inv X pS Y H s->zbo x v->zbo y u->r x y H Q ->
  subscripted slice false v u=operate [v,u] (getItem v u)->wpAny (model X.prog X.w) X.A (subscriptTail value slice v u) (EP X pS Y Q) X.xe s
def MtR(X:Cx)(id:String)(r:V->List V->Hp->VK->Prop):Prop :=
 ∀(pS:List (Addr×Obj))(s:Shared)(Y:St)(H:Hp)(x:V)(xs:List V)(v:Value)(us:List Value)(Q:VK),Inv X pS Y H s->zbo x v->zbc xs us->r x xs H Q ->
  wpAny (model X.prog X.w) X.A (call (.builtin id) (v::us)) (EP X pS Y Q) X.xe s
section
variable{X:Cx}{a b:Expr}{ta tb:TE}{pos:Pos}
theorem IxR.or{r r':R2}(h:IxR X r)(h':IxR X r'):IxR X (fun x y H Q=>r x y H Q\/r' x y H Q):=by
 intro value slice pS s Y H x y v u Q I rx ry q hs
 rcases q with q|q
 ·exact h value slice pS s Y H x y v u Q I rx ry q hs
 ·exact h' value slice pS s Y H x y v u Q I rx ry q hs
theorem MtR.or{id:String}{r r':V->List V->Hp->VK->Prop}(h:MtR X id r)(h':MtR X id r'):MtR X id (fun x xs H Q=>r x xs H Q\/r' x xs H Q):=by
 intro pS s Y H x xs v us Q I rx rs q
 rcases q with q|q
 ·exact h pS s Y H x xs v us Q I rx rs q
 ·exact h' pS s Y H x xs v us Q I rx rs q
theorem zut{r:R2}(hr:IxR X r)(ha:PE X a ta)(hb:PE X b tb)(hs:zli b):PE X (.Subscript a b pos) (tOp r ta tb):=by
 intro pS s Y H Q I h
 exact Subscript_ (zvH ha hb I h fun v u s2 x y H2 I2 rx ry q=>hr a b pS s2 Y H2 x y v u Q I2 rx ry q (hs _ _))
def rIxL(K:W.Frag):R2:=fun x y H Q=>∃ p xs i v,x=.ref p/\y=.int i/\SqL K H p xs/\atI xs i=some v/\Q v H
def rIxT(K:W.Frag):R2:=fun x y H Q=>∃ p xs i v,x=.ref p/\y=.int i/\SqT K H p xs/\atI xs i=some v/\Q v H
theorem zn8:IxR X (rIxL X.K):=by
 intro value slice pS s Y H x y v u Q I rx ry h hs
 obtain ⟨p,xs,i,z,rfl,rfl,hq,he,q⟩:=h
 cases rx
 obtain ⟨t,rfl⟩:=ry
 obtain ⟨its,r,pl,hz⟩:=I.list hq
 obtain ⟨j,h1,h2,h3,h4,h5⟩:=zoa he
 obtain ⟨w,ew,rw'⟩:=r.get h2
 have hl:=r.length
 have hn:=zj0
 have fin:EP X pS Y Q w s:=⟨z,H,I,rw',q⟩
 by_cases h0:0<=i
 ·have hj:i.toNat=j:=by
   rw[seqIndex_of h0 h5] at h1
   exact waB h1
  exact item_listR pl.isList h0 xwo (by rw[hj];simpa using ew) fin hs
 ·have hj:(i+(its.toArray.size:Int)).toNat=j:=by
   rw[seqIndex_neg xwo h4] at h1
   rw[List.size_toArray,<- hl]
   exact waB h1
  exact subscriptTail_builtinR (x:=w) pl.isList.typeIs slot_list_getitem.lookup
   (wpAny_getItem_list_neg (Q:=fun r s'=>r=w/\EP X pS Y Q r s') pl.isList xwo (by rw[List.size_toArray] <;> omega) xwo (by rw[hj];simpa using ew) ⟨rfl,fin⟩) hs
theorem zun:IxR X (rIxT X.K):=by
 intro value slice pS s Y H x y v u Q I rx ry h hs
 obtain ⟨p,xs,i,z,rfl,rfl,hq,he,q⟩:=h
 cases rx
 obtain ⟨t,rfl⟩:=ry
 obtain ⟨its,r,pl,hz⟩:=I.tuple hq
 obtain ⟨j,h1,h2,h3,h4,h5⟩:=zoa he
 obtain ⟨w,ew,rw'⟩:=r.get h2
 have hl:=r.length
 have hn:=zj0
 have fin:EP X pS Y Q w s:=⟨z,H,I,rw',q⟩
 exact subscriptTail_builtinR (x:=w) pl.typeIs slot_tuple_getitem.lookup
  (getItem_tuple (j:=j) (Q:=fun r s'=>r=w/\EP X pS Y Q r s') pl xwo xwo (by rw[List.size_toArray,<- hl];exact h1) (by simpa using ew) ⟨rfl,fin⟩) hs
theorem zmE(its:List Value)(n j:Nat)(u:Value):Obj.mapSeq (·.setIfInBounds j u) { cls:=.type "list",data:=.seq its.toArray n }={ cls:=.type "list",data:=.seq (its.set j u).toArray n }:=by
 simp[Obj.mapSeq]
theorem Inv.lst{pS:List (Addr×Obj)}{Y:St}{H:Hp}{s:Shared}{p:Addr}{xs:List V}(I:Inv X pS Y H s)(h:H p=some (.lst xs)) :
  ∃(its:List Value)(n:Nat),zbc xs its/\s.heap.get? p=some { cls:=.type "list",data:=.seq its.toArray n }/\xs.length<=sizeLine:=by
 obtain ⟨z,its,n,r,e⟩:=I.hok p _ h
 exact ⟨its,n,r,e,z⟩
theorem Inv.lstUpd{pS:List (Addr×Obj)}{Y:St}{H:Hp}{s:Shared}{p:Addr}{xs ys:List V}{its its':List Value}{n n':Nat}{f:Obj->Obj}(I:Inv X pS Y H s)(h:H p=some (.lst xs))
  (ho:s.heap.get? p=some { cls:=.type "list",data:=.seq its.toArray n }) (hf:f { cls:=.type "list",data:=.seq its.toArray n }={ cls:=.type "list",data:=.seq its'.toArray n' }) (r:zbc ys its') (hz:ys.length<=sizeLine) (t:Nat) :
  Inv X pS Y (upd H p (.lst ys)) { s with heap:=s.heap.update p f,toks:=t }:=by
 have e:(s.heap.update p f).get? p=some { cls:=.type "list",data:=.seq its'.toArray n' }:=by
  rw[Heap.get?_update_self f ho (by rw[hf] <;> rfl),hf]
 refine I.write (x:=p) (e:=p) (by rw[h];trivial) (.inl rfl) (fun b u hb q=>(Heap.get?_update_other _ _ (Ne.symm hb)).trans q) ⟨_,e⟩ ?_
 exact ⟨hz,its',n',r,e⟩
def zvk:V->V->V->Hp->(Hp->Prop)->Prop:=fun o i v H Q=>∃ p xs k j,o=.ref p/\i=.int k/\H p=some (.lst xs)/\ixN xs.length k=some j/\Q (upd H p (.lst (xs.set j v)))
theorem zqp:PSet X zvk:=by
 intro pS s Y H o i v ov iv u Q I ro ri rv h
 obtain ⟨p,xs,k,j,rfl,rfl,hp,hj,q⟩:=h
 cases ro
 obtain ⟨t,rfl⟩:=ri
 obtain ⟨its,n,r,ho,hz⟩:=I.lst hp
 obtain ⟨h1,h2,h3,h4⟩:=zkW hj
 have hl:=r.length
 have hn:=zj0
 have I':Inv X pS Y (upd H p (.lst (xs.set j v))) { s with heap:=s.heap.update p (Obj.mapSeq (·.setIfInBounds j u)) } :=
  I.lstUpd hp ho (zmE its n j u) (r.set rv j) (by rw[List.length_set];exact hz) s.toks
 by_cases h0:0<=k
 ·have hk:k.toNat=j:=by
   rw[seqIndex_of h0 h4] at h1
   exact waB h1
  exact W.ki_setAt ho h0 xwo (by rw[List.size_toArray,<- hl];exact h4) (by rw[hk];exact ⟨_,I',q⟩)
 ·have hk:(k+(its.toArray.size:Int)).toNat=j:=by
   rw[seqIndex_neg xwo h3] at h1
   rw[List.size_toArray,<- hl]
   exact waB h1
  exact W.ki_setBack ho xwo (by rw[List.size_toArray,<- hl];exact h3) xwo (by rw[hk];exact ⟨_,I',q⟩)
theorem zjo(lo hi:Option Int)(n:Nat):(sliceBounds lo hi none n).1=((HT.sIx n 0 lo:Nat):Int)/\(sliceBounds lo hi none n).2.1=((HT.sIx n n hi:Nat):Int)/\(sliceBounds lo hi none n).2.2=1:=by
 refine ⟨?_,?_,rfl⟩
 ·cases lo with
  |none=>simp[sliceBounds,HT.sIx]
  |some i =>
   simp only[sliceBounds,HT.sIx,Option.getD_none,show (1:Int) > 0 by decide,if_true]
   by_cases h:i<0
   ·simp only[h,if_true] <;> omega
   ·simp only[h,if_false] <;> omega
 ·cases hi with
  |none=>simp[sliceBounds,HT.sIx]
  |some i =>
   simp only[sliceBounds,HT.sIx,Option.getD_none,show (1:Int) > 0 by decide,if_true]
   by_cases h:i<0
   ·simp only[h,if_true] <;> omega
   ·simp only[h,if_false] <;> omega
theorem zi0(its:List Value)(lo hi:Option Int):slicePick its.toArray lo hi none=((its.drop (HT.sIx its.length 0 lo)).take (HT.sIx its.length its.length hi-HT.sIx its.length 0 lo)).toArray:=by
 obtain ⟨h1,h2,h3⟩:=zjo lo hi its.toArray.size
 unfold slicePick
 rw[h1,h2,h3]
 simp only[sliceRange_one,pick_run,waf] <;> rfl
def rSlL(K:W.Frag):V->Option Int->Option Int->Hp->VK->Prop:=fun x lo hi H Q=>∃ a xs,x=.ref a/\SqL K H a xs/\∀ p,H p=none->Q (.ref p) (upd H p (.lst (znq xs lo hi)))
theorem zsK:SlR X (rSlL X.K):=by
 intro pS s Y H x v vl vu lo hi sl Q I rx hs pl pu h
 obtain ⟨a,xs,rfl,hx,q⟩:=h
 cases rx
 obtain ⟨its,r,ht,hz⟩:=I.list hx
 have hlen:=r.length
 refine ⟨"list",_,slot_list_getitem.lookup,ht.isList.typeIs,?_⟩
 refine wpAny_getItem_list_slice ht.isList hs pl pu .none xws ?_ (by rw[List.size_toArray] <;> omega)
 rw[zi0,<- hlen]
 refine ⟨.ref s.heap.objs.size,_,I.laid (t':=s.toks) (o:=.lst (znq xs lo hi)) (fun b ob q=>waa _ q) (wal _) ?_,rfl,q _ (I.hok.fresh (wal _))⟩
 exact ⟨Nat.le_trans (zgY xs lo hi) hz,_,0,(r.drop (HT.sIx xs.length 0 lo)).take (HT.sIx xs.length xs.length hi-HT.sIx xs.length 0 lo),waj _ rfl⟩
theorem zg6:zda X (.builtin "len") (fun xs H Q=>∃ p ys,xs=[.ref p]/\(SqL X.K H p ys\/SqT X.K H p ys)/\Q (.int ys.length) H):=by
 intro pS s Y H xs us Q I r h
 obtain ⟨p,ys,rfl,hq,q⟩:=h
 obtain ⟨u,rfl,rx⟩:=zgM r
 cases rx
 have hn:=zj0
 rcases hq with hq|hq
 ·obtain ⟨its,r',pl,hz⟩:=I.list hq
  have hlen:=r'.length
  exact Calls.call_len_list pl.isList (by simp only[waf] <;> omega) ⟨.int ys.length,H,I.tok _,⟨s.toks+1,by rw[List.size_toArray,hlen]⟩,q⟩
 ·obtain ⟨its,r',pl,hz⟩:=I.tuple hq
  have hlen:=r'.length
  exact len_tuple pl (by simp only[waf] <;> omega) ⟨.int ys.length,H,I.tok _,⟨s.toks+1,by rw[List.size_toArray,hlen]⟩,q⟩
theorem zjH:zda X (.builtin "len") (fun xs H Q=>∃ z,xs=[.str z]/\z.length<=sizeLine/\Q (.int z.length) H):=by
 intro pS s Y H xs us Q I r h
 obtain ⟨z,rfl,hz,q⟩:=h
 obtain ⟨u,rfl,t,rfl⟩:=zgM r
 have hn:=zj0
 exact len_str xwo ⟨.int z.length,H,I.tok _,⟨_,rfl⟩,q⟩
theorem zda.or{f:Value}{r r':List V->Hp->VK->Prop}(h:zda X f r)(h':zda X f r'):zda X f (fun xs H Q=>r xs H Q\/r' xs H Q):=by
 intro pS s Y H xs us Q I rs q
 rcases q with q|q
 ·exact h pS s Y H xs us Q I rs q
 ·exact h' pS s Y H xs us Q I rs q
theorem zjt:zda X (.type "list") (fun xs H Q=>∃ p ys,xs=[.ref p]/\(SqL X.K H p ys\/SqT X.K H p ys)/\∀ l,H l=none->Q (.ref l) (upd H l (.lst ys))):=by
 intro pS s Y H xs us Q I r h
 obtain ⟨p,ys,rfl,hq,q⟩:=h
 obtain ⟨u,rfl,rx⟩:=zgM r
 cases rx
 have fin:∀(its:List Value),zbc ys its->ys.length<=sizeLine->∀(h':Heap)(c':Nat),(∀ b o',s.heap.get? b=some o'->h'.get? b=some o') ->
   h'.get? s.heap.objs.size=some { cls:=.type "list",dict:=none,data:=.seq its.toArray c',slots:=#[] }->EP X pS Y Q (.ref s.heap.objs.size) { s with heap:=h' }:=fun its r' hz h' c' kp e =>
  ⟨.ref s.heap.objs.size,_,I.laid (t':=s.toks) kp (wal _) (show zbO X.prog X.w _ h' _ (.lst ys) from ⟨hz,its,c',r',e⟩),rfl,q _ (I.hok.fresh (wal _))⟩
 rcases hq with hq|hq
 ·obtain ⟨its,r',pl,hz⟩:=I.list hq
  have hlen:=r'.length
  obtain ⟨o,ho,hc,n,hd⟩:=pl.isList
  exact call_list_seq p (.inl rfl) ho hc hd (fun h' c' kp e=>fin its r' hz h' c' kp e) (by simp only[waf] <;> omega)
 ·obtain ⟨its,r',pl,hz⟩:=I.tuple hq
  have hlen:=r'.length
  obtain ⟨o,ho,hc,n,hd⟩:=pl
  exact call_list_seq p (.inr rfl) ho hc hd (fun h' c' kp e=>fin its r' hz h' c' kp e) (by simp only[waf] <;> omega)
theorem ziP:zda X (.type "tuple") (fun xs H Q=>∃ p ys,xs=[.ref p]/\((SqL X.K H p ys/\∀ l,H l=none->Q (.ref l) (upd H l (.tup ys)))\/(SqT X.K H p ys/\Q (.ref p) H))):=by
 intro pS s Y H xs us Q I r h
 obtain ⟨p,ys,rfl,h⟩:=h
 obtain ⟨u,rfl,rx⟩:=zgM r
 cases rx
 rcases h with ⟨hq,q⟩|⟨hq,q⟩
 ·obtain ⟨its,r',pl,hz⟩:=I.list hq
  have hlen:=r'.length
  refine call_tuple_list pl.isList (fun h' kp=>?_) (by simp only[waf] <;> omega)
  have I1:Inv X pS Y H { s with heap:=h' }:=I.kept (t':=s.toks) kp
  have I2:Inv X pS Y (upd H h'.objs.size (.tup ys)) { s with heap:=h'.push { cls:=.type "tuple",data:=.seq its.toArray } } :=
   I1.laid (t':=s.toks) (fun b o e=>waa _ e) (wal _) (show zbO X.prog X.w _ _ _ (.tup ys) from ⟨hz,its,r',_,waj _ rfl⟩)
  exact ⟨.ref h'.objs.size,_,I2,rfl,q _ (I1.hok.fresh (wal _))⟩
 ·obtain ⟨its,r',pl,hz⟩:=I.tuple hq
  exact call_tuple_same pl ⟨.ref p,H,I,rfl,q⟩
def tyV(K:W.Frag)(T:String)(x:V)(H:Hp):Prop:=match x with
 |.str _=>T="str"
 |.int _=>T="int"
 |.ref p=>(T="list"/\∃ xs,SqL K H p xs)\/(T="tuple"/\∃ o,K.lookup p=some o/\o.cls=.type "tuple"/\o.dict=none) \/
   (T="dict"/\((∃ kvs,H p=some (.dK kvs))\/∃ kvs,H p=some (.dT kvs)))\/(T="set"/\∃ S n,H p=some (.set S n))
 |_=>False
theorem zt7{pS:List (Addr×Obj)}{Y:St}{H:Hp}{s:Shared}{T:String}{x:V}{v:Value}(I:Inv X pS Y H s)(r:zbo x v)(ty:tyV X.K T x H) :
  s.TypeIs v T/\∀ a,v=.ref a->∃ ob,s.heap.get? a=some ob/\ob.dict=none:=by
 cases x with
 |str z =>
  obtain ⟨t,rfl⟩:=r
  cases (show T="str" from ty)
  exact ⟨typeIs_str s z t,fun _ e=>nomatch e⟩
 |int i =>
  obtain ⟨t,rfl⟩:=r
  cases (show T="int" from ty)
  exact ⟨typeIs_int s i t,fun _ e=>nomatch e⟩
 |ref p =>
  cases r
  rcases ty with ⟨rfl,xs,hq⟩|⟨rfl,o,hk,hc,hd⟩|⟨rfl,hk⟩|⟨rfl,S,n,hk⟩
  ·obtain ⟨its,_,pl,_⟩:=I.list hq
   refine ⟨pl.isList.typeIs,fun a e=>?_⟩
   cases e
   obtain ⟨o,n,e,c,hd,_⟩:=pl
   exact ⟨o,e,hd⟩
  ·refine ⟨⟨o,I.kIn p o hk,hc⟩,fun a e=>?_⟩
   cases e
   exact ⟨o,I.kIn _ o hk,hd⟩
  ·have z:∃ o,s.heap.get? p=some o/\o.ExactDict:=by
    rcases hk with ⟨kvs,hk⟩|⟨kvs,hk⟩
    ·obtain ⟨_,_,_,_,o,_,_,e,ex,_⟩:=I.hok p _ hk
     exact ⟨o,e,ex⟩
    ·obtain ⟨_,_,_,_,o,_,_,e,ex,_⟩:=I.hok p _ hk
     exact ⟨o,e,ex⟩
   obtain ⟨o,e,ex⟩:=z
   refine ⟨⟨o,e,ex.1⟩,fun a e2=>?_⟩
   cases e2
   exact ⟨o,e,ex.2.1⟩
  ·obtain ⟨o,_,_,_,e,ex,_⟩:=I.hok p _ hk
   refine ⟨⟨o,e,ex.1⟩,fun a e2=>?_⟩
   cases e2
   exact ⟨o,e,ex.2.1⟩
 |_=>exact False.elim ty
def tBM(K:W.Frag)(T:String)(r:V->List V->Hp->VK->Prop)(to:TE)(t:TA):TE:=fun Y H Q=>to Y H fun x H1=>tyV K T x H1/\t Y H1 fun xs H2=>r x xs H2 Q
variable{o e:Expr}{es:List Expr}{to:TE}{t:TA}{name:Str}{apos cpos:Pos}{T id:String}{r:V->List V->Hp->VK->Prop}
theorem zq4(pa:PlainAttrs T)(slot:Slot T name id)(hty:typeOf (.builtin id)=pure (.type "method_descriptor"))(hm:MtR X id r)(ho:PE X o to)(ha:PA X (e::es) t)
  (hbase:attributeBase o name X.env (eval o X.env)=eval o X.env:=by rfl)
  (hfew:((backTo cpos (starEach (e::es) X.env)).all (fun x=>!x.1) && (backToKw cpos (keywordEach [] X.env)).all (fun x=>x.1.isSome)
   && decide ((e::es).length+([]:List Keyword).length+(if ([]:List Keyword).isEmpty then 0 else 1)<30))=true:=by rfl)
  (hline:(apos.endLine == cpos.line)=true:=by rfl) (hs:starEach (e::es) X.env=(false,eval e X.env)::starEach es X.env:=by rfl) (hplain:(backTo cpos (starEach es X.env)).any (·.1)=false:=by rfl) :
  PE X (.Call (.Attribute o name apos) (e::es) [] cpos) (tBM X.K T r to t):=by
 intro pS s Y H Q I h
 refine wpAny_Call_method_late hbase hfew hline rfl (thn (ho pS s Y H _ I h) fun v s1 ⟨x,H1,I1,r1,ty,q1⟩=>?_)
 obtain ⟨h1,h2⟩:=zt7 I1 r1 ty
 refine ⟨T,id,pa,slot,hty,h1,h2,?_⟩
 have hA:=ha cpos pS s1 Y H1 _ I1 q1
 rw[hs] at hA ⊢
 refine Calls.callWith_builtin (by show (false || (backTo cpos (starEach es X.env)).any (·.1))=false;rw[hplain] <;> rfl) (Calls.evalArgs_plain ?_)
 exact thn hA fun us s2 ⟨vs,H2,I2,r2,q2⟩=>hm pS s2 Y H2 x vs v us Q I2 r1 r2 q2
end
end L2
namespace L2
open PySem PySem.Spec PyProof.Rows
def MtM(X:Cx)(id:String)(r:V->List V->Hp->VK->Prop):Prop :=
 ∀(pS:List (Addr×Obj))(s:Shared)(Y:St)(H:Hp)(x:V)(xs:List V)(v:Value)(us:List Value)(Q:VK),Inv X pS Y H s->zbo x v->zbc xs us->r x xs H Q ->
  wpAny (model X.prog X.w) X.A (call (.builtin id) (v::us)) (EP X pS Y Q) X.xe s
theorem zbc.one:∀{x:V}{us:List Value},zbc [x] us->∃ u,us=[u]/\zbo x u
 |_,_,.cons r .nil=>⟨_,rfl,r⟩
theorem zbc.dropLast{xs:List V}{us:List Value}(h:zbc xs us):zbc xs.dropLast us.dropLast:=by
 induction h with
 |nil=>exact .nil
 |cons r t ih =>
  cases t with
  |nil=>exact .nil
  |cons q t'=>exact .cons r ih
theorem zbc.eraseIdx:∀{xs:List V}{us:List Value}(i:Nat),zbc xs us->zbc (xs.eraseIdx i) (us.eraseIdx i)
 |_,_,_,.nil=>.nil
 |_,_,0,.cons _ t=>t
 |_,_,i+1,.cons r t=>.cons r (zbc.eraseIdx i t)
theorem zbc.reverse{xs:List V}{us:List Value}(h:zbc xs us):zbc xs.reverse us.reverse:=by
 induction h with
 |nil=>exact .nil
 |cons r t ih=>rw[List.reverse_cons,List.reverse_cons];exact zbc.append ih (.cons r .nil)
theorem zjQ{α:Type}:∀(l:List α)(i:Nat),(l.eraseIdx i).length<=l.length
 |[],_=>wal _
 |_::_,0=>Nat.le_succ _
 |_::r,i+1=>Nat.succ_le_succ (zjQ r i)
section
variable{X:Cx}{pS:List (Addr×Obj)}{Y:St}{H:Hp}{s:Shared}{l b:Addr}{xs ys zs:List V}
theorem Inv.lset{its its':List Value}{n:Nat}{f:Array Value->Array Value}{t':Nat}(I:Inv X pS Y H s)(hH:H l=some (.lst xs))
  (e:s.heap.get? l=some { cls:=.type "list",data:=.seq its.toArray n }) (hf:f its.toArray=its'.toArray) (hv:zbc ys its') (hz:ys.length<=sizeLine) :
  Inv X pS Y (upd H l (.lst ys)) { s with heap:=s.heap.update l (Obj.mapSeq f),toks:=t' }:=by
 have q:=PySem.IsL.update e f
 rw[hf] at q
 refine I.write (x:=l) (e:=l) (by rw[hH];exact trivial) (.inl rfl) (fun b' u hb hu=>(Heap.get?_update_other s.heap (Obj.mapSeq f) (Ne.symm hb)).trans hu) ⟨_,q⟩ ?_
 exact ⟨hz,its',_,hv,q⟩
theorem Inv.lnew{its:List Value}{t':Nat}(I:Inv X pS Y H s)(hv:zbc ys its)(hz:ys.length<=sizeLine) :
  Inv X pS Y (upd H s.heap.objs.size (.lst ys)) { s with heap:=s.heap.push { cls:=.type "list",data:=.seq its.toArray },toks:=t' } :=
 I.laid (fun _ _ q=>waa _ q) (wal _) ⟨hz,its,0,hv,waj _ rfl⟩
theorem Inv.fresh(I:Inv X pS Y H s):H s.heap.objs.size=none:=I.hok.fresh (wal _)
theorem Inv.lstM(I:Inv X pS Y H s)(hH:H l=some (.lst xs)):xs.length<=sizeLine/\∃(its:List Value)(n:Nat),zbc xs its/\xs.length=its.length/\s.heap.get? l=some { cls:=.type "list",data:=.seq its.toArray n }:=by
 obtain ⟨z,its,n,r,e⟩:=I.hok l _ hH
 exact ⟨z,its,n,r,r.length,e⟩
theorem zl8{n:Nat}(h:n<=sizeLine):Builtin.List.listTooLong n=false:=by
 unfold Builtin.List.listTooLong
 exact waw xwo
end
section
variable{X:Cx}
def zrG:V->List V->Hp->VK->Prop:=fun x vs H Q=>∃ l xs y,x=.ref l/\vs=[y]/\H l=some (.lst xs)/\xs.length<sizeLine/\Q .non (upd H l (.lst (xs++[y])))
theorem zjJ:MtM X "list.append" zrG:=by
 intro pS s Y H x vs v us Q I rx rv h
 obtain ⟨l,xs,y,rfl,rfl,hH,hz,q⟩:=h
 cases rx
 obtain ⟨u,rfl,ru⟩:=rv.one
 obtain ⟨z,its,n,r,hl,e⟩:=I.lstM hH
 refine call_meets F.slot_list_append ⟨_,e,rfl⟩ F.entry_list_append (F.args_list_append_2 _ _) (PySem.list_append l its.toArray n u (by rw[List.size_toArray];omega)) ⟨e,?_⟩
 refine ⟨.non,_,I.lset (its':=its++[u]) hH e xws (r.append (.cons ru .nil)) ?_,rfl,q⟩
 rw[List.length_append,List.length_singleton]
 omega
def zsy:V->List V->Hp->VK->Prop:=fun x vs H Q=>∃ l b xs zs,x=.ref l/\vs=[.ref b]/\H l=some (.lst xs)/\H b=some (.lst zs)/\xs.length+zs.length<=sizeLine/\Q .non (upd H l (.lst (xs++zs)))
theorem zn2:MtM X "list.extend" zsy:=by
 intro pS s Y H x vs v us Q I rx rv h
 obtain ⟨l,b,xs,zs,rfl,rfl,hH,hB,hz,q⟩:=h
 cases rx
 obtain ⟨u,rfl,ru⟩:=rv.one
 cases ru
 obtain ⟨z,its,n,r,hl,e⟩:=I.lstM hH
 obtain ⟨z2,its2,n2,r2,hl2,e2⟩:=I.lstM hB
 have hsz:its.toArray.size+its2.toArray.size<=sizeLine:=by rw[List.size_toArray,List.size_toArray];omega
 have hlong:¬ (!its.toArray.isEmpty && Builtin.List.listTooLong (its.toArray.size+its2.toArray.size))=true:=by
  rw[zl8 hsz,Bool.and_false]
  exact Bool.false_ne_true
 refine call_meets F.slot_list_extend ⟨_,e,rfl⟩ F.entry_list_extend (F.args_list_extend_2 _ _)
  (AutoSeq1.list_extend_list_list_0 l its.toArray n b its2.toArray n2 hlong (by rw[List.size_toArray];omega) xwo) ⟨e,e2,?_⟩
 refine ⟨.non,_,I.lset (its':=its++its2) hH e xws (r.append r2) ?_,rfl,q⟩
 rw[List.length_append]
 omega
def zuo:V->List V->Hp->VK->Prop:=fun x vs H Q=>∃ l xs i k y,x=.ref l/\vs=[.int i]/\H l=some (.lst xs)/\-(2 ^ 63)<=i/\i<2 ^ 63/\seqIndex? i xs.length=some k/\xs[k]? = some y/\Q y (upd H l (.lst (xs.eraseIdx k)))
theorem zpV:MtM X "list.pop" zuo:=by
 intro pS s Y H x vs v us Q I rx rv h
 obtain ⟨l,xs,i,k,y,rfl,rfl,hH,h1,h2,hk,hy,q⟩:=h
 cases rx
 obtain ⟨u,rfl,ru⟩:=rv.one
 obtain ⟨t,rfl⟩:=ru
 obtain ⟨z,its,n,r,hl,e⟩:=I.lstM hH
 obtain ⟨w,hw,rw'⟩:=r.get hy
 refine call_meets F.slot_list_pop ⟨_,e,rfl⟩ F.entry_list_pop (F.args_list_pop_2 _ _)
  (MeetsSeq.list_pop_at l its.toArray n i t k w (fitsIndex_both h1 h2) (by rw[List.size_toArray,<- hl];exact hk) (by rw[<- Array.getElem?_toList];exact hw) (by rw[List.size_toArray];omega)) ⟨e,?_⟩
 refine ⟨y,_,I.lset (its':=its.eraseIdx k) hH e ?_ (r.eraseIdx k) ?_,rw',q⟩
 ·show its.toArray.eraseIdxIfInBounds k=(its.eraseIdx k).toArray
  rw[List.eraseIdxIfInBounds_toArray]
 ·have:=zjQ xs k
  omega
def rCat:R2:=fun x y H Q=>∃ l b xs zs,x=.ref l/\y=.ref b/\H l=some (.lst xs)/\H b=some (.lst zs)/\xs.length+zs.length<=sizeLine/\∀ p,H p=none->Q (.ref p) (upd H p (.lst (xs++zs)))
theorem zuq:OpR X (binaryOp .Add) rCat:=by
 intro pS s Y H x y v u Q I rx ry h
 obtain ⟨l,b,xs,zs,rfl,rfl,hH,hB,hz,q⟩:=h
 cases rx
 cases ry
 obtain ⟨z,its,n,r,hl,e⟩:=I.lstM hH
 obtain ⟨z2,its2,n2,r2,hl2,e2⟩:=I.lstM hB
 refine PySem.P.add_list e e2 ?_ (by rw[List.size_toArray,List.size_toArray];omega)
 have ea:its.toArray++its2.toArray=(its++its2).toArray:=by simp
 rw[ea]
 exact ⟨.ref _,_,I.lnew (t':=s.toks) (r.append r2) (by rw[List.length_append];omega),rfl,q _ I.fresh⟩
end
section
variable{prog:Program}{w:World}{A:Around}{E:Value->Shared->Prop}{s:Shared}
set_option maxRecDepth 100000 in
end
section
variable{X:Cx}
end
end L2
namespace Att
open PySem PySem.W PySem.Calls PyProof.Rows
theorem zh4{P:Params}{h:Heap}:∀(ns:List Int)(vs:List Value),WellAll P h vs (ns.map WData.int)->IntsAre vs ns:=by
 intro ns
 induction ns with
 |nil =>
  intro vs w
  rw[List.map_nil] at w
  cases w
  exact .nil
 |cons n ns ih =>
  intro vs w
  rw[List.map_cons] at w
  cases w with
  |cons a b =>
   cases a
   exact .cons _ _ (ih _ b)
theorem zoi{l:OpenLaw}{n:Nat}(hn:l.most=some n){P:Params}{h:Heap}{args:List WData}{vals:List Value}
  (hpre:l.row.toRowW.claim.pre args=true) (hwl:WellAll P h vals args) :
  ∃ a vs ns,vals=[Value.ref a]/\args=[WData.list (ns.map WData.int)]/\h.get? a=some { cls:=.type "list",data:=.seq vs.toArray }/\IntsAre vs ns/\ns.length<=n:=by
 have hsh:WShape.hasAll [] args [.list .int]=true:=(pre_splitW hpre).1
 have hc:l.pre.holds [] { args:=args }=true:=(pre_splitW hpre).2
 obtain ⟨d,r,rfl,h1,h2⟩:=hasAllW_cons hsh
 obtain rfl:=hasAllW_nil h2
 obtain ⟨xs,rfl,h3⟩:=hasW_list h1
 obtain ⟨ns,rfl⟩:=items_int h3
 have hlen:ns.length<=n:=by
  unfold OpenLaw.pre at hc
  have h4:(WTm.not (.lt (.lit (.int (n:Int))) (.len (.arg 0)))).holds [] { args:=[.list (ns.map .int)] }=true:=by
   have h4:=(holds_andW hc).1
   rw[hn] at h4
   exact h4
  have h5:=condW_of h4 (w_not (w_lt w_lit (w_len_list (w_arg rfl))))
  rw[List.length_map] at h5
  refine Nat.le_of_not_lt fun q=>?_
  have q':(n:Int)<((ns.length:Nat):Int):=by omega
  first
   | (rw[decide_eq_true q'] at h5;exact absurd h5 xwd)
   | (simp at h5;omega)
 cases hwl with
 |cons w1 w2 =>
  cases w2
  cases w1 with
  |list ho hall=>exact ⟨_,_,ns,rfl,rfl,ho,zh4 ns _ hall,hlen⟩
theorem zom(l:OpenLaw)(args:List WData):l.row.toRowW.claim.post args (.bool true) args=true :=
 postW_of (r:=l.row.toRowW) (X:=(true == true))
  (show WShape.has [] (.bool true) .bool=true by first|rfl|decide|simp[WShape.has,WShape.arms,WShape.armsAll])
  (show (WTm.eq .res (.lit (.bool true))).value [] { args:=args,res:=some (.bool true),after:=args }=some (.bool (true == true)) from w_eq_bool (w_res rfl) w_lit) rfl
theorem attach_call{l:OpenLaw}{n:Nat}{q:Program}{loose:List Str}{XP:(Str->Option Value)->Heap->Prop}{YP:World->Heap->Prop}{d:DefRec}
  (hn:l.most=some n) (hdf:d.params.defaults=[])
  (call:∀(w:World)(s₀ s₁:Shared)(mg mb:Str->Option Value)(fa:Addr)(o:Obj)(pm cd doc:Value)(a:Addr)(vs:List Value)(ns:List Int),
   Ground q loose [] XP w s₀ mg mb s₁.heap->YP w s₁.heap ->
   s₁.heap.get? fa=some o->o.data=.func (docDef d.name d.params d.body d.scope pm cd doc)->s₁.heap.CodeRec cd d.name->mg d.name=some (.ref fa) ->
   s₁.heap.get? a=some { cls:=.type "list",data:=.seq vs.toArray }->IntsAre vs ns->ns.length<=n->s₁.gens=#[] ->
   codeAny (model l.prog w) callerA (.call (.ref fa) ⟨[.ref a],[]⟩) (fun r s'=>r=.ok (.ret (.bool true))/\OldK s₁.heap s'.heap/\s'.os=s₁.os/\AllBare s'.gens) s₁) :
  WalkO q loose XP YP l.row.toRowW d [] (fun f vs=>PySem.call f vs):=by
 intro w s₀ s₁ mg mb G Yq fa o pm cd doc dV kV ho hd hcd hD hmg hg args vals as hpre hlay hrd hwl hlo
 obtain rfl:dV=.none:=Dflts.none hD hdf
 obtain rfl:kV=.none:=Dflts.noKw hD
 obtain ⟨a,vs,ns,rfl,rfl,hobj,hints,hlen⟩:=zoi hn hpre hwl
 refine enter_call (codeAny_mono (call w s₀ s₁ mg mb fa o pm cd doc a vs ns G Yq ho (fd_plain hd) hcd hmg hobj hints hlen hg) fun r s' hq=>?_)
 obtain ⟨rfl,h2,h3,h4⟩:=hq
 exact ⟨.inl ⟨.bool true,.bool true,[],rfl,fun _=>rfl,.bool true,zom l _,fun _=>⟨List.Pairwise.nil,fun _ hm=>(nomatch hm)⟩⟩,h2,h3,h4⟩
section
variable{prog:Program}{w:World}{A:Around}{E:Value->Shared->Prop}{s:Shared}{K:Frag}
end
end Att
namespace L2
open PySem PySem.Spec PyProof.Rows
theorem zem:∀{vs:List Value}{ns:List Int},IntsAre vs ns->zbc (ns.map V.int) vs
 |_,_,.nil=>.nil
 |_,_,.cons n t h=>.cons ⟨t,rfl⟩ (zem h)
end L2
namespace L2
open PySem PySem.Spec PyProof.Rows
end L2
namespace L2
open PySem PySem.Spec PyProof.Rows
def zdZ(s:Stmt):Arguments:=match s with
 |.FunctionDef _ a _ _ _ _ _ _ _ _=>a
 |_=>{ posonlyargs:=[],args:=[],vararg:=none,kwonlyargs:=[],kw_defaults:=[],kwarg:=none,defaults:=[] }
def zcj(s:Stmt):List Stmt:=match s with
 |.FunctionDef _ _ b _ _ _ _ _ _ _=>b
 |_=>[]
def zaj(s:Stmt):Scope:=match s with
 |.FunctionDef _ _ _ _ _ _ sc _ _ _=>sc
 |_=>{ kind:=.function,names:=[],isGenerator:=false,isCoroutine:=false }
abbrev CX0:CXT:=fun _ _ _ _ _ _=>False
structure Fun(K:W.Frag)(x qual:Str)(st:Stmt)(f:Addr)(fd:FuncData):Prop where
 ex:∃(oc:Value)(od:Option Addr)(kV doc pm:Value)(an:Option Addr)(cdv ct:Value)(osl:Array (Option Value)),
  fd=W.fnOf x qual (zdZ st) (zcj st) (zaj st) .none kV doc pm an cdv ct/\K.lookup f=some ⟨oc,od,.func fd,osl⟩/\W.codeIn K cdv qual=true
 kp:W.keepIn K (.ref f)=true
section
variable{P:Program}{w:World}{K:W.Frag}{mg:Str->Option Value}{base:Heap}
theorem Fun.ok{x qual:Str}{st:Stmt}{f:Addr}{fd:FuncData}{N ps:List Str}{k:Nat}{sp:Sp}(F:Fun K x qual st f fd)(S:zax N ps (zaj st))(len:∀ vs H Q E,sp vs H Q E->vs.length=ps.length)
  (hbody:∀(cdv:Value)(A:Around)(outer:List Env)(s:Shared)(H:Hp)(vs:List V)(Q:VK)(E:XK),zcY k (A.deeper (envOfC qual (zaj st) s.heap.objs.size f cdv))->sp vs H Q E ->
   ∃ t,PSs (ziN CX0 P w K mg base N qual (zaj st) f cdv A outer s H E).nox (zcj st) t/\t { nx:=fun _ H'=>Q .non H',rt:=Q } (start N vs) H):zhF P w K mg base CX0 (k+1) f fd ps sp:=by
 obtain ⟨oc,od,kV,doc,pm,an,cdv,ct,osl,rfl,lk,hcd⟩:=F.ex
 refine zqr lk hcd S len fun A outer s H vs Q E hr hsp=>?_
 obtain ⟨t,h,q⟩:=hbody cdv A outer s H vs Q E hr hsp
 exact ⟨t,h.nox,q⟩
theorem Fun.binds{x qual:Str}{st:Stmt}{f:Addr}{fd:FuncData}{ps:List Str}(F:Fun K x qual st f fd)
  (h:∀(kV doc pm:Value)(an:Option Addr)(cdv ct:Value)(us:List Value),us.length=ps.length->bindArgs (W.fnOf x qual (zdZ st) (zcj st) (zaj st) .none kV doc pm an cdv ct) ⟨us,[]⟩=pure (ps.zip us)):zgP K fd ps []:=by
 obtain ⟨oc,od,kV,doc,pm,an,cdv,ct,osl,rfl,lk,hcd⟩:=F.ex
 exact .all (h kV doc pm an cdv ct)
theorem zpk{x qual:Str}{st:Stmt}{f:Addr}{oc:Value}{od an:Option Addr}{osl:Array (Option Value)}{kV doc pm cdv ct:Value}(l:K.lookup f=some ⟨oc,od,.func (W.fnOf x qual (zdZ st) (zcj st) (zaj st) .none kV doc pm an cdv ct),osl⟩)
  (c:W.codeIn K cdv qual=true) (k:W.keepIn K (.ref f)=true):Fun K x qual st f (W.fnOf x qual (zdZ st) (zcj st) (zaj st) .none kV doc pm an cdv ct):=⟨⟨oc,od,kV,doc,pm,an,cdv,ct,osl,rfl,l,c⟩,k⟩
end
section
variable{X:Cx}
end
theorem iteF{A B:Prop}(h:B):if false=true then A else B:=by
 rw[if_neg Bool.false_ne_true]
 exact h
theorem iteT{A B:Prop}(h:A):if true=true then A else B:=by
 rw[if_pos rfl]
 exact h
def zcq(H H':Hp):Prop:=∀ b o,H b=some o->H' b=some o
theorem zcq.refl(H:Hp):zcq H H:=fun _ _ h=>h
theorem zcq.trans{H H1 H2:Hp}(a:zcq H H1)(b:zcq H1 H2):zcq H H2:=fun c o h=>b c o (a c o h)
theorem zcq.free{H H':Hp}(e:zcq H H'){l:Addr}(h:H' l=Option.none):H l=Option.none:=by
 cases q:H l with
 |none=>rfl
 |some o =>
  rw[e l o q] at h
  cases h
theorem zcq.seq{K:W.Frag}{H H':Hp}{a:Addr}{xs:List V}(e:zcq H H')(h:SqL K H a xs):SqL K H' a xs:=by
 rcases h with (h|⟨o,h⟩)|h
 ·exact .inl (.inl (e _ _ h))
 ·exact .inl (.inr ⟨o,e _ _ h⟩)
 ·exact .inr h
section
variable{κ:Type} [DecidableEq κ]
def zmi(kvs:List (κ×V))(k:κ):Option V:=(kvs.find? fun kv=>decide (kv.1=k)).map (·.2)
def zj3(kvs:List (κ×V))(k:κ)(v:V):List (κ×V) :=
 if (kvs.any fun kv=>decide (kv.1=k))=true then kvs.map (fun kv=>if kv.1=k then (kv.1,v) else kv) else kvs++[(k,v)]
def zuF(kvs:List (κ×V))(k:κ):List (κ×V):=kvs.filter fun kv=>decide (kv.1≠k)
theorem zgU{p:κ×V}{r:List (κ×V)}{k:κ}(e:p.1=k):zmi (p::r) k=some p.2:=by simp[zmi,List.find?_cons,e]
theorem zgQ{p:κ×V}{r:List (κ×V)}{k:κ}(e:¬ p.1=k):zmi (p::r) k=zmi r k:=by simp[zmi,List.find?_cons,e]
theorem zjf(k:κ):∀ kvs:List (κ×V),(kvs.any fun kv=>decide (kv.1=k))=(zmi kvs k).isSome
 |[]=>rfl
 |p::r=>by
  rw[List.any_cons]
  by_cases e:p.1=k
  ·simp only[zgU e,wat e,Bool.true_or,Option.isSome_some]
  ·rw[zgQ e,decide_eq_false e,Bool.false_or];exact zjf k r
theorem zeH(kvs:List (κ×V))(k:κ)(v:V):(zj3 kvs k v).length<=kvs.length+1:=by
 unfold zj3
 split
 ·rw[List.length_map];omega
 ·rw[List.length_append,List.length_cons,List.length_nil];omega
theorem zme.isSome_eq{o:Option V}{u:Option Value}(r:zme o u):o.isSome=u.isSome:=by
 cases o with
 |none=>cases u with
  |none=>rfl
  |some _=>exact (show False from r).elim
 |some _=>cases u with
  |none=>exact (show False from r).elim
  |some _=>rfl
theorem zme.getD{o:Option V}{u:Option Value}{d:V}{d':Value}(r:zme o u)(rd:zbo d d'):zbo (o.getD d) (u.getD d'):=by
 cases o with
 |none=>cases u with
  |none=>exact rd
  |some _=>exact (show False from r).elim
 |some _=>cases u with
  |none=>exact (show False from r).elim
  |some _=>exact r
theorem KV.val{kvs:List (κ×V)}{vs:List (κ×Value)}(r:KV kvs vs)(k:κ):zme (zmi kvs k) (valueAt vs k):=by
 unfold KV at r
 induction r with
 |nil=>exact True.intro
 |@cons p q ps qs h t ih =>
  obtain ⟨h1,h2⟩:=h
  by_cases e:p.1=k
  ·have e':q.1=k:=h1.symm.trans e
   have b:valueAt (q::qs) k=some q.2:=by simp[valueAt,List.find?_cons,e']
   rw[zgU e,b];exact h2
  ·have e':¬ q.1=k:=fun z=>e (h1.trans z)
   have b:valueAt (q::qs) k=valueAt qs k:=by simp[valueAt,List.find?_cons,e']
   rw[zgQ e,b];exact ih
theorem KV.any{kvs:List (κ×V)}{vs:List (κ×Value)}(r:KV kvs vs)(k:κ):(kvs.any fun kv=>decide (kv.1=k))=vs.any fun kv=>decide (kv.1=k):=by
 unfold KV at r
 induction r with
 |nil=>rfl
 |cons h t ih=>rw[List.any_cons,List.any_cons,ih,h.1]
theorem KV.repl{kvs:List (κ×V)}{vs:List (κ×Value)}(r:KV kvs vs)(k:κ){y:V}{u:Value}(ry:zbo y u) :
  KV (kvs.map fun kv=>if kv.1=k then (kv.1,y) else kv) (vs.map fun kv=>if kv.1=k then (kv.1,u) else kv):=by
 unfold KV at r ⊢
 induction r with
 |nil=>exact .nil
 |@cons p q ps qs h t ih =>
  rw[List.map_cons,List.map_cons]
  refine .cons ?_ ih
  obtain ⟨h1,h2⟩:=h
  by_cases e:p.1=k
  ·rw[if_pos e,if_pos (h1.symm.trans e)];exact ⟨h1,ry⟩
  ·rw[if_neg e,if_neg (fun z=>e (h1.trans z))];exact ⟨h1,h2⟩
theorem KV.put{kvs:List (κ×V)}{vs:List (κ×Value)}(r:KV kvs vs)(k:κ){y:V}{u:Value}(ry:zbo y u):KV (zj3 kvs k y) (stored vs k u):=by
 unfold zj3 stored
 rw[r.any k]
 by_cases e:(vs.any fun kv=>decide (kv.1=k))=true
 ·rw[if_pos e,if_pos e];exact r.repl k ry
 ·rw[if_neg e,if_neg e];exact Paired.snoc r ⟨rfl,ry⟩
theorem KV.drop{kvs:List (κ×V)}{vs:List (κ×Value)}(r:KV kvs vs)(k:κ):KV (zuF kvs k) (without vs k):=by
 unfold KV at r ⊢
 unfold zuF without
 induction r with
 |nil=>exact .nil
 |@cons p q ps qs h t ih =>
  obtain ⟨h1,h2⟩:=h
  rw[List.filter_cons,List.filter_cons]
  by_cases e:p.1=k
  ·have a:¬ decide (p.1≠k)=true:=by simp[e]
   have b:¬ decide (q.1≠k)=true:=by simp[h1.symm.trans e]
   rw[if_neg a,if_neg b];exact ih
  ·have e':¬ q.1=k:=fun z=>e (h1.trans z)
   have a:decide (p.1≠k)=true:=by simp[e]
   have b:decide (q.1≠k)=true:=by simp[e']
   rw[if_pos a,if_pos b];exact .cons ⟨h1,h2⟩ ih
theorem KV.length{kvs:List (κ×V)}{vs:List (κ×Value)}(r:KV kvs vs):kvs.length=vs.length:=Paired.length r
end
theorem zm7{P:Program}{w:World}{k:Key}{u:Value}(r:zbo (kV k) u):(zbM P w).is k u=true:=by
 cases k with
 |inl i=>obtain ⟨t,e⟩:=(show ∃ t,u=Value.int i t from r);subst e;exact zk1 P w i t
 |inr x=>obtain ⟨t,e⟩:=(show ∃ t,u=Value.str x t from r);subst e;exact zkR P w x t
theorem zkg{P:Program}{w:World}:∀{ks:List Key}{us:List Value},zbc (ks.map kV) us->ItemsAre (zbM P w) ks us
 |[],_,r=>by rw[List.map_nil] at r;cases r;exact .nil
 |k::ks,_,r=>by
  rw[List.map_cons] at r
  cases r with
  |cons h t=>exact .cons (zm7 h) (zkg t)
abbrev KT(H:Hp):List (List Key×V)->List (List Key×Addr×Value)->Prop:=Paired fun p q=>p.1=q.1/\H q.2.1=some (.tup (p.1.map kV))/\zbo p.2 q.2.2
theorem KT.val{H:Hp}{kvs:List (List Key×V)}{xs:List (List Key×Addr×Value)}(r:KT H kvs xs)(k:List Key):zme (zmi kvs k) ((atKey xs k).map (·.2)):=by
 induction r with
 |nil=>exact True.intro
 |@cons p q ps qs h t ih =>
  obtain ⟨h1,_,h2⟩:=h
  by_cases e:p.1=k
  ·have e':q.1=k:=h1.symm.trans e
   have b:atKey (q::qs) k=some q.2:=by simp[atKey,List.find?_cons,e']
   rw[zgU e,b];exact h2
  ·have e':¬ q.1=k:=fun z=>e (h1.trans z)
   have b:atKey (q::qs) k=atKey qs k:=by simp[atKey,List.find?_cons,e']
   rw[zgQ e,b];exact ih
theorem KT.repl{H:Hp}{kvs:List (List Key×V)}{xs:List (List Key×Addr×Value)}(r:KT H kvs xs)(k:List Key){y:V}{u:Value}(ry:zbo y u) :
  KT H (kvs.map fun kv=>if kv.1=k then (kv.1,y) else kv) (xs.map (putAt k u)):=by
 induction r with
 |nil=>exact .nil
 |@cons p q ps qs h t ih =>
  rw[List.map_cons,List.map_cons]
  refine .cons ?_ ih
  obtain ⟨h1,h2,h3⟩:=h
  unfold putAt
  by_cases e:p.1=k
  ·rw[if_pos e,if_pos (h1.symm.trans e)];exact ⟨h1,h2,ry⟩
  ·rw[if_neg e,if_neg (fun z=>e (h1.trans z))];exact ⟨h1,h2,h3⟩
theorem KT.put{H:Hp}{kvs:List (List Key×V)}{xs:List (List Key×Addr×Value)}(r:KT H kvs xs)(k:List Key){b:Addr}{y:V}{u:Value}(hb:H b=some (.tup (k.map kV)))(ry:zbo y u) :
  KT H (zj3 kvs k y) (storedH xs k b u):=by
 have e:(kvs.any fun kv=>decide (kv.1=k))=(atKey xs k).isSome:=by
  rw[zjf,(r.val k).isSome_eq,Option.isSome_map]
 unfold zj3 storedH
 rw[e]
 by_cases q:(atKey xs k).isSome=true
 ·rw[if_pos q,if_pos q];exact r.repl k ry
 ·rw[if_neg q,if_neg q];exact Paired.snoc r ⟨rfl,hb,ry⟩
theorem KT.keeps{H H':Hp}{kvs:List (List Key×V)}{xs:List (List Key×Addr×Value)}(r:KT H kvs xs)(ht:∀ b ys,H b=some (.tup ys)->H' b=some (.tup ys)):KT H' kvs xs :=
 Paired.mapP r fun _ _ z=>⟨z.1,ht _ _ z.2.1,z.2.2⟩
section
variable{P:Program}{w:World}{H:Hp}{h:Heap}{a:Addr}
theorem ztZ{u:HO}(ok:HOk P w H h)(e:Rd H a u):zbO P w H h a u:=e.ok ok
theorem znk{kvs:List (Key×V)}(ok:HOk P w H h)(e:Rd H a (.dK kvs)):kvs.length<=sizeLine/\(a == sysModules)=false/\∃ vs,KV kvs vs/\h.DictOf (zbM P w) a vs :=
 show zbO P w H h a (.dK kvs) from ztZ ok e
theorem zuI{kvs:List (Key×V)}(ok:HOk P w H h)(e:H a=some (.dK kvs)):kvs.length<=sizeLine/\(a == sysModules)=false/\∃ vs,KV kvs vs/\h.DictOf (zbM P w) a vs:=znk ok (.inl e)
theorem zjK{ks:List Key}(ok:HOk P w H h)(e:H a=some (.tup (ks.map kV))):(tupleKind (zbM P w)).is h ks a:=by
 obtain ⟨_,its,r,n,h1⟩:=(show zbO P w H h a (.tup (ks.map kV)) from ok a _ e)
 exact ⟨_,its.toArray,n,h1,rfl,rfl,by simpa using zkg r⟩
theorem znl{kvs:List (List Key×V)}(ok:HOk P w H h)(e:Rd H a (.dT kvs)):kvs.length<=sizeLine/\(a == sysModules)=false /\
  ∃ xs,KT H kvs xs/\h.DictOfH (tupleKind (zbM P w)) a xs:=by
 obtain ⟨z,y,xs,r,o,es,ep,h1,h2,h3,h4,h5⟩:=(show zbO P w H h a (.dT kvs) from ztZ ok e)
 refine ⟨z,y,xs,r,o,es,ep,h1,h2,h3,h4,fun x hx=>?_,h5⟩
 have all:∀{l:List (List Key×V)}{m:List (List Key×Addr×Value)},KT H l m->∀ x∈m,(tupleKind (zbM P w)).is h x.1 x.2.1:=by
  intro l m q
  induction q with
  |nil=>intro x hx;exact nomatch hx
  |@cons p q ps qs hq t ih =>
   intro x hx
   rcases wap.mp hx with e|hx
   ·subst e
    exact zjK ok (by rw[<- hq.1];exact hq.2.1)
   ·exact ih x hx
 exact all r x hx
theorem zvu{kvs:List (List Key×V)}(ok:HOk P w H h)(e:H a=some (.dT kvs)):kvs.length<=sizeLine/\(a == sysModules)=false /\
  ∃ xs,KT H kvs xs/\h.DictOfH (tupleKind (zbM P w)) a xs:=znl ok (.inl e)
end
def zno(H:Hp)(a:Addr)(y:V)(r:Option V):Prop :=
 (∃ kvs k,Rd H a (.dK kvs)/\y=kV k/\r=zmi kvs k)\/∃ kvs k b,Rd H a (.dT kvs)/\y=.ref b/\H b=some (.tup (k.map kV))/\r=zmi kvs k
def ztH(H:Hp)(a:Addr)(y v:V)(H':Hp):Prop :=
 (∃ kvs k,H a=some (.dK kvs)/\y=kV k/\kvs.length<sizeLine/\H'=upd H a (.dK (zj3 kvs k v))) \/
 ∃ kvs k b,H a=some (.dT kvs)/\y=.ref b/\H b=some (.tup (k.map kV))/\kvs.length<sizeLine/\H'=upd H a (.dT (zj3 kvs k v))
theorem zno.k{H:Hp}{a:Addr}{kvs:List (Key×V)}{k:Key}(e:H a=some (.dK kvs)):zno H a (kV k) (zmi kvs k):=.inl ⟨kvs,k,.inl e,rfl,rfl⟩
theorem ztH.k{H:Hp}{a:Addr}{kvs:List (Key×V)}{k:Key}{v:V}(e:H a=some (.dK kvs))(hl:kvs.length<sizeLine):ztH H a (kV k) v (upd H a (.dK (zj3 kvs k v))):=.inl ⟨kvs,k,e,rfl,hl,rfl⟩
section
variable{X:Cx}{pS:List (Addr×Obj)}{Y:St}{H:Hp}{s:Shared}{a:Addr}{y v:V}{u r:Value}{o:Option V}{A:Around}{E:Value->Shared->Prop}
theorem Inv.big(I:Inv X pS Y H s):sysModules<s.heap.objs.size:=by
 have h:mainGlobals<s.heap.objs.size:=(I.mod.glob.keeps I.bk).lt
 exact Nat.lt_trans xwd h
theorem zok{Q:Value->Shared->Prop}(hu:A.units+1<cLine)(I:Inv X pS Y H s)(g:zno H a y (some v))(ry:zbo y u)(h:∀ w' s',Inv X pS Y H s'->zbo v w'->Q w' s') :
  wpAny (model X.prog X.w) A (getItem (.ref a) u) Q E s:=by
 rcases g with ⟨kvs,k,e,ey,l⟩|⟨kvs,k,b,e,ey,eb,l⟩
 ·subst ey
  obtain ⟨z,hd,vs,rel,dd⟩:=znk I.hok e
  obtain ⟨w',hw,rw'⟩:=zme.some_of (v:=v) (o:=valueAt vs k) (by rw[l];exact rel.val k)
  exact wpAny_getItem_of (zm7 ry) dd.mapOf hw (h w' _ (I.tok _) rw')
 ·subst ey
  cases (show u=Value.ref b from ry)
  obtain ⟨z,hd,xs,rel,dd⟩:=znl I.hok e
  obtain ⟨w',hw,rw'⟩:=zme.some_of (v:=v) (o:=(atKey xs k).map (·.2)) (by rw[l];exact rel.val k)
  obtain ⟨p,hp,hp2⟩:=Option.map_eq_some_iff.mp hw
  refine wpAny_getItem_heap (tupleKind_room_in1 hu) (zjK I.hok eb) dd hp ?_
  rw[hp2]
  exact h w' _ (I.tok _) rw'
theorem zrO{Q:Value->Shared->Prop}(hu:A.units+1<cLine)(I:Inv X pS Y H s)(g:zno H a y o)(ry:zbo y u)(h:∀ s',Inv X pS Y H s'->Q (.bool (!o.isSome)) s') :
  wpAny (model X.prog X.w) A (compareOp .NotIn u (.ref a)) Q E s:=by
 rcases g with ⟨kvs,k,e,ey,l⟩|⟨kvs,k,b,e,ey,eb,l⟩
 ·subst ey
  obtain ⟨z,hd,vs,rel,dd⟩:=znk I.hok e
  refine wpAny_notIn_of (zm7 ry) hd dd.mapOf ?_
  rw[<- (rel.val k).isSome_eq,<- l]
  exact h _ (I.tok _)
 ·subst ey
  cases (show u=Value.ref b from ry)
  obtain ⟨z,hd,xs,rel,dd⟩:=znl I.hok e
  refine wpAny_notIn_heap (tupleKind_room_in1 hu) (zjK I.hok eb) hd dd ?_
  have q:=(rel.val k).isSome_eq
  rw[Option.isSome_map] at q
  rw[<- q,<- l]
  exact h _ (I.tok _)
theorem zlm{h':Heap}{t':Nat}{ob:HO}(I:Inv X pS Y H s)(mu:Mut (H a))(hs:Heap.SameBut a s.heap h')(he:∃ q,h'.get? a=some q)(new:zbO X.prog X.w (upd H a ob) h' a ob) :
  Inv X pS Y (upd H a ob) { s with heap:=h',toks:=t' } :=
 I.write (x:=a) (e:=a) mu (.inl rfl) (fun b q hb z=>(hs.2 b hb).trans z) he new
theorem zrz{P:Program}{w:World}{H':Hp}{h':Heap}{kvs:List (Key×V)}{vs:List (Key×Value)}(z:kvs.length<=sizeLine)(hd:(a == sysModules)=false)(rel:KV kvs vs)(dd:h'.DictOf (zbM P w) a vs) :
  zbO P w H' h' a (.dK kvs):=⟨z,hd,vs,rel,dd⟩
theorem zpx{H':Hp}{Q:Unit->Shared->Prop}(hu:A.units+1<cLine)(I:Inv X pS Y H s)(g:ztH H a y v H')(ry:zbo y u)(rv:zbo v r)(h:∀ s',Inv X pS Y H' s'->Q () s') :
  wpAny (model X.prog X.w) A (setItem (.ref a) u r) Q E s:=by
 rcases g with ⟨kvs,k,e,ey,l,eH⟩|⟨kvs,k,b,e,ey,eb,l,eH⟩
 ·subst ey eH
  obtain ⟨z,hd,vs,rel,dd⟩:=zuI I.hok e
  have hz:vs.length<=sizeLine:=by rw[<- rel.length];exact z
  have hl:(zj3 kvs k v).length<=sizeLine:=by have:=zeH kvs k v;omega
  refine wpAny_setItem_pairs (hsz:=hz) (zm7 ry) dd fun h' dd' hs=>h _ ?_
  have he:∃ q,h'.get? a=some q:=let ⟨q,_,_,hq,_⟩:=dd';⟨q,hq⟩
  exact zlm I (by rw[e];exact True.intro) hs he (zrz hl hd (rel.put k rv) dd')
 ·subst ey eH
  cases (show u=Value.ref b from ry)
  obtain ⟨z,hd,xs,rel,dd⟩:=zvu I.hok e
  have hz:xs.length<=sizeLine:=by rw[<- Paired.length rel];exact z
  have hl:(zj3 kvs k v).length<=sizeLine:=by have:=zeH kvs k v;omega
  refine wpAny_setItem_heap (hsz:=hz) (tupleKind_room_in1 hu) (zjK I.hok eb) dd fun h' dd' hs=>h _ ?_
  obtain ⟨q,es,ep,hq,h2,h3,h4,_,h5⟩:=dd'
  refine zlm I (by rw[e];exact True.intro) hs ⟨q,hq⟩ ⟨hl,hd,_,(rel.put k eb rv).keeps fun c ys ec=>?_,q,es,ep,hq,h2,h3,h4,h5⟩
  rw[zah (zva ec e (fun z=>nomatch z))]
  exact ec
end
section
variable{X:Cx}{pS:List (Addr×Obj)}{Y:St}{H:Hp}{s:Shared}{a:Addr}{kvs:List (Key×V)}{k:Key}{u:Value}{A:Around}{E:Value->Shared->Prop}
end
def zv6(i:Expr):Prop:=∀ ov iv,subscripted i false ov iv=operate [ov,iv] (getItem ov iv)
theorem zsd{prog:Program}{w:World}{A:Around}{E:Value->Shared->Prop}{s:Shared}{env:Env}{value slice:Expr}{pos:Pos}{T id:String}{Q:Value->Shared->Prop}
  (hl:typeLookup (.type T) "__getitem__"=pure (some (.builtin id))) (hs:zv6 slice)
  (h:wpAny (model prog w) A (eval value env) (fun o s₁=>wpAny (model prog w) A (eval slice env) (fun i s₂=>s₂.TypeIs o T/\wpAny (model prog w) A (getItem o i) Q E s₂) E s₁) E s) :
  wpAny (model prog w) A (eval (.Subscript value slice pos) env) Q E s:=by
 refine Subscript_ (wpAny_mono h (fun o s₁ h₁=>wpAny_mono h₁ (fun i s₂ h₂=>?_) fun _ _ x=>x) fun _ _ x=>x)
 obtain ⟨hT,h₂⟩:=h₂
 unfold subscriptTail
 refine wab ?_
 rw[getitemInPython_of_ne hT.not_modules]
 refine wab (wpAny_specialOf hT hl ?_)
 have fin:wpAny (model prog w) A (subscripted slice false o i) (fun r s₃=>wpAny (model prog w) A (letTemporaryGo value o r >>= fun _=>pure r) Q E s₃) E s₂:=by
  rw[hs o i]
  exact wpAny_operating (wpAny_mono h₂ (fun r s₃ h₃=>wab (wpAny_letTemporaryGo (wad h₃))) fun _ _ x=>x)
 first
  |exact wad (wab fin)
  |exact wab (wad (wab fin))
  |exact wab fin
theorem zkD{X:Cx}{pS:List (Addr×Obj)}{Y:St}{H:Hp}{s:Shared}{a:Addr}{y:V}{o:Option V}(I:Inv X pS Y H s)(g:zno H a y o):s.TypeIs (.ref a) "dict":=by
 rcases g with ⟨kvs,k,e,_,_⟩|⟨kvs,k,b,e,_,_,_⟩
 ·obtain ⟨_,_,vs,_,dd⟩:=znk I.hok e
  exact dd.typeIs
 ·obtain ⟨_,_,xs,_,dd⟩:=znl I.hok e
  exact dd.typeIs
def zuW(td ty:TE):TE:=fun Y H Q=>td Y H fun x H1=>ty Y H1 fun y H2=>∃ a v,x=.ref a/\zno H2 a y (some v)/\Q v H2
def zs0(ty td:TE):TE:=fun Y H Q=>ty Y H fun y H1=>td Y H1 fun x H2=>∃ a o,x=.ref a/\zno H2 a y o/\Q (.bl (!o.isSome)) H2
def zvs(td ty tv:TE):TS:=fun D Y H=>tv Y H fun v H1=>td Y H1 fun x H2=>ty Y H2 fun y H3=>∃ a H4,x=.ref a/\ztH H3 a y v H4/\D.nx Y H4
section
variable{X:Cx}{o i e value:Expr}{pos pos' tpos:Pos}{td ty tv:TE}
theorem zss(hu:X.A.units+1<cLine)(ho:PE X o td)(hi:PE X i ty)(hs:zv6 i):PE X (.Subscript o i pos) (zuW td ty):=by
 intro pS s Y H Q I h
 refine zsd PySem.F.slot_dict_getitem.lookup hs (thn (ho pS s Y H _ I h) fun u s1 ⟨x,H1,I1,rx,q1⟩=>thn (hi pS s1 Y H1 _ I1 q1) fun iv s2 ⟨y,H2,I2,ry,a,v,ex,g,q2⟩=>?_)
 subst ex
 obtain rfl:u=Value.ref a:=rx
 exact ⟨zkD I2 g,zok hu I2 g ry fun w' s3 I3 rw'=>⟨v,H2,I3,rw',q2⟩⟩
theorem zo3(hu:X.A.units+1<cLine)(hi:PE X i ty)(ho:PE X o td):PC X .NotIn i o (zs0 ty td):=by
 intro pS s Y H Q I h
 refine thn (hi pS s Y H _ I h) fun iv s1 ⟨y,H1,I1,ry,q1⟩=>thn (ho pS s1 Y H1 _ I1 q1) fun u s2 ⟨x,H2,I2,rx,a,ov,ex,g,q2⟩=>?_
 subst ex
 obtain rfl:u=Value.ref a:=rx
 exact zrO hu I2 g ry fun s3 I3=>⟨.bl (!ov.isSome),H2,I3,rfl,q2⟩
theorem zsD(hu:X.A.units+1<cLine)(ho:PE X o td)(hi:PE X i ty)(hv:PE X value tv)(hs:swapsWith value (some (.Subscript o i pos')) pos.line X.env=pure false) :
  PS X (.Assign [.Subscript o i pos'] value pos) (zvs td ty tv):=by
 intro pS s Y H D I h
 refine wpAny_Assign_Subscript (thn (hv pS s Y H _ I h) fun r s1 ⟨v,H1,I1,rv,q1⟩=>thn (ho pS s1 Y H1 _ I1 q1) fun u s2 ⟨x,H2,I2,rx,q2⟩=>thn (hi pS s2 Y H2 _ I2 q2) fun iv s3 ⟨y,H3,I3,ry,a,H4,ex,g,q3⟩=>?_) hs
 subst ex
 obtain rfl:u=Value.ref a:=rx
 exact zpx hu I3 g ry rv fun s4 I4=>⟨Y,H4,I4,q3⟩
end
theorem zpD{P:Program}{w:World}{H:Hp}(h:Heap)(hb:sysModules<h.objs.size):zbO P w H (h.push { cls:=.type "dict",data:=.dict #[] }) h.objs.size (.dK []) :=
 ⟨Nat.zero_le _,beq_eq_false_iff_ne.mpr (Ne.symm (Nat.ne_of_lt hb)),[],.nil,Heap.DictOf.new h⟩
section
variable{X:Cx}{pos:Pos}
end
def zij:List (TE×TE)->St->Hp->(List (V×V)->Hp->Prop)->Prop
 |[],_,H,Q=>Q [] H
 | (tk,tv)::r,Y,H,Q=>tk Y H fun x H1=>tv Y H1 fun y H2=>zij r Y H2 fun ps H3=>Q ((x,y)::ps) H3
abbrev VV:List (V×V)->List (Value×Value)->Prop:=Paired fun p q=>zbo p.1 q.1/\zbo p.2 q.2
def PPs(X:Cx)(pos:Pos)(keys:List (Option Expr))(values:List Expr)(trs:List (TE×TE)):Prop :=
 ∀(pS:List (Addr×Obj))(s:Shared)(Y:St)(H:Hp)(Q:List (V×V)->Hp->Prop),Inv X pS Y H s->zij trs Y H Q ->
  wpAny (model X.prog X.w) X.A (evalPairs (pairTrees keys values X.env pos)) (fun vs s'=>∃ ps H',Inv X pS Y H' s'/\VV ps vs/\Q ps H') X.xe s
theorem ztd{X:Cx}{pos:Pos}:PPs X pos [] [] []:=fun pS s Y H Q I h=>pairTrees_nil_walk ⟨[],H,I,.nil,h⟩
theorem zq1{X:Cx}{pos:Pos}{k v:Expr}{ks:List (Option Expr)}{vs:List Expr}{tk tv:TE}{trs:List (TE×TE)}(hk:PE X k tk)(hv:PE X v tv)(hr:PPs X pos ks vs trs) :
  PPs X pos (some k::ks) (v::vs) ((tk,tv)::trs):=fun pS s Y H Q I h =>
 pairTrees_cons_walk (thn (hk pS s Y H _ I h) fun u s1 ⟨x,H1,I1,rx,q1⟩=>thn (hv pS s1 Y H1 _ I1 q1) fun w2 s2 ⟨y,H2,I2,ry,q2⟩ =>
  thn (hr pS s2 Y H2 _ I2 q2) fun ws s3 ⟨ps,H3,I3,rel,q3⟩=>⟨(x,y)::ps,H3,I3,.cons ⟨rx,ry⟩ rel,q3⟩)
def zg2(kvs more:List (Key×V)):List (Key×V):=more.foldl (fun acc kv=>zj3 acc kv.1 kv.2) kvs
theorem KV.merge:∀{more:List (Key×V)}{rs:List (Key×Value)}{kvs:List (Key×V)}{vs:List (Key×Value)},KV more rs->KV kvs vs->KV (zg2 kvs more) (merged vs rs):=by
 intro more rs kvs vs r
 unfold KV at r
 induction r generalizing kvs vs with
 |nil=>intro q;exact q
 |@cons p q ps qs h t ih =>
  intro r0
  have e:KV (zj3 kvs p.1 p.2) (stored vs q.1 q.2):=by
   have:=r0.put p.1 h.2
   rw[<- h.1];exact this
  exact ih e
theorem zfy:∀(more kvs:List (Key×V)),(zg2 kvs more).length<=kvs.length+more.length
 |[],kvs=>by show kvs.length<=kvs.length+0;omega
 |p::r,kvs=>by
  have h1:=zfy r (zj3 kvs p.1 p.2)
  have h2:=zeH kvs p.1 p.2
  show (zg2 (zj3 kvs p.1 p.2) r).length<=_
  rw[List.length_cons];omega
theorem zhU{P:Program}{w:World}:∀{kvs:List (Key×V)}{ws:List (Value×Value)},VV (kvs.map fun kv=>(kV kv.1,kv.2)) ws->∃ rs,Carries (zbM P w) ws rs/\KV kvs rs
 |[],_,r=>by rw[List.map_nil] at r;cases r;exact ⟨[],True.intro,.nil⟩
 |p::kvs,_,r=>by
  rw[List.map_cons] at r
  cases r with
  |@cons a b as bs h t =>
   obtain ⟨rs,c,q⟩:=zhU (P:=P) (w:=w) t
   obtain ⟨b1,b2⟩:=b
   exact ⟨(p.1,b2)::rs,⟨zm7 h.1,rfl,c⟩,.cons ⟨rfl,h.2⟩ q⟩
def ztO(trs:List (TE×TE)):TE:=fun Y H Q=>∀ p,H p=none->zij trs Y (upd H p (.dK [])) fun ps H2=>H2 p=some (.dK [])/\∃ kvs:List (Key×V),ps=kvs.map (fun kv=>(kV kv.1,kv.2))/\kvs.length<=15/\Q (.ref p) (upd H2 p (.dK (zg2 [] kvs)))
theorem zsm{X:Cx}{pos:Pos}{keys:List (Option Expr)}{values:List Expr}{trs:List (TE×TE)}(h:PPs X pos keys values trs)(hall:keys.all (·.isSome)=true)(hl:keys.length=values.length)(h0:keys≠[])
  (h15:keys.length<=15):PE X (.Dict keys values pos) (ztO trs):=by
 intro pS s Y H Q I q
 have hn:=I.hok.fresh (wal s.heap.objs.size)
 have I1:=I.laid (a:=s.heap.objs.size) (o:=.dK []) (h':=s.heap.push { cls:=.type "dict",data:=.dict #[] }) (t':=s.toks) (fun _ _ q=>waa _ q) (wal _) (zpD s.heap I.big)
 refine wpAny_Dict_walk (knd:=zbM X.prog X.w) hall hl h0 h15 (thn (h pS _ Y _ _ I1 (q _ hn)) fun ws s2 ⟨ps,H2,I2,rel,e,kvs,ep,lk,q2⟩=>?_)
 subst ep
 obtain ⟨rs,c,rk⟩:=zhU (P:=X.prog) (w:=X.w) rel
 obtain ⟨z,hd,vs0,r0,dd⟩:=zuI I2.hok e
 cases r0
 refine ⟨rs,c,dd,fun h' dd' hs=>⟨.ref s.heap.objs.size,_,?_,rfl,q2⟩⟩
 have hz:(zg2 [] kvs).length<=sizeLine:=by
  have h1:=zfy kvs []
  rw[List.length_nil] at h1
  rw[sizeLine_eq];omega
 have he:∃ q,h'.get? s.heap.objs.size=some q:=let ⟨q,_,_,hq,_⟩:=dd';⟨q,hq⟩
 exact zlm I2 (by rw[e];exact True.intro) hs he (zrz hz hd (rk.merge .nil) dd')
structure M1(X:Cx)(o:Expr)(m:Str)(apos:Pos)(e:Expr)(cpos:Pos):Prop where
 base:attributeBase o m X.env (eval o X.env)=eval o X.env
 few:((backTo cpos (starEach [e] X.env)).all (fun x=>!x.1) && (backToKw cpos (keywordEach [] X.env)).all (fun x=>x.1.isSome)
  && decide (([e]:List Expr).length+([]:List Keyword).length+(if ([]:List Keyword).isEmpty then 0 else 1)<30))=true
 line:(apos.endLine == cpos.line)=true
 trees:backTo cpos (starEach [e] X.env)=[(false,eval e X.env)]
structure M2(X:Cx)(o:Expr)(m:Str)(apos:Pos)(e f:Expr)(cpos:Pos):Prop where
 base:attributeBase o m X.env (eval o X.env)=eval o X.env
 few:((backTo cpos (starEach [e,f] X.env)).all (fun x=>!x.1) && (backToKw cpos (keywordEach [] X.env)).all (fun x=>x.1.isSome)
  && decide (([e,f]:List Expr).length+([]:List Keyword).length+(if ([]:List Keyword).isEmpty then 0 else 1)<30))=true
 line:(apos.endLine == cpos.line)=true
 trees:backTo cpos (starEach [e,f] X.env)=[(false,eval e X.env),(false,eval f X.env)]
def IsD(H:Hp)(a:Addr):Prop:=(∃ kvs,Rd H a (.dK kvs))\/∃ kvs,Rd H a (.dT kvs)
theorem zuc{X:Cx}{pS:List (Addr×Obj)}{Y:St}{H:Hp}{s:Shared}{a:Addr}(I:Inv X pS Y H s)(d:IsD H a) :
  s.TypeIs (.ref a) "dict"/\(∀ b,Value.ref a=.ref b->∃ ob,s.heap.get? b=some ob/\ob.dict=none)/\(a == sysModules)=false:=by
 rcases d with ⟨kvs,e⟩|⟨kvs,e⟩
 ·obtain ⟨_,hd,vs,_,dd⟩:=znk I.hok e
  refine ⟨dd.typeIs,fun b q=>?_,hd⟩
  cases q
  obtain ⟨ob,_,_,h1,h2,_⟩:=dd
  exact ⟨ob,h1,h2.2.1⟩
 ·obtain ⟨_,hd,xs,_,dd⟩:=znl I.hok e
  refine ⟨dd.typeIs,fun b q=>?_,hd⟩
  cases q
  obtain ⟨ob,_,_,h1,h2,_⟩:=dd
  exact ⟨ob,h1,h2.2.1⟩
section
variable{X:Cx}{pS:List (Addr×Obj)}{Y:St}{H:Hp}{s:Shared}{a:Addr}{y d:V}{u r:Value}{o:Option V}{A:Around}{E:Value->Shared->Prop}
theorem zuk{Q:Value->Shared->Prop}(hu:A.units+1<cLine)(I:Inv X pS Y H s)(g:zno H a y o)(ry:zbo y u)(h:∀ w' s',Inv X pS Y H s'->zbo (o.getD .non) w'->Q w' s') :
  wpAny (model X.prog X.w) A (call (.builtin "dict.get") [.ref a,u]) Q E s:=by
 rcases g with ⟨kvs,k,e,ey,l⟩|⟨kvs,k,b,e,ey,eb,l⟩
 ·subst ey
  obtain ⟨z,hd,vs,rel,dd⟩:=znk I.hok e
  refine call_meetsIn PySem.F.slot_dict_get dd.typeIs PySem.F.entry_dict_get (PySem.F.args_dict_get_2 _ _) (meets_dict_get (zbM X.prog X.w) a (zm7 ry) hd) ⟨_,dd.mapOf,h _ _ (I.tok _) ?_⟩
  rw[l]
  exact (rel.val k).getD rfl
 ·subst ey
  cases (show u=Value.ref b from ry)
  obtain ⟨z,hd,xs,rel,dd⟩:=znl I.hok e
  refine call_meetsIn PySem.F.slot_dict_get dd.typeIs PySem.F.entry_dict_get (PySem.F.args_dict_get_2 _ _) (meetsH_dict_get (tupleKind (zbM X.prog X.w)) a b hd) ⟨tupleKind_room_in1 hu,k,xs,zjK I.hok eb,dd,h _ _ (I.tok _) ?_⟩
  rw[l]
  exact (rel.val k).getD rfl
end
def zt3(td ty:TE):TE:=fun Y H Q=>td Y H fun x H1=>∃ a,x=.ref a/\IsD H1 a/\ty Y H1 fun y H2=>∃ o,zno H2 a y o/\Q (o.getD .non) H2
section
variable{X:Cx}{o e f:Expr}{apos cpos:Pos}{td ty tx:TE}
theorem zq9(hu:X.A.units+1<cLine)(ho:PE X o td)(he:PE X e ty)(m:M1 X o "get" apos e cpos):PE X (.Call (.Attribute o "get" apos) [e] [] cpos) (zt3 td ty):=by
 intro pS s Y H Q I h
 refine wpAny_Call_method m.base m.few m.line PySem.F.plainAttrs_dict PySem.F.slot_dict_get PySem.F.type_dict_get (thn (ho pS s Y H _ I h) fun u s1 ⟨x,H1,I1,rx,a,ex,d,q1⟩=>?_)
 subst ex
 obtain rfl:u=Value.ref a:=rx
 obtain ⟨t1,t2,_⟩:=zuc I1 d
 refine ⟨t1,t2,?_⟩
 rw[m.trees]
 refine Calls.callWith_builtin rfl (Calls.evalArgs_plain (Calls.spliced_cons (thn (he pS s1 Y H1 _ I1 q1) fun iv s2 ⟨y,H2,I2,ry,ov,g,q2⟩=>Calls.spliced_nil ?_)))
 exact zuk hu I2 g ry fun w' s3 I3 rw'=>⟨_,H2,I3,rw',q2⟩
end
end L2
end
section
namespace PV
open PySem PySem.Spec L2
inductive Dt where
 |non|bl (b:Bool)|int (i:Int)|str (x:Str)|tup (l:List Dt)|lst (l:List Dt)|dct|scr (ns:List Int)
inductive B where
 |val (d:Dt)|own (l:List Dt)|own2 (l:List (List Dt))|dic (l:List (Int×Dt))|tab (q:Str)|opq|exc (C:Addr)
abbrev Ev:=List (Option B)
inductive R(α:Type) where
 |ok (a:α)|er (n:Nat)|no
def R.bind{α β:Type}(r:R α)(f:α->R β):R β:=match r with
 |.ok a=>f a
 |.er n=>.er n
 |.no=>.no
@[simp] theorem R.bind_ok {α β:Type} (a:α) (f:α->R β):(R.ok a).bind f=f a:=rfl
@[simp] theorem R.bind_er {α β:Type} (n:Nat) (f:α->R β):(R.er n).bind f=.er n:=rfl
@[simp] theorem R.bind_no {α β:Type} (f:α->R β):(R.no).bind f=.no:=rfl
theorem R.bind_assoc{α β γ:Type}(r:R α)(f:α->R β)(g:β->R γ):(r.bind f).bind g=r.bind fun a=>(f a).bind g:=by
 cases r <;> rfl
def zhM(K:W.Frag)(H:Hp)(a:Addr)(xs:List V):Prop :=
 H a=some (.tup xs)\/∃(its:Array Value)(n:Nat),K.lookup a=some { cls:=.type "tuple",data:=.seq its n }/\its.size<=sizeLine/\zbc xs its.toList
theorem zhM.of{K:W.Frag}{H:Hp}{a:Addr}{xs:List V}(h:H a=some (.tup xs)):zhM K H a xs:=.inl h
theorem zhM.sq{K:W.Frag}{H:Hp}{a:Addr}{xs:List V}(h:zhM K H a xs):SqT K H a xs:=by
 rcases h with h|⟨its,n,h1,h2,h3⟩
 ·exact .inl (.inl h)
 ·exact .inr ⟨_,its,n,h1,rfl,rfl,h2,h3⟩
theorem zhM.same{K:W.Frag}{H H':Hp}{a:Addr}{xs:List V}(e:zcq H H')(h:zhM K H a xs):zhM K H' a xs:=h.elim (fun z=>.inl (e _ _ z)) .inr
mutual
def Rep(K:W.Frag)(G:Hp):Dt->V->Prop
 |.non,v=>v=.non
 |.bl b,v=>v=.bl b
 |.int i,v=>v=.int i
 |.str x,v=>v=.str x
 |.tup l,v=>∃ a vs,v=.ref a/\zhM K G a vs/\za1 K G l vs
 |.lst l,v=>∃ a vs,v=.ref a/\G a=some (.lst vs)/\za1 K G l vs
 |.dct,v=>∃ a,v=.ref a/\G a=some (.dK [])
 |.scr ns,v=>∃ a,v=.ref a/\SqL K G a (ns.map V.int)
def za1(K:W.Frag)(G:Hp):List Dt->List V->Prop
 |[],vs=>vs=[]
 |d::ds,vs=>∃ v r,vs=v::r/\Rep K G d v/\za1 K G ds r
end
theorem zaD{K:W.Frag}{H H':Hp}{a:Addr}{xs:List V}(e:zcq H H')(h:SqT K H a xs):SqT K H' a xs:=by
 rcases h with (h|⟨o,h⟩)|h
 ·exact .inl (.inl (e _ _ h))
 ·exact .inl (.inr ⟨o,e _ _ h⟩)
 ·exact .inr h
mutual
theorem Rep.same{K:W.Frag}{G G':Hp}(e:zcq G G'):∀{d:Dt}{v:V},Rep K G d v->Rep K G' d v
 |.non,_,h=>by unfold Rep at h ⊢;exact h
 |.bl _,_,h=>by unfold Rep at h ⊢;exact h
 |.int _,_,h=>by unfold Rep at h ⊢;exact h
 |.str _,_,h=>by unfold Rep at h ⊢;exact h
 |.tup l,_,h=>by
  unfold Rep at h ⊢
  obtain ⟨a,vs,h1,h2,h3⟩:=h
  exact ⟨a,vs,h1,h2.same e,za1.same e h3⟩
 |.lst l,_,h=>by
  unfold Rep at h ⊢
  obtain ⟨a,vs,h1,h2,h3⟩:=h
  exact ⟨a,vs,h1,e _ _ h2,za1.same e h3⟩
 |.dct,_,h=>by
  unfold Rep at h ⊢
  obtain ⟨a,h1,h2⟩:=h
  exact ⟨a,h1,e _ _ h2⟩
 |.scr ns,_,h=>by
  unfold Rep at h ⊢
  obtain ⟨a,h1,h2⟩:=h
  exact ⟨a,h1,e.seq h2⟩
theorem za1.same{K:W.Frag}{G G':Hp}(e:zcq G G'):∀{ds:List Dt}{vs:List V},za1 K G ds vs->za1 K G' ds vs
 |[],_,h=>by unfold za1 at h ⊢;exact h
 |d::ds,_,h=>by
  unfold za1 at h ⊢
  obtain ⟨v,r,h1,h2,h3⟩:=h
  exact ⟨v,r,h1,Rep.same e h2,za1.same e h3⟩
end
theorem za1.nil{K:W.Frag}{G:Hp}:za1 K G [] []:=by unfold za1;rfl
theorem za1.cons{K:W.Frag}{G:Hp}{d:Dt}{ds:List Dt}{v:V}{vs:List V}(h:Rep K G d v)(t:za1 K G ds vs):za1 K G (d::ds) (v::vs):=by
 unfold za1;exact ⟨v,vs,rfl,h,t⟩
theorem za1.nil_inv{K:W.Frag}{G:Hp}{vs:List V}(h:za1 K G [] vs):vs=[]:=by unfold za1 at h;exact h
theorem za1.cons_inv{K:W.Frag}{G:Hp}{d:Dt}{ds:List Dt}{vs:List V}(h:za1 K G (d::ds) vs):∃ v r,vs=v::r/\Rep K G d v/\za1 K G ds r:=by unfold za1 at h;exact h
theorem za1.length{K:W.Frag}{G:Hp}:∀{ds:List Dt}{vs:List V},za1 K G ds vs->ds.length=vs.length
 |[],_,h=>by rw[h.nil_inv];rfl
 |d::ds,_,h=>by
  obtain ⟨v,r,rfl,_,h3⟩:=h.cons_inv
  simp[za1.length h3]
theorem za1.get{K:W.Frag}{G:Hp}:∀{ds:List Dt}{vs:List V}{i:Nat}{d:Dt},za1 K G ds vs->ds[i]? = some d->∃ v,vs[i]? = some v/\Rep K G d v
 |[],_,_,_,_,e=>by simp at e
 |d::ds,_,0,_,h,e=>by
  obtain ⟨v,r,rfl,h2,h3⟩:=h.cons_inv
  simp at e;subst e
  exact ⟨v,rfl,h2⟩
 |d::ds,_,i+1,_,h,e=>by
  obtain ⟨v,r,rfl,h2,h3⟩:=h.cons_inv
  obtain ⟨u,e1,e2⟩:=za1.get (i:=i) h3 (by simpa using e)
  exact ⟨u,by simpa using e1,e2⟩
theorem za1.append{K:W.Frag}{G:Hp}:∀{ds es:List Dt}{vs us:List V},za1 K G ds vs->za1 K G es us->za1 K G (ds++es) (vs++us)
 |[],_,_,_,h,t=>by rw[h.nil_inv];exact t
 |d::ds,_,_,_,h,t=>by
  obtain ⟨v,r,rfl,h2,h3⟩:=h.cons_inv
  exact za1.cons h2 (za1.append h3 t)
theorem za1.take{K:W.Frag}{G:Hp}:∀(n:Nat){ds:List Dt}{vs:List V},za1 K G ds vs->za1 K G (ds.take n) (vs.take n)
 |0,_,_,_=>by simpa using za1.nil
 |n+1,[],_,h=>by rw[h.nil_inv];simpa using za1.nil
 |n+1,d::ds,_,h=>by
  obtain ⟨v,r,rfl,h2,h3⟩:=h.cons_inv
  exact za1.cons h2 (za1.take n h3)
theorem za1.drop{K:W.Frag}{G:Hp}:∀(n:Nat){ds:List Dt}{vs:List V},za1 K G ds vs->za1 K G (ds.drop n) (vs.drop n)
 |0,_,_,h=>h
 |n+1,[],_,h=>by rw[h.nil_inv];simpa using za1.nil
 |n+1,d::ds,_,h=>by
  obtain ⟨v,r,rfl,h2,h3⟩:=h.cons_inv
  exact za1.drop n h3
theorem za1.reverse{K:W.Frag}{G:Hp}:∀{ds:List Dt}{vs:List V},za1 K G ds vs->za1 K G ds.reverse vs.reverse
 |[],_,h=>by rw[h.nil_inv];exact za1.nil
 |d::ds,_,h=>by
  obtain ⟨v,r,rfl,h2,h3⟩:=h.cons_inv
  rw[List.reverse_cons,List.reverse_cons]
  exact (za1.reverse h3).append (za1.cons h2 za1.nil)
theorem za1.set{K:W.Frag}{G:Hp}{d:Dt}{v:V}(hv:Rep K G d v):∀(i:Nat){ds:List Dt}{vs:List V},za1 K G ds vs->za1 K G (ds.set i d) (vs.set i v)
 |_,[],_,h=>by rw[h.nil_inv];exact za1.nil
 |0,d'::ds,_,h=>by
  obtain ⟨v,r,rfl,h2,h3⟩:=h.cons_inv
  exact za1.cons hv h3
 |i+1,d'::ds,_,h=>by
  obtain ⟨v,r,rfl,h2,h3⟩:=h.cons_inv
  exact za1.cons h2 (za1.set hv i h3)
theorem za1.eraseIdx{K:W.Frag}{G:Hp}:∀(i:Nat){ds:List Dt}{vs:List V},za1 K G ds vs->za1 K G (ds.eraseIdx i) (vs.eraseIdx i)
 |_,[],_,h=>by rw[h.nil_inv];exact za1.nil
 |0,d'::ds,_,h=>by
  obtain ⟨v,r,rfl,h2,h3⟩:=h.cons_inv
  exact h3
 |i+1,d'::ds,_,h=>by
  obtain ⟨v,r,rfl,h2,h3⟩:=h.cons_inv
  exact za1.cons h2 (za1.eraseIdx i h3)
theorem za1.dropLast{K:W.Frag}{G:Hp}{ds:List Dt}{vs:List V}(h:za1 K G ds vs):za1 K G ds.dropLast vs.dropLast:=by
 rw[List.dropLast_eq_take,List.dropLast_eq_take,h.length];exact h.take _
abbrev Wn:=Addr->Option Nat
structure zbv(G H:Hp)(w:Wn)(G' H':Hp)(w':Wn):Prop where
 g:zcq G G'
 fr:∀ b o,G' b=some o->G b≠none\/H b=none\/w b≠none
 h:∀ b o,H b=some o->w b=none->H' b=some o
 w:∀ b,w' b≠none->w b≠none\/H b=none
 k:∀ b,H' b=none->H b=none
theorem zbv.refl(G H:Hp)(w:Wn):zbv G H w G H w :=
 ⟨zcq.refl G,fun b o e=>.inl (by rw[e];simp),fun _ _ e _=>e,fun _ e=>.inl e,fun _ e=>e⟩
theorem zbv.trans{G H G1 H1 G2 H2:Hp}{w w1 w2:Wn}(a:zbv G H w G1 H1 w1)(b:zbv G1 H1 w1 G2 H2 w2):zbv G H w G2 H2 w2:=by
 have hn:=a.k
 refine ⟨a.g.trans b.g,fun c o e=>?_,fun c o e z=>?_,fun c e=>?_,fun c e=>a.k c (b.k c e)⟩
 ·rcases b.fr c o e with q|q|q
  ·cases q':G1 c with
   |none=>exact absurd q' q
   |some u=>exact a.fr c u q'
  ·exact .inr (.inl (hn c q))
  ·rcases a.w c q with z|z
   ·exact .inr (.inr z)
   ·exact .inr (.inl z)
 ·have e1:=a.h c o e z
  refine b.h c o e1 ?_
  cases q:w1 c with
  |none=>rfl
  |some k =>
   rcases a.w c (by rw[q];simp) with r|r
   ·exact absurd z r
   ·rw[e] at r;cases r
 ·rcases b.w c e with q|q
  ·exact a.w c q
  ·exact .inr (hn c q)
structure Cn where
 G₀:Hp
 H₀:Hp
 w₀:Wn
 pp:List Nat
 σ₀:St
 ex:Nat->Prop
 xv:Nat->Value
 nw:Bool
def RtG(nw:Bool)(K:W.Frag)(H0 G H:Hp)(w:Wn)(d:Dt)(v:V):Prop:=match nw with
 |false=>Rep K G d v
 |true=>∃ l p vs,d=.lst l/\v=.ref p/\H0 p=none/\H p=some (.lst vs)/\G p=none/\w p=none/\za1 K G l vs
def cHO(c:Addr)(q:Str):HO:=.ext fun h=>h.CodeRec (.ref c) q
def xHO(l C:Addr):HO:=.ext fun h=>∃ o vs,h.get? l=some o/\o.cls=.ref C/\o.data=.fields vs
def RB(K:W.Frag)(G H:Hp)(w:Wn)(i:Nat)(v:V):B->Prop
 |.val d=>Rep K G d v
 |.own ds=>∃ a vs,v=.ref a/\w a=some i/\H a=some (.lst vs)/\za1 K G ds vs
 |.own2 dss=>∃ a as,v=.ref a/\w a=some i/\H a=some (.lst (as.map V.ref))/\(a::as).Nodup/\Paired (fun b ds=>w b=some i/\∃ vs,H b=some (.lst vs)/\za1 K G ds vs) as dss
 |.tab q=>∃ P ps,v=.ref P/\w P=some i/\H P=some (.tbl ps)/\TriplesOk ps.toList/\∀ pos cv,codeAmong pos ps.toList=some cv->∃ c,cv=.ref c/\G c=some (cHO c q)
 |.dic ds=>∃ a us,v=.ref a/\w a=some i/\H a=some (.dK us)/\Paired (fun (p:Int×Dt) (q:Key×V)=>q.1=.inl p.1/\Rep K G p.2 q.2) ds us
 |.opq=>True
 |.exc C=>∃ l,v=.ref l/\G l=some (xHO l C)
structure Rel(K:W.Frag)(C:Cn)(G:Hp)(w:Wn)(Z:Ev)(Y:St)(H:Hp):Prop where
 gh:zcq G H
 wg:∀ b,w b≠none->G b=none
 wh:∀ b,w b≠none->H b≠none
 len:Z.length = Y.length
 sl:∀ i b,Z[i]? = some (some b)->∃ v,Y[i]? = some (some v)/\RB K G H w i v b
 en:zbv C.G₀ C.H₀ C.w₀ G H w
 pin:∀ i∈C.pp,Y[i]? = C.σ₀[i]?
structure zdU(G H G' H':Hp):Prop where
 g:zcq G G'
 h:zcq H H'
 gh:zcq G' H'
 fr:∀ b o,G' b=some o->G b≠none\/H b=none
theorem zdU.refl{G H:Hp}(e:zcq G H):zdU G H G H:=⟨.refl _,.refl _,e,fun b o q=>.inl (by rw[q];simp)⟩
theorem zdU.trans{G H G1 H1 G2 H2:Hp}(a:zdU G H G1 H1)(b:zdU G1 H1 G2 H2):zdU G H G2 H2 :=
 ⟨a.g.trans b.g,a.h.trans b.h,b.gh,fun c o e=>by
  rcases b.fr c o e with q|q
  ·cases q':G1 c with
   |none=>exact absurd q' q
   |some u=>exact a.fr c u q'
  ·exact .inr (a.h.free q)⟩
theorem zdU.step{G H G' H':Hp}{w:Wn}(a:zdU G H G' H'):zbv G H w G' H' w :=
 ⟨a.g,fun b o e=>(a.fr b o e).elim .inl fun z=>.inr (.inl z),fun b o e _=>a.h b o e,fun _ e=>.inl e,fun _ e=>a.h.free e⟩
theorem zeu{α β:Type}{F F':α->β->Prop}(f:∀ a b,F a b->F' a b):∀{l₁:List α}{l₂:List β},Paired F l₁ l₂->Paired F' l₁ l₂
 |_,_,.nil=>.nil
 |_,_,.cons r t=>.cons (f _ _ r) (zeu f t)
theorem RB.grow{K:W.Frag}{G H G' H':Hp}{w w':Wn}{i j:Nat}{v:V}{b:B}(g:zcq G G')(h:∀ a o,w a=some i->H a=some o->H' a=some o/\w' a=some j)(r:RB K G H w i v b):RB K G' H' w' j v b:=by
 cases b with
 |val d=>exact Rep.same g r
 |own ds =>
  obtain ⟨a,vs,h1,h2,h3,h4⟩:=r
  obtain ⟨e1,e2⟩:=h a _ h2 h3
  exact ⟨a,vs,h1,e2,e1,za1.same g h4⟩
 |own2 dss =>
  obtain ⟨a,as,h1,h2,h3,h4,h5⟩:=r
  obtain ⟨e1,e2⟩:=h a _ h2 h3
  refine ⟨a,as,h1,e2,e1,h4,zeu (fun b ds ⟨q1,vs,q2,q3⟩=>?_) h5⟩
  obtain ⟨e1,e2⟩:=h b _ q1 q2
  exact ⟨e2,vs,e1,za1.same g q3⟩
 |tab q =>
  obtain ⟨P,ps,h1,h2,h3,h4,h5⟩:=r
  obtain ⟨e1,e2⟩:=h P _ h2 h3
  exact ⟨P,ps,h1,e2,e1,h4,fun pos cv e=>let ⟨c,q1,q2⟩:=h5 pos cv e;⟨c,q1,g _ _ q2⟩⟩
 |dic ds =>
  obtain ⟨a,us,h1,h2,h3,h4⟩:=r
  obtain ⟨e1,e2⟩:=h a _ h2 h3
  exact ⟨a,us,h1,e2,e1,zeu (fun p q z=>⟨z.1,Rep.same g z.2⟩) h4⟩
 |opq=>exact trivial
 |exc C =>
  obtain ⟨l,h1,h2⟩:=r
  exact ⟨l,h1,g _ _ h2⟩
theorem Rel.grow{K:W.Frag}{C:Cn}{G H G' H':Hp}{w:Wn}{Z:Ev}{Y:St}(r:Rel K C G w Z Y H)(a:zdU G H G' H'):Rel K C G' w Z Y H':=by
 refine ⟨a.gh,fun b e=>?_,fun b e z=>r.wh b e (a.h.free z),r.len,fun i b e=>?_,r.en.trans a.step,r.pin⟩
 ·cases q:G' b with
  |none=>rfl
  |some o =>
   rcases a.fr b o q with z|z
   ·exact absurd (r.wg b e) z
   ·exact absurd z (r.wh b e)
 ·obtain ⟨v,h1,h2⟩:=r.sl i b e
  exact ⟨v,h1,h2.grow a.g fun a' o e1 e2=>⟨a.h _ _ e2,e1⟩⟩
theorem zdU.new{G H:Hp}{p:Addr}{o:HO}(gh:zcq G H)(hp:H p=none):zdU G H (upd G p o) (upd H p o):=by
 refine ⟨fun b u e=>?_,fun b u e=>?_,fun b u e=>?_,fun b u e=>?_⟩
 ·rw[zah (zak (gh b u e) hp)];exact e
 ·rw[zah (zak e hp)];exact e
 ·by_cases hb:b=p
  ·subst hb;rw[zan] at e ⊢;exact e
  ·rw[zah hb] at e ⊢;exact gh b u e
 ·by_cases hb:b=p
  ·subst hb;exact .inr hp
  ·rw[zah hb] at e;exact .inl (by rw[e];simp)
theorem zdU.newH{G H:Hp}{p:Addr}{o:HO}(gh:zcq G H)(hp:H p=none):zdU G H G (upd H p o):=by
 refine ⟨.refl _,fun b u e=>?_,fun b u e=>?_,fun b u e=>.inl (by rw[e];simp)⟩
 ·rw[zah (zak e hp)];exact e
 ·rw[zah (zak (gh b u e) hp)];exact gh b u e
def zcp{α:Type}(ex:Nat->Prop)(κ:α->Prop):R α->Prop
 |.ok a=>κ a
 |.er n=>ex n
 |.no=>False
def kE(K:W.Frag)(C:Cn)(Y:St)(Q:VK)(G H:Hp)(w:Wn)(a:Dt×Ev):Prop :=
 ∀ v G' H' w',zbv G H w G' H' w'->Rel K C G' w' a.2 Y H'->Rep K G' a.1 v->Q v H'
def kT(K:W.Frag)(C:Cn)(Y:St)(Q:Bool->Hp->Prop)(G H:Hp)(w:Wn)(a:Bool×Ev):Prop :=
 ∀ G' H' w',zbv G H w G' H' w'->Rel K C G' w' a.2 Y H'->Q a.1 H'
def kN(K:W.Frag)(C:Cn)(Y:St)(Q:VK)(G H:Hp)(w:Wn)(a:List Dt×Ev):Prop :=
 ∀ p vs G' H' w',zbv G H w G' H' w'->Rel K C G' w' a.2 Y H'->H p=none->H' p=some (.lst vs)->G' p=none->w' p=none->za1 K G' a.1 vs->Q (.ref p) H'
inductive Fl where
 |nx|bk|ct|rt (d:Dt)
def kS(K:W.Frag)(C:Cn)(D:zrv)(G H:Hp)(w:Wn)(a:Fl×Ev):Prop :=
 match a.1 with
 |.nx=>∀ Y' G' H' w',zbv G H w G' H' w'->Rel K C G' w' a.2 Y' H'->D.nx Y' H'
 |.bk=>∀ Y' G' H' w',zbv G H w G' H' w'->Rel K C G' w' a.2 Y' H'->D.bk Y' H'
 |.ct=>∀ Y' G' H' w',zbv G H w G' H' w'->Rel K C G' w' a.2 Y' H'->D.ct Y' H'
 |.rt d=>∀ v Y' G' H' w',zbv G H w G' H' w'->Rel K C G' w' a.2 Y' H'->RtG C.nw K C.H₀ G' H' w' d v->D.rt v H'
abbrev De:=Ev->R (Dt×Ev)
abbrev DT:=Ev->R (Bool×Ev)
abbrev DN:=Ev->R (List Dt×Ev)
abbrev DS:=Ev->R (Fl×Ev)
def tE(K:W.Frag)(C:Cn)(f:De):TE:=fun Y H Q=>∃ G w Z,Rel K C G w Z Y H/\zcp C.ex (kE K C Y Q G H w) (f Z)
def tT(K:W.Frag)(C:Cn)(f:DT):TT:=fun Y H Q=>∃ G w Z,Rel K C G w Z Y H/\zcp C.ex (kT K C Y Q G H w) (f Z)
def tN(K:W.Frag)(C:Cn)(f:DN):TE:=fun Y H Q=>∃ G w Z,Rel K C G w Z Y H/\zcp C.ex (kN K C Y Q G H w) (f Z)
def tS(K:W.Frag)(C:Cn)(f:DS):TS:=fun D Y H=>∃ G w Z,Rel K C G w Z Y H/\zcp C.ex (kS K C D G H w) (f Z)
abbrev JE(X:Cx)(C:Cn)(e:Expr)(f:De):Prop:=PE X e (tE X.K C f)
abbrev JT(X:Cx)(C:Cn)(e:Expr)(f:DT):Prop:=PT X e (tT X.K C f)
abbrev JW(X:Cx)(C:Cn)(e:Expr)(f:DT):Prop:=PW X e (tT X.K C f)
abbrev JN(X:Cx)(C:Cn)(e:Expr)(f:DN):Prop:=PE X e (tN X.K C f)
abbrev JS(X:Cx)(C:Cn)(st:Stmt)(f:DS):Prop:=PS X st (tS X.K C f)
abbrev JSs(X:Cx)(C:Cn)(st:List Stmt)(f:DS):Prop:=PSs X st (tS X.K C f)
abbrev zpE(α:Type):=Hp->Hp->Wn->α->Prop
def Stp{α:Type}(κ:zpE α):Prop:=∀ G H w G1 H1 w1 a,zbv G H w G1 H1 w1->κ G H w a->κ G1 H1 w1 a
section
variable{K:W.Frag}{C:Cn}{Y:St}
theorem zcc{Q:VK}:Stp (fun G H w=>kE K C Y Q G H w):=fun _ _ _ _ _ _ _ s k v G' H' w' s'=>k v G' H' w' (s.trans s')
theorem zh2{Q:Bool->Hp->Prop}:Stp (fun G H w=>kT K C Y Q G H w):=fun _ _ _ _ _ _ _ s k G' H' w' s'=>k G' H' w' (s.trans s')
theorem zhc{Q:VK}:Stp (fun G H w=>kN K C Y Q G H w):=fun G H w G1 H1 w1 _ s k p vs G' H' w' s' r q1 q2 q3 q4 q5 =>
 k p vs G' H' w' (s.trans s') r (s.k p q1) q2 q3 q4 q5
theorem zdA{D:zrv}:Stp (fun G H w=>kS K C D G H w):=fun G H w G1 H1 w1 a s k=>by
 obtain ⟨f,Z⟩:=a
 cases f with
 |nx=>exact fun Y' G' H' w' s'=>k Y' G' H' w' (s.trans s')
 |bk=>exact fun Y' G' H' w' s'=>k Y' G' H' w' (s.trans s')
 |ct=>exact fun Y' G' H' w' s'=>k Y' G' H' w' (s.trans s')
 |rt d=>exact fun v Y' G' H' w' s'=>k v Y' G' H' w' (s.trans s')
theorem zcp.step{α:Type}{ex:Nat->Prop}{κ:zpE α}(st:Stp κ){G H G1 H1:Hp}{w w1:Wn}(s:zbv G H w G1 H1 w1):∀{r:R α},zcp ex (κ G H w) r->zcp ex (κ G1 H1 w1) r
 |.ok _,p=>st _ _ _ _ _ _ _ s p
 |.er _,p=>p
 |.no,p=>p
theorem zdb{α:Type}{κ:zpE α}(st:Stp κ){G H:Hp}{w:Wn}{Z:Ev}{fa:De}{g:Dt×Ev->R α}{Q:VK}(r:Rel K C G w Z Y H)(p:zcp C.ex (κ G H w) ((fa Z).bind g))
  (k:∀ d Z1 v G1 H1 w1,Rel K C G1 w1 Z1 Y H1->zbv G H w G1 H1 w1->Rep K G1 d v->zcp C.ex (κ G1 H1 w1) (g (d,Z1))->Q v H1):tE K C fa Y H Q:=by
 refine ⟨G,w,Z,r,?_⟩
 cases e:fa Z with
 |ok a =>
  rw[e] at p
  intro v G' H' w' s' r' q
  exact k a.1 a.2 v G' H' w' r' s' q (zcp.step st s' p)
 |er n=>rw[e] at p;exact p
 |no=>rw[e] at p;exact p
theorem ztk{α:Type}{κ:zpE α}(st:Stp κ){G H:Hp}{w:Wn}{Z:Ev}{fa:DT}{g:Bool×Ev->R α}{Q:Bool->Hp->Prop}(r:Rel K C G w Z Y H)(p:zcp C.ex (κ G H w) ((fa Z).bind g))
  (k:∀ b Z1 G1 H1 w1,Rel K C G1 w1 Z1 Y H1->zbv G H w G1 H1 w1->zcp C.ex (κ G1 H1 w1) (g (b,Z1))->Q b H1):tT K C fa Y H Q:=by
 refine ⟨G,w,Z,r,?_⟩
 cases e:fa Z with
 |ok a =>
  rw[e] at p
  intro G' H' w' s' r'
  exact k a.1 a.2 G' H' w' r' s' (zcp.step st s' p)
 |er n=>rw[e] at p;exact p
 |no=>rw[e] at p;exact p
theorem zvr{α:Type}{κ:zpE α}{G H:Hp}{w:Wn}{Z:Ev}{fa:DN}{g:List Dt×Ev->R α}{Q:VK}(r:Rel K C G w Z Y H)(p:zcp C.ex (κ G H w) ((fa Z).bind g))
  (k:∀ ds Z1 a vs G1 H1 w1,Rel K C G1 w1 Z1 Y H1->zbv G H w G1 H1 w1->H a=none->H1 a=some (.lst vs)->G1 a=none->w1 a=none->za1 K G1 ds vs->zcp C.ex (κ G H w) (g (ds,Z1))->Q (.ref a) H1):tN K C fa Y H Q:=by
 refine ⟨G,w,Z,r,?_⟩
 cases e:fa Z with
 |ok a =>
  rw[e] at p
  intro v vs G' H' w' s' r' q1 q2 q3 q4 q5
  exact k a.1 a.2 v vs G' H' w' r' s' q1 q2 q3 q4 q5 p
 |er n=>rw[e] at p;exact p
 |no=>rw[e] at p;exact p
end
section
variable{X:Cx}
theorem _root_.L2.PE.weak{e:Expr}{t t':TE}(h:PE X e t)(k:∀ Y H Q,t' Y H Q->t Y H Q):PE X e t':=fun pS s Y H Q I q=>h pS s Y H Q I (k Y H Q q)
theorem _root_.L2.PT.weak{e:Expr}{t t':TT}(h:PT X e t)(k:∀ Y H Q,t' Y H Q->t Y H Q):PT X e t':=fun pS s Y H Q I q=>h pS s Y H Q I (k Y H Q q)
theorem _root_.L2.PW.weak{e:Expr}{t t':TT}(h:PW X e t)(k:∀ Y H Q,t' Y H Q->t Y H Q):PW X e t':=fun wh pS s Y H Q I q=>h wh pS s Y H Q I (k Y H Q q)
theorem _root_.L2.PA.weak{e:List Expr}{t t':TA}(h:PA X e t)(k:∀ Y H Q,t' Y H Q->t Y H Q):PA X e t':=fun pos pS s Y H Q I q=>h pos pS s Y H Q I (k Y H Q q)
theorem _root_.L2.PS.weak{e:Stmt}{t t':TS}(h:PS X e t)(k:∀ D Y H,t' D Y H->t D Y H):PS X e t':=fun pS s Y H D I q=>h pS s Y H D I (k D Y H q)
theorem _root_.L2.PSs.weak{e:List Stmt}{t t':TS}(h:PSs X e t)(k:∀ D Y H,t' D Y H->t D Y H):PSs X e t':=fun pS s Y H D I q=>h pS s Y H D I (k D Y H q)
end
section
variable{K:W.Frag}{C:Cn}{Y:L2.St}{G H:Hp}{w:Wn}{Z:Ev}{i:Nat}{v:V}
theorem Rel.freeze{d:Dt}{b0:B}(r:Rel K C G w Z Y H)(S:List Addr)(hS:∀ b∈S,w b=some i)(hi:Z[i]? = some (some b0))(hv:Y[i]? = some (some v))
  (hr:Rep K (fun b=>if b∈S then H b else G b) d v) :
  Rel K C (fun b=>if b∈S then H b else G b) (fun b=>if b∈S then none else w b) (Z.set i (some (.val d))) Y H /\
   zbv G H w (fun b=>if b∈S then H b else G b) H (fun b=>if b∈S then none else w b):=by
 have gS:∀ b∈S,G b=none:=fun b hb=>r.wg b (by rw[hS b hb];simp)
 have st:zbv G H w (fun b=>if b∈S then H b else G b) H (fun b=>if b∈S then none else w b):=by
  refine ⟨fun b o e=>?_,fun b o e=>?_,fun b o e _=>e,fun b e=>?_,fun _ e=>e⟩
  ·have:b∉S:=fun z=>by rw[gS b z] at e;cases e
   simp[this,e]
  ·by_cases hb:b∈S
   ·exact .inr (.inr (by rw[hS b hb];simp))
   ·simp[hb] at e;exact .inl (by rw[e];simp)
  ·by_cases hb:b∈S
   ·simp[hb] at e
   ·simp[hb] at e;exact .inl e
 refine ⟨⟨fun b o e=>?_,fun b e=>?_,fun b e=>?_,by simpa using r.len,fun j b e=>?_,r.en.trans st,r.pin⟩,st⟩
 ·by_cases hb:b∈S
  ·simp[hb] at e;exact e
  ·simp[hb] at e;exact r.gh b o e
 ·by_cases hb:b∈S
  ·simp[hb] at e
  ·simp[hb] at e ⊢;exact r.wg b e
 ·by_cases hb:b∈S
  ·simp[hb] at e
  ·simp[hb] at e;exact r.wh b e
 ·by_cases hj:j=i
  ·subst hj
   rw[List.getElem?_set_self (List.getElem?_eq_some_iff.mp hi).1] at e
   cases e
   exact ⟨v,hv,hr⟩
  ·rw[List.getElem?_set_ne (Ne.symm hj)] at e
   obtain ⟨v',h1,h2⟩:=r.sl j b e
   refine ⟨v',h1,h2.grow st.g fun a o e1 e2=>⟨e2,?_⟩⟩
   have:a∉S:=fun z=>by rw[hS a z] at e1;exact hj (waB e1).symm
   simp[this,e1]
end
def zab(i:Nat):De:=fun Z=>match Z[i]? with
 |some (some (.val d))=>.ok (d,Z)
 |_=>.no
def zfV(i:Nat):De:=fun Z=>match Z[i]? with
 |some (some (.val d))=>.ok (d,Z)
 |some (some (.own ds))=>.ok (.lst ds,Z.set i (some (.val (.lst ds))))
 |some (some (.own2 dss))=>.ok (.lst (dss.map .lst),Z.set i (some (.val (.lst (dss.map .lst)))))
 |_=>.no
theorem zhz{K:W.Frag}{G:Hp}:∀{as:List Addr}{dss:List (List Dt)},Paired (fun b ds=>∃ vs,G b=some (.lst vs)/\za1 K G ds vs) as dss->za1 K G (dss.map .lst) (as.map V.ref)
 |_,_,.nil=>za1.nil
 |a::as,ds::dss,.cons ⟨vs,h1,h2⟩ t=>za1.cons (by unfold Rep;exact ⟨a,vs,rfl,h1,h2⟩) (zhz t)
theorem zhW{α β:Type}{F:α->β->Prop}:∀{l₁:List α}{l₂:List β},Paired F l₁ l₂->∀ a∈l₁,∃ b,F a b
 |_,_,.cons r t,a,h=>by
  rcases wap.mp h with rfl|h
  ·exact ⟨_,r⟩
  ·exact zhW t a h
theorem zeF{α β:Type}{F F':α->β->Prop}:∀{l₁:List α}{l₂:List β},Paired F l₁ l₂->(∀ a b,a∈l₁->F a b->F' a b)->Paired F' l₁ l₂
 |_,_,.nil,_=>.nil
 |_,_,.cons r t,f=>.cons (f _ _ wau r) (zeF t fun a b h=>f a b (wah _ h))
section
variable{X:Cx}{C:Cn}
theorem zaa(i:Nat){x:Str}{pos:Pos}(hN:X.N[i]? = some x:=by rfl)(hv:Vis X.env.scope x:=by exact xwV)(hd:(x == ("__debug__" : Str))=false:=by decide)
  (hcd:(x == ("__classdict__" : Str))=false:=by decide):JE X C (.Name x pos) (zab i):=(zcm hN hv hd hcd).weak fun Y H Q ⟨G,w,Z,r,p⟩=>by
 unfold zab at p
 split at p
 ·rename_i d e
  obtain ⟨v,h1,h2⟩:=r.sl i _ e
  exact ⟨v,h1,p v G H w (.refl _ _ _) r h2⟩
 ·exact p.elim
theorem zgx(i:Nat){x:Str}{pos:Pos}(hN:X.N[i]? = some x:=by rfl)(hv:Vis X.env.scope x:=by exact xwV)(hd:(x == ("__debug__" : Str))=false:=by decide)
  (hcd:(x == ("__classdict__" : Str))=false:=by decide):JE X C (.Name x pos) (zfV i):=(zcm hN hv hd hcd).weak fun Y H Q ⟨G,w,Z,r,p⟩=>by
 unfold zfV at p
 split at p
 ·rename_i d e
  obtain ⟨v,h1,h2⟩:=r.sl i _ e
  exact ⟨v,h1,p v G H w (.refl _ _ _) r h2⟩
 ·rename_i ds e
  obtain ⟨v,h1,a,vs,rfl,h2,h3,h4⟩:=r.sl i _ e
  have hr:Rep X.K (fun b=>if b∈[a] then H b else G b) (.lst ds) (.ref a):=by
   unfold Rep
   refine ⟨a,vs,rfl,(by simp[h3]),za1.same (fun b o e=>?_) h4⟩
   have:b≠a:=fun z=>by subst z;rw[r.wg b (by rw[h2];simp)] at e;cases e
   simp[this,e]
  obtain ⟨r',s'⟩:=r.freeze [a] (fun b hb=>by simp at hb;subst hb;exact h2) e h1 hr
  exact ⟨_,h1,p _ _ _ _ s' r' hr⟩
 ·rename_i dss e
  obtain ⟨v,h1,a,as,rfl,h2,h3,h4,h5⟩:=r.sl i _ e
  have hS:∀ b∈a::as,w b=some i:=fun b hb=>by
   rcases wap.mp hb with rfl|hb
   ·exact h2
   ·obtain ⟨_,z,_⟩:=zhW h5 b hb
    exact z
  have sg:zcq G (fun b=>if b∈a::as then H b else G b):=fun b o e=>by
   have:b∉a::as:=fun z=>by rw[r.wg b (by rw[hS b z];simp)] at e;cases e
   simp only[this,if_false];exact e
  have hr:Rep X.K (fun b=>if b∈a::as then H b else G b) (.lst (dss.map .lst)) (.ref a):=by
   unfold Rep
   refine ⟨a,as.map V.ref,rfl,(by simp[h3]),zhz (zeF h5 fun b ds hb ⟨q1,vs,q2,q3⟩=>⟨vs,?_,za1.same sg q3⟩)⟩
   simp[hb,q2]
  obtain ⟨r',s'⟩:=r.freeze (a::as) hS e h1 hr
  exact ⟨_,h1,p _ _ _ _ s' r' hr⟩
 ·exact p.elim
def dC(d:Dt):De:=fun Z=>.ok (d,Z)
theorem zai{i j pos}:JE X C (.Constant (.int i) j pos) (dC (.int i)):=PE.weak zj6 fun Y H Q ⟨G,w,Z,r,p⟩=>p _ G H w (.refl _ _ _) r (by unfold Rep;rfl)
theorem zcR{b j pos}:JE X C (.Constant (.bool b) j pos) (dC (.bl b)):=PE.weak zuZ fun Y H Q ⟨G,w,Z,r,p⟩=>p _ G H w (.refl _ _ _) r (by unfold Rep;rfl)
theorem zfz{j pos}:JE X C (.Constant .none j pos) (dC .non):=PE.weak zrw fun Y H Q ⟨G,w,Z,r,p⟩=>p _ G H w (.refl _ _ _) r (by unfold Rep;rfl)
theorem zpg{x j pos}:JE X C (.Constant (.str x) j pos) (dC (.str x)):=PE.weak zui fun Y H Q ⟨G,w,Z,r,p⟩=>p _ G H w (.refl _ _ _) r (by unfold Rep;rfl)
theorem znr{x:Str}{i:Int}{t:Tok}{pos:Pos}(hg:Gl X x)(hm:X.mg x=some (.int i t))(hd:(x == ("__debug__" : Str))=false:=by decide):JE X C (.Name x pos) (dC (.int i)) :=
 (znH (v:=.int i) hg hm ⟨t,rfl⟩ hd).weak fun Y H Q ⟨G,w,Z,r,p⟩=>p _ G H w (.refl _ _ _) r (by unfold Rep;rfl)
def dOp(g:Dt->Dt->R Dt)(fa fb:De):De:=fun Z=>(fa Z).bind fun a=>(fb a.2).bind fun b=>(g a.1 b.1).bind fun z=>.ok (z,b.2)
def Op2(K:W.Frag)(r:R2)(g:Dt->Dt->R Dt):Prop:=∀(G H:Hp)(x y:V)(dx dy z:Dt)(Q:VK),zcq G H->Rep K G dx x->Rep K G dy y->g dx dy=.ok z ->
 (∀ v G' H',zdU G H G' H'->Rep K G' z v->Q v H')->r x y H Q
def zhC(g:Dt->Dt->R Dt):Prop:=∀ x y n,g x y≠.er n
variable{a b:Expr}{fa fb:De}{pos:Pos}
theorem zis{r:R2}{g:Dt->Dt->R Dt}{Y:L2.St}{H:Hp}{Q:VK}(h2:Op2 X.K r g)(he:zhC g)(h:tE X.K C (dOp g fa fb) Y H Q):tOp r (tE X.K C fa) (tE X.K C fb) Y H Q:=by
 obtain ⟨G,w,Z,rr,p⟩:=h
 refine zdb (κ:=fun G H w=>kE X.K C Y Q G H w) zcc rr p fun d Z1 v G1 H1 w1 r1 s1 q1 p1=>?_
 refine zdb (κ:=fun G H w=>kE X.K C Y Q G H w) zcc r1 p1 fun d2 Z2 v2 G2 H2 w2 r2 s2 q2 p2=>?_
 cases e:g d d2 with
 |ok z =>
  simp only[e,R.bind_ok] at p2
  refine h2 G2 H2 v v2 d d2 z Q r2.gh (q1.same s2.g) q2 e fun v3 G3 H3 gr q3=>?_
  exact p2 v3 G3 H3 w2 gr.step (r2.grow gr) q3
 |er n=>exact absurd e (he _ _ _)
 |no=>simp only[e,R.bind_no] at p2;exact p2.elim
theorem zks{op:Operator}{r:R2}{g:Dt->Dt->R Dt}(ho:OpR X (binaryOp op) r)(h2:Op2 X.K r g)(he:zhC g)(ha:JE X C a fa)(hb:JE X C b fb):JE X C (.BinOp a op b pos) (dOp g fa fb) :=
 (zu6 ho ha hb).weak fun Y H Q h=>zis h2 he h
theorem zjr{op:CmpOp}{r:R2}{g:Dt->Dt->R Dt}(ho:OpR X (compareOp op) r)(h2:Op2 X.K r g)(he:zhC g)(ha:JE X C a fa)(hb:JE X C b fb)(hm:behindInMarks op b=false):JE X C (.Compare a [op] [b] pos) (dOp g fa fb) :=
 (zs4 ho ha hb hm).weak fun Y H Q h=>zis h2 he h
def dTB(f:De):DT:=fun Z=>(f Z).bind fun a=>match a.1 with
 |.bl b=>.ok (b,a.2)
 |_=>.no
theorem zd0{K:W.Frag}{G:Hp}{b:Bool}{v:V}(h:Rep K G (.bl b) v):v=.bl b:=by unfold Rep at h;exact h
theorem zas{K:W.Frag}{G:Hp}{b:Int}{v:V}(h:Rep K G (.int b) v):v=.int b:=by unfold Rep at h;exact h
theorem zgf{K:W.Frag}{G:Hp}{b:Str}{v:V}(h:Rep K G (.str b) v):v=.str b:=by unfold Rep at h;exact h
theorem zh5{K:W.Frag}{G:Hp}{v:V}(h:Rep K G .non v):v=.non:=by unfold Rep at h;exact h
theorem zdH{K:W.Frag}{G:Hp}{l:List Dt}{v:V}(h:Rep K G (.tup l) v):∃ a vs,v=.ref a/\zhM K G a vs/\za1 K G l vs:=by unfold Rep at h;exact h
theorem zbK{K:W.Frag}{G:Hp}{l:List Dt}{v:V}(h:Rep K G (.tup l) v):∃ a vs,v=.ref a/\SqT K G a vs/\za1 K G l vs:=by
 obtain ⟨a,vs,h1,h2,h3⟩:=zdH h
 exact ⟨a,vs,h1,h2.sq,h3⟩
theorem zba{K:W.Frag}{G:Hp}{l:List Dt}{v:V}(h:Rep K G (.lst l) v):∃ a vs,v=.ref a/\G a=some (.lst vs)/\za1 K G l vs:=by unfold Rep at h;exact h
theorem zkV{f:De}{Y:L2.St}{H:Hp}{Q:Bool->Hp->Prop}(h:tT X.K C (dTB f) Y H Q):tE X.K C f Y H fun x H'=>∃ k,x=.bl k/\Q k H':=by
 obtain ⟨G,w,Z,r,p⟩:=h
 refine zdb (κ:=fun G H w=>kT X.K C Y Q G H w) zh2 r p fun d Z1 v G1 H1 w1 r1 s1 q1 p1=>?_
 cases d with
 |bl b=>exact ⟨b,zd0 q1,p1 G1 H1 w1 (.refl _ _ _) r1⟩
 |_=>exact p1.elim
theorem zg5{op:CmpOp}{r:R2}{g:Dt->Dt->R Dt}(ho:OpR X (compareOp op) r)(h2:Op2 X.K r g)(he:zhC g)(ha:JE X C a fa)(hb:JE X C b fb)(hm:behindInMarks op b=false):JT X C (.Compare a [op] [b] pos) (dTB (dOp g fa fb)) :=
 (zpi ho ha hb hm).weak fun Y H Q h=>by
  have h':=zkV h
  exact zis h2 he h'
theorem zcf{e:Expr}{f:De}(h:JE X C e f)(he:∀ whole,isTrue e X.env whole=(do let v <- whole;standAt e.pos;holding [v] (truthy v)):=by intro _;rfl):JT X C e (dTB f) :=
 (zt5 h he).weak fun Y H Q h=>zkV h
def zaP(f:DT):DT:=fun Z=>(f Z).bind fun a=>.ok (!a.1,a.2)
def zfI(f g:DT):DT:=fun Z=>(f Z).bind fun a=>if a.1=true then g a.2 else .ok (false,a.2)
def zdW(f g:DT):DT:=fun Z=>(f Z).bind fun a=>if a.1=true then .ok (true,a.2) else g a.2
variable{tA tB':DT}{zaL:List Expr}
theorem zcr(ha:JT X C a tA):JT X C (.UnaryOp .Not a pos) (zaP tA):=(zt0 ha).weak fun Y H Q ⟨G,w,Z,r,p⟩ =>
 ztk (κ:=fun G H w=>kT X.K C Y Q G H w) zh2 r p fun b Z1 G1 H1 w1 r1 s1 p1=>p1 G1 H1 w1 (.refl _ _ _) r1
theorem zkX(ha:JT X C a tA):JW X C (.BoolOp .And [a] pos) tA:=zsc ha
theorem zd3(ha:JT X C a tA):JW X C (.BoolOp .Or [a] pos) tA:=zuC ha
theorem zo9(ha:JT X C a tA)(hb:JW X C (.BoolOp .And (b::zaL) pos) tB'):JW X C (.BoolOp .And (a::b::zaL) pos) (zfI tA tB'):=(ztX ha hb).weak fun Y H Q ⟨G,w,Z,r,p⟩=>by
 refine ztk (κ:=fun G H w=>kT X.K C Y Q G H w) zh2 r p fun b Z1 G1 H1 w1 r1 s1 p1=>?_
 cases b with
 |true=>exact ⟨G1,w1,Z1,r1,p1⟩
 |false=>exact p1 G1 H1 w1 (.refl _ _ _) r1
theorem zd2(ha:JT X C a tA)(hb:JW X C (.BoolOp .Or (b::zaL) pos) tB'):JW X C (.BoolOp .Or (a::b::zaL) pos) (zdW tA tB'):=(zvy ha hb).weak fun Y H Q ⟨G,w,Z,r,p⟩=>by
 refine ztk (κ:=fun G H w=>kT X.K C Y Q G H w) zh2 r p fun b Z1 G1 H1 w1 r1 s1 p1=>?_
 cases b with
 |true=>exact p1 G1 H1 w1 (.refl _ _ _) r1
 |false=>exact ⟨G1,w1,Z1,r1,p1⟩
theorem JW.jt{e:Expr}{f:DT}(h:JW X C e f):JT X C e f:=PW.pt h
def zhD(fa fb:De):De:=fun Z=>(fa Z).bind fun a=>match a.1 with
 |.bl true=>fb a.2
 |.bl false=>.ok (.bl false,a.2)
 |_=>.no
def zt2(fa:De):De:=fun Z=>(fa Z).bind fun a=>match a.1 with
 |.bl b=>.ok (.bl (!b),a.2)
 |_=>.no
theorem zgA{op}{f:De}(h:JE X C a f):JE X C (.BoolOp op [a] pos) f:=ztx h
theorem zeE(ha:JE X C a fa)(hb:JE X C (.BoolOp .And (b::zaL) pos) fb):JE X C (.BoolOp .And (a::b::zaL) pos) (zhD fa fb):=(zud ha hb).weak fun Y H Q ⟨G,w,Z,r,p⟩=>by
 refine zdb (κ:=fun G H w=>kE X.K C Y Q G H w) zcc r p fun d Z1 v G1 H1 w1 r1 s1 q1 p1=>?_
 cases d with
 |bl b =>
  refine ⟨b,zd0 q1,?_⟩
  cases b with
  |true=>exact ⟨G1,w1,Z1,r1,p1⟩
  |false=>exact p1 _ G1 H1 w1 (.refl _ _ _) r1 (by unfold Rep;rfl)
 |_=>exact p1.elim
theorem zrt(ha:JE X C a fa):JE X C (.UnaryOp .Not a pos) (zt2 fa):=(zuB ha).weak fun Y H Q ⟨G,w,Z,r,p⟩=>by
 refine zdb (κ:=fun G H w=>kE X.K C Y Q G H w) zcc r p fun d Z1 v G1 H1 w1 r1 s1 q1 p1=>?_
 cases d with
 |bl b=>exact ⟨b,zd0 q1,p1 _ G1 H1 w1 (.refl _ _ _) r1 (by unfold Rep;rfl)⟩
 |_=>exact p1.elim
def zuQ(t:DT)(fa fb:De):De:=fun Z=>(t Z).bind fun c=>if c.1=true then fa c.2 else fb c.2
theorem ztw{c:Expr}(hc:JT X C c tA)(ha:JE X C a fa)(hb:JE X C b fb):JE X C (.IfExp c a b pos) (zuQ tA fa fb):=(zpC hc ha hb).weak fun Y H Q ⟨G,w,Z,r,p⟩=>by
 refine ztk (κ:=fun G H w=>kE X.K C Y Q G H w) zcc r p fun b Z1 G1 H1 w1 r1 s1 p1=>?_
 cases b with
 |true=>exact ⟨G1,w1,Z1,r1,p1⟩
 |false=>exact ⟨G1,w1,Z1,r1,p1⟩
abbrev DA:=Ev->R (List Dt×Ev)
def kA(K:W.Frag)(C:Cn)(Y:L2.St)(Q:List V->Hp->Prop)(G H:Hp)(w:Wn)(a:List Dt×Ev):Prop :=
 ∀ vs G' H' w',zbv G H w G' H' w'->Rel K C G' w' a.2 Y H'->za1 K G' a.1 vs->Q vs H'
theorem ztM{K:W.Frag}{Y:L2.St}{Q:List V->Hp->Prop}:Stp (fun G H w=>kA K C Y Q G H w):=fun _ _ _ _ _ _ _ s k v G' H' w' s'=>k v G' H' w' (s.trans s')
def tAd(K:W.Frag)(C:Cn)(f:DA):TA:=fun Y H Q=>∃ G w Z,Rel K C G w Z Y H/\zcp C.ex (kA K C Y Q G H w) (f Z)
abbrev JA(X:Cx)(C:Cn)(es:List Expr)(f:DA):Prop:=PA X es (tAd X.K C f)
def dA0:DA:=fun Z=>.ok ([],Z)
def dA(fa:De)(fr:DA):DA:=fun Z=>(fa Z).bind fun a=>(fr a.2).bind fun b=>.ok (a.1::b.1,b.2)
theorem zu7{K:W.Frag}{Y:L2.St}{α:Type}{κ:zpE α}(st:Stp κ){G H:Hp}{w:Wn}{Z:Ev}{fa:DA}{g:List Dt×Ev->R α}{Q:List V->Hp->Prop}(r:Rel K C G w Z Y H)(p:zcp C.ex (κ G H w) ((fa Z).bind g))
  (k:∀ ds Z1 vs G1 H1 w1,Rel K C G1 w1 Z1 Y H1->zbv G H w G1 H1 w1->za1 K G1 ds vs->zcp C.ex (κ G1 H1 w1) (g (ds,Z1))->Q vs H1):tAd K C fa Y H Q:=by
 refine ⟨G,w,Z,r,?_⟩
 cases e:fa Z with
 |ok a =>
  rw[e] at p
  intro v G' H' w' s' r' q
  exact k a.1 a.2 v G' H' w' r' s' q (zcp.step st s' p)
 |er n=>rw[e] at p;exact p
 |no=>rw[e] at p;exact p
theorem zap:JA X C [] dA0:=PA.weak zep fun Y H Q ⟨G,w,Z,r,p⟩=>p _ G H w (.refl _ _ _) r za1.nil
theorem zac{e:Expr}{es:List Expr}{fr:DA}(ha:JE X C e fa)(hr:JA X C es fr)(hs:starEach (e::es) X.env=(false,eval e X.env)::starEach es X.env:=by rfl):JA X C (e::es) (dA fa fr) :=
 (zbT ha hr hs).weak fun Y H Q ⟨G,w,Z,r,p⟩=>by
  refine zdb (κ:=fun G H w=>kA X.K C Y Q G H w) ztM r p fun d Z1 v G1 H1 w1 r1 s1 q1 p1=>?_
  refine zu7 (κ:=fun G H w=>kA X.K C Y Q G H w) ztM r1 p1 fun ds Z2 vs G2 H2 w2 r2 s2 q2 p2=>?_
  exact p2 _ G2 H2 w2 (.refl _ _ _) r2 (za1.cons (q1.same s2.g) q2)
def zdT{α:Type}(l:List α):Bool:=decide (l.length<=16777216)
def zb9(f:DA):De:=fun Z=>(f Z).bind fun a=>if zdT a.1=true then .ok (.tup a.1,a.2) else .no
def zbU(f:DA):DN:=fun Z=>(f Z).bind fun a=>if zdT a.1=true then .ok (a.1,a.2) else .no
theorem ziL{α:Type}{l:List α}(h:zdT l=true):l.length<=sizeLine:=by
 have:=of_decide_eq_true h
 rw[show sizeLine=16777216 from by decide];exact this
theorem zaX{x1}{es:List Expr}{f:DA}(h:JA X C es f):JE X C (.Tuple es x1 pos) (zb9 f):=(ztn h).weak fun Y H Q ⟨G,w,Z,r,p⟩=>by
 refine zu7 (κ:=fun G H w=>kE X.K C Y Q G H w) zcc r p fun ds Z1 vs G1 H1 w1 r1 s1 q1 p1=>?_
 by_cases hf:zdT ds=true
 ·simp only[hf,if_true] at p1
  refine ⟨by rw[<- q1.length];exact ziL hf,fun a ha=>?_⟩
  have gr:zdU G1 H1 (upd G1 a (.tup vs)) (upd H1 a (.tup vs)):=.new r1.gh ha
  exact p1 _ _ _ w1 gr.step (r1.grow gr) (by unfold Rep;exact ⟨a,vs,rfl,zhM.of zan,q1.same gr.g⟩)
 ·simp only[hf] at p1;exact p1.elim
theorem zb3{es:List Expr}{f:DA}(h:JA X C es f):JN X C (.List es pos) (zbU f):=(zuH h).weak fun Y H Q ⟨G,w,Z,r,p⟩=>by
 refine zu7 (κ:=fun G H w=>kN X.K C Y Q G H w) zhc r p fun ds Z1 vs G1 H1 w1 r1 s1 q1 p1=>?_
 by_cases hf:zdT ds=true
 ·simp only[hf,if_true] at p1
  refine ⟨by rw[<- q1.length];exact ziL hf,fun a ha=>?_⟩
  have gr:zdU G1 H1 G1 (upd H1 a (.lst vs)):=.newH r1.gh ha
  exact p1 a vs _ _ w1 gr.step (r1.grow gr) ha zan (r1.gh.free ha) (by
   cases z:w1 a with
   |none=>rfl
   |some k=>exact absurd ha (r1.wh a (by rw[z];simp))) q1
 ·simp only[hf] at p1;exact p1.elim
def dFz(f:DN):De:=fun Z=>(f Z).bind fun a=>.ok (.lst a.1,a.2)
theorem Rel.know{K:W.Frag}{Y:L2.St}{G H:Hp}{w:Wn}{Z:Ev}{p:Addr}{o:HO}(r:Rel K C G w Z Y H)(hp:H p=some o)(hg:G p=none)(hw:w p=none)(H0:Hp)(G0:Hp)(w0:Wn)(s:zbv G0 H0 w0 G H w)(h0:H0 p=none)
  (e0:C.H₀ p=none\/C.w₀ p≠none\/C.G₀ p≠none):Rel K C (upd G p o) w Z Y H/\zbv G0 H0 w0 (upd G p o) H w:=by
 have sg:zcq G (upd G p o):=fun b u e=>by rw[zah (zak e hg)];exact e
 have s1:∀{G1 H1:Hp}{w1:Wn},zbv G1 H1 w1 G H w->(H1 p=none\/w1 p≠none\/G1 p≠none)->zbv G1 H1 w1 (upd G p o) H w:=fun s z=>by
  refine ⟨s.g.trans sg,fun b u e=>?_,s.h,s.w,s.k⟩
  by_cases hb:b=p
  ·subst hb
   rcases z with z|z|z
   ·exact .inr (.inl z)
   ·exact .inr (.inr z)
   ·exact .inl z
  ·rw[zah hb] at e;exact s.fr b u e
 refine ⟨⟨fun b u e=>?_,fun b e=>?_,r.wh,r.len,fun i b e=>?_,s1 r.en e0,r.pin⟩,s1 s (.inl h0)⟩
 ·by_cases hb:b=p
  ·subst hb;rw[zan] at e;cases e;exact hp
  ·rw[zah hb] at e;exact r.gh b u e
 ·by_cases hb:b=p
  ·subst hb;rw[hw] at e;exact absurd rfl e
  ·rw[zah hb];exact r.wg b e
 ·obtain ⟨v,h1,h2⟩:=r.sl i b e
  exact ⟨v,h1,h2.grow sg fun _ _ e1 e2=>⟨e2,e1⟩⟩
end
section
variable{X:Cx}{C:Cn}{a b e:Expr}{fa fb:De}{pos:Pos}
theorem za6{f:DN}(h:JN X C e f):JE X C e (dFz f):=PE.weak h fun Y H Q ⟨G,w,Z,r,p⟩=>by
 refine zvr (κ:=fun G H w=>kE X.K C Y Q G H w) r p fun ds Z1 a vs G1 H1 w1 r1 s1 h0 h1 h2 h3 q1 p1=>?_
 obtain ⟨r',s'⟩:=r1.know h1 h2 h3 H G w s1 h0 (.inl (r.en.k a h0))
 have sg:zcq G1 (upd G1 a (.lst vs)):=fun b u e=>by rw[zah (zak e h2)];exact e
 exact p1 _ _ _ _ s' r' (by unfold Rep;exact ⟨a,vs,rfl,zan,q1.same sg⟩)
def zaF(f g:DS):DS:=fun Z=>(f Z).bind fun a=>match a.1 with
 |.nx=>g a.2
 |fl=>.ok (fl,a.2)
def dNx:DS:=fun Z=>.ok (.nx,Z)
variable{st:Stmt}{zaL:List Stmt}{fs gs:DS}
theorem zaK:JSs X C [] dNx:=PSs.weak zsh fun D Y H ⟨G,w,Z,r,p⟩=>p Y G H w (.refl _ _ _) r
theorem zae(h1:JS X C st fs)(h2:JSs X C zaL gs):JSs X C (st::zaL) (zaF fs gs):=PSs.weak (zp9 h1 h2) fun D Y H ⟨G,w,Z,r,p⟩=>by
 refine ⟨G,w,Z,r,?_⟩
 unfold zaF at p
 cases e:fs Z with
 |ok x =>
  rw[e] at p
  obtain ⟨fl,Z1⟩:=x
  cases fl with
  |nx=>exact fun Y' G' H' w' s' r'=>⟨G',w',Z1,r',zcp.step zdA s' p⟩
  |bk=>exact p
  |ct=>exact p
  |rt d=>exact p
 |er n=>rw[e] at p;exact p
 |no=>rw[e] at p;exact p
theorem zam(h1:JS X C st fs):JSs X C [st] fs:=znW h1
def dEx(f:De):DS:=fun Z=>(f Z).bind fun a=>.ok (.nx,a.2)
theorem zdt(he:JE X C e fa)(hs:swapsWith e none pos.line X.env=pure false:=by rfl):JS X C (.Expr e pos) (dEx fa):=PS.weak (zsj he hs) fun D Y H ⟨G,w,Z,r,p⟩ =>
 zdb (κ:=fun G H w=>kS X.K C D G H w) zdA r p fun d Z1 v G1 H1 w1 r1 s1 q1 p1=>p1 Y G1 H1 w1 (.refl _ _ _) r1
def zbN(f:De):DS:=fun Z=>(f Z).bind fun a=>.ok (.rt a.1,a.2)
theorem za2(hn:C.nw=false)(he:JE X C e fa):JS X C (.Return (some e) pos) (zbN fa):=PS.weak (zrs he) fun D Y H ⟨G,w,Z,r,p⟩ =>
 zdb (κ:=fun G H w=>kS X.K C D G H w) zdA r p fun d Z1 v G1 H1 w1 r1 s1 q1 p1=>p1 v Y G1 H1 w1 (.refl _ _ _) r1 (by rw[hn];exact q1)
def zf9(f:DN):DS:=fun Z=>(f Z).bind fun a=>.ok (.rt (.lst a.1),a.2)
theorem zkx{f:DN}(hn:C.nw=true)(he:JN X C e f):JS X C (.Return (some e) pos) (zf9 f):=PS.weak (zrs he) fun D Y H ⟨G,w,Z,r,p⟩ =>
 zvr (κ:=fun G H w=>kS X.K C D G H w) r p fun ds Z1 a vs G1 H1 w1 r1 s1 h0 h1 h2 h3 q1 p1=>p1 _ Y G1 H1 w1 s1 r1 (by rw[hn];exact ⟨ds,a,vs,rfl,rfl,r.en.k a h0,h1,h2,h3,q1⟩)
def dIf(c:DT)(f g:DS):DS:=fun Z=>(c Z).bind fun b=>if b.1=true then f b.2 else g b.2
theorem zcd{c:Expr}{A B:List Stmt}{tc:DT}(hc:JT X C c tc)(ha:JSs X C A fs)(hb:JSs X C B gs):JS X C (.If c A B pos) (dIf tc fs gs):=PS.weak (zvp hc ha hb) fun D Y H ⟨G,w,Z,r,p⟩=>by
 refine ztk (κ:=fun G H w=>kS X.K C D G H w) zdA r p fun b Z1 G1 H1 w1 r1 s1 p1=>?_
 cases b with
 |true=>exact ⟨G1,w1,Z1,r1,p1⟩
 |false=>exact ⟨G1,w1,Z1,r1,p1⟩
theorem Rel.setVal{K:W.Frag}{Y:L2.St}{G H:Hp}{w:Wn}{Z:Ev}{i:Nat}{d:Dt}{v:V}(r:Rel K C G w Z Y H)(hi:i < Z.length)(hp:i∉C.pp)(h:Rep K G d v):Rel K C G w (Z.set i (some (.val d))) (Y.set i (some v)) H:=by
 refine ⟨r.gh,r.wg,r.wh,by simpa using r.len,fun j b e=>?_,r.en,fun j hj=>?_⟩
 ·by_cases hj:j=i
  ·subst hj
   rw[List.getElem?_set_self hi] at e
   cases e
   exact ⟨v,waz (by rw[<- r.len];exact hi),h⟩
  ·rw[List.getElem?_set_ne (Ne.symm hj)] at e
   obtain ⟨v',h1,h2⟩:=r.sl j b e
   exact ⟨v',by rw[List.getElem?_set_ne (Ne.symm hj)];exact h1,h2⟩
 ·have:i≠j:=fun z=>hp (z ▸ hj)
  rw[List.getElem?_set_ne this];exact r.pin j hj
theorem Rel.setOwn{K:W.Frag}{Y:L2.St}{G0 H0:Hp}{w0:Wn}{G H:Hp}{w:Wn}{Z:Ev}{i:Nat}{ds:List Dt}{p:Addr}{vs:List V}(r:Rel K C G w Z Y H)(hi:i < Z.length)(hpp:i∉C.pp)(hp:H p=some (.lst vs))(hg:G p=none)(hw:w p=none)
  (q:za1 K G ds vs) (s:zbv G0 H0 w0 G H w) (h0:H0 p=none) (en0:C.H₀ p=none) :
  Rel K C G (fun b=>if b=p then some i else w b) (Z.set i (some (.own ds))) (Y.set i (some (.ref p))) H/\zbv G0 H0 w0 G H (fun b=>if b=p then some i else w b):=by
 have s1:∀{G1 H1:Hp}{w1:Wn},zbv G1 H1 w1 G H w->H1 p=none->zbv G1 H1 w1 G H (fun b=>if b=p then some i else w b):=fun s z=>by
  refine ⟨s.g,s.fr,s.h,fun b e=>?_,s.k⟩
  by_cases hb:b=p
  ·subst hb;exact .inr z
  ·simp[hb] at e;exact s.w b e
 refine ⟨⟨r.gh,fun b e=>?_,fun b e=>?_,by simpa using r.len,fun j b e=>?_,s1 r.en en0,fun j hj=>?_⟩,s1 s h0⟩
 ·by_cases hb:b=p
  ·subst hb;exact hg
  ·simp[hb] at e;exact r.wg b e
 ·by_cases hb:b=p
  ·subst hb;rw[hp];simp
  ·simp[hb] at e;exact r.wh b e
 ·by_cases hj:j=i
  ·subst hj
   rw[List.getElem?_set_self hi] at e
   cases e
   exact ⟨_,waz (by rw[<- r.len];exact hi),p,vs,rfl,xws,hp,q⟩
  ·rw[List.getElem?_set_ne (Ne.symm hj)] at e
   obtain ⟨v',h1,h2⟩:=r.sl j b e
   refine ⟨v',by rw[List.getElem?_set_ne (Ne.symm hj)];exact h1,h2.grow (.refl _) fun a o e1 e2=>⟨e2,?_⟩⟩
   have:a≠p:=fun z=>by subst z;rw[hw] at e1;cases e1
   simp[this,e1]
 ·have:i≠j:=fun z=>hpp (z ▸ hj)
  rw[List.getElem?_set_ne this];exact r.pin j hj
def zb1(i:Nat)(f:De):DS:=fun Z=>(f Z).bind fun a=>if i<a.2.length then .ok (.nx,a.2.set i (some (.val a.1))) else .no
theorem zaY{i:Nat}{x:Str}{pos':Pos}(hN:X.N.Nodup)(hi:X.N[i]? = some x)(hx:Loc X.env.scope x)(hp:i∉C.pp)(he:JE X C e fa)(hs:swapsWith e (some (.Name x pos')) pos.line X.env=pure false:=by rfl)
  (hf:X.fn x=true\/X.env.scope.names.lookup x=some .local:=by exact xwA):JS X C (.Assign [.Name x pos'] e pos) (zb1 i fa) :=
 PS.weak (zlI hN hi hx he hs) fun D Y H ⟨G,w,Z,r,p⟩=>by
  refine zdb (κ:=fun G H w=>kS X.K C D G H w) zdA r p fun d Z1 v G1 H1 w1 r1 s1 q1 p1=>?_
  by_cases hl:i < Z1.length
  ·simp only[hl,if_true] at p1
   exact p1 _ G1 H1 w1 (.refl _ _ _) (r1.setVal hl hp q1)
  ·simp only[hl,if_false] at p1
   exact p1.elim
def zbF(i:Nat)(f:DN):DS:=fun Z=>(f Z).bind fun a=>if i<a.2.length then .ok (.nx,a.2.set i (some (.own a.1))) else .no
theorem zdr{i:Nat}{x:Str}{pos':Pos}{f:DN}(hN:X.N.Nodup)(hi:X.N[i]? = some x)(hx:Loc X.env.scope x)(hp:i∉C.pp)(he:JN X C e f)(hs:swapsWith e (some (.Name x pos')) pos.line X.env=pure false:=by rfl)
  (hf:X.fn x=true\/X.env.scope.names.lookup x=some .local:=by exact xwA):JS X C (.Assign [.Name x pos'] e pos) (zbF i f) :=
 PS.weak (zlI hN hi hx he hs) fun D Y H ⟨G,w,Z,r,p⟩=>by
  refine zvr (κ:=fun G H w=>kS X.K C D G H w) r p fun ds Z1 a vs G1 H1 w1 r1 s1 h0 h1 h2 h3 q1 p1=>?_
  by_cases hl:i < Z1.length
  ·simp only[hl,if_true] at p1
   obtain ⟨r',s'⟩:=r1.setOwn hl hp h1 h2 h3 q1 s1 h0 (r.en.k a h0)
   exact p1 _ _ _ _ s' r'
  ·simp only[hl,if_false] at p1
   exact p1.elim
def zll(i:Nat)(fb:De):De:=fun Z=>match Z[i]? with
 |some (some _)=>(fb Z).bind fun b=>match b.2[i]?,b.1 with
  |some (some (.own ds)),.int k=>match atI ds k with
   |some d=>.ok (d,b.2)
   |none=>.no
  |_,_=>.no
 |_=>.no
theorem zi8{K:W.Frag}{G:Hp}{ds:List Dt}{vs:List V}{k:Int}{d:Dt}(h:za1 K G ds vs)(e:atI ds k=some d):∃ v,atI vs k=some v/\Rep K G d v:=by
 unfold atI at e ⊢
 rw[<- h.length]
 cases q:ixN ds.length k with
 |none=>rw[q] at e;cases e
 |some j =>
  rw[q] at e
  exact h.get e
theorem zf3(i:Nat){x:Str}{ps:Pos}(hN:X.N[i]? = some x:=by rfl)(hb:JE X C b fb)(hv:Vis X.env.scope x:=by exact xwV)(hd:(x == ("__debug__" : Str))=false:=by decide)
  (hcd:(x == ("__classdict__" : Str))=false:=by decide) (hs:zli b:=by exact fun _ _=>rfl):JE X C (.Subscript (.Name x ps) b pos) (zll i fb) :=
 PE.weak (zut zn8 (zcm hN hv hd hcd) hb hs) fun Y H Q ⟨G,w,Z,r,p⟩=>by
  unfold zll at p
  split at p
  ·rename_i b0 e0
   obtain ⟨v0,h0,_⟩:=r.sl i b0 e0
   refine ⟨v0,h0,?_⟩
   refine zdb (κ:=fun G H w=>kE X.K C Y Q G H w) zcc r p fun d Z1 v G1 H1 w1 r1 s1 q1 p1=>?_
   dsimp only at p1
   split at p1
   ·rename_i ds k e1
    obtain ⟨v1,h1,a,vs,rfl,h2,h3,h4⟩:=r1.sl i _ e1
    rw[h0] at h1;cases h1
    split at p1
    ·rename_i d' e2
     obtain ⟨v2,h5,h6⟩:=zi8 h4 e2
     exact ⟨a,vs,k,v2,rfl,zas q1,SqL.of h3,h5,p1 v2 G1 H1 w1 (.refl _ _ _) r1 h6⟩
    ·exact p1.elim
   ·exact p1.elim
  ·exact p.elim
end
def znm(K:W.Frag)(J:It)(G:Hp)(ds:List Dt):Prop:=∀(i:Nat)(G1 H:Hp),zcq G G1->zcq G1 H ->
 (∀ d,ds[i]? = some d->J.go i H/\∀ x H',J.yld i H x H'->∃ G2,zdU G1 H G2 H'/\Rep K G2 d x)/\(ds.length<=i->J.stop i H)
def kI(K:W.Frag)(C:Cn)(Y:L2.St)(Q:It->Hp->Prop)(G H:Hp)(w:Wn)(a:List Dt×Ev):Prop :=
 ∀ J G' H' w',zbv G H w G' H' w'->Rel K C G' w' a.2 Y H'->znm K J G' a.1->Q J H'
def tI(K:W.Frag)(C:Cn)(f:DA):TI:=fun Y H Q=>∃ G w Z,Rel K C G w Z Y H/\zcp C.ex (kI K C Y Q G H w) (f Z)
abbrev JI(X:Cx)(C:Cn)(tg iter:Expr)(f:DA):Prop:=PI X tg iter (tI X.K C f)
section
variable{X:Cx}{C:Cn}{tg iter:Expr}{fa:De}{pos:Pos}
theorem zvv{K:W.Frag}{Y:L2.St}{α:Type}{κ:zpE α}(st:Stp κ){G H:Hp}{w:Wn}{Z:Ev}{fa:DA}{g:List Dt×Ev->R α}{Q:It->Hp->Prop}(r:Rel K C G w Z Y H)(p:zcp C.ex (κ G H w) ((fa Z).bind g))
  (k:∀ ds Z1 J G1 H1 w1,Rel K C G1 w1 Z1 Y H1->zbv G H w G1 H1 w1->znm K J G1 ds->zcp C.ex (κ G1 H1 w1) (g (ds,Z1))->Q J H1):tI K C fa Y H Q:=by
 refine ⟨G,w,Z,r,?_⟩
 cases e:fa Z with
 |ok a =>
  rw[e] at p
  intro v G' H' w' s' r' q
  exact k a.1 a.2 v G' H' w' r' s' q (zcp.step st s' p)
 |er n=>rw[e] at p;exact p
 |no=>rw[e] at p;exact p
theorem PI.or{t t':TI}(h:PI X tg iter t)(h':PI X tg iter t'):PI X tg iter (fun Y H Q=>t Y H Q\/t' Y H Q):=fun pS s Y H Q I q=>q.elim (h pS s Y H Q I) (h' pS s Y H Q I)
theorem PI.weak{t t':TI}(h:PI X tg iter t)(k:∀ Y H Q,t' Y H Q->t Y H Q):PI X tg iter t':=fun pS s Y H Q I q=>h pS s Y H Q I (k Y H Q q)
def dIt(f:De):DA:=fun Z=>(f Z).bind fun a=>match a.1 with
 |.lst l=>.ok (l,a.2)
 |.tup l=>.ok (l,a.2)
 |_=>.no
theorem ztB{K:W.Frag}{G:Hp}{a:Addr}{vs:List V}{ds:List Dt}(hs:SqT K G a vs)(q:za1 K G ds vs):znm K (Itt K a) G ds:=fun i G1 H s1 s2=>by
 refine ⟨fun d e=>?_,fun h=>⟨vs,zaD s2 (zaD s1 hs),by rw[<- q.length];exact h⟩⟩
 obtain ⟨v,e1,e2⟩:=q.get e
 refine ⟨⟨vs,v,zaD s2 (zaD s1 hs),e1⟩,fun x H' y=>?_⟩
 obtain ⟨rfl,y⟩:=y
 have:=y vs (zaD s2 (zaD s1 hs))
 rw[e1] at this;cases this
 exact ⟨G1,.refl s2,e2.same s1⟩
theorem zs2{K:W.Frag}{G:Hp}{a:Addr}{vs:List V}{ds:List Dt}(hs:SqL K G a vs)(q:za1 K G ds vs):znm K (Itl K a) G ds:=fun i G1 H s1 s2=>by
 refine ⟨fun d e=>?_,fun h=>⟨vs,s2.seq (s1.seq hs),by rw[<- q.length];exact h⟩⟩
 obtain ⟨v,e1,e2⟩:=q.get e
 refine ⟨⟨vs,v,s2.seq (s1.seq hs),e1⟩,fun x H' y=>?_⟩
 obtain ⟨rfl,y⟩:=y
 have:=y vs (s2.seq (s1.seq hs))
 rw[e1] at this;cases this
 exact ⟨G1,.refl s2,e2.same s1⟩
theorem zcF(h:JE X C iter fa):JI X C tg iter (dIt fa):=PI.weak (PI.or (zsO h) (ztW h)) fun Y H Q ⟨G,w,Z,r,p⟩=>by
 unfold dIt at p
 cases e:fa Z with
 |ok x =>
  obtain ⟨d,Z1⟩:=x
  cases d with
  |lst l =>
   rw[e] at p
   refine .inl ⟨G,w,Z,r,?_⟩
   rw[e]
   intro v G' H' w' s' r' q
   obtain ⟨a,vs,rfl,h1,h2⟩:=zba q
   exact ⟨a,rfl,⟨vs,SqL.of (r'.gh _ _ h1)⟩,p _ G' H' w' s' r' (zs2 (SqL.of h1) h2)⟩
  |tup l =>
   rw[e] at p
   refine .inr ⟨G,w,Z,r,?_⟩
   rw[e]
   intro v G' H' w' s' r' q
   obtain ⟨a,vs,rfl,h1,h2⟩:=zbK q
   exact ⟨a,rfl,⟨vs,zaD r'.gh h1⟩,p _ G' H' w' s' r' (ztB h1 h2)⟩
  |_=>rw[e] at p;exact p.elim
 |er n=>rw[e] at p;exact .inl ⟨G,w,Z,r,by rw[e];exact p⟩
 |no=>rw[e] at p;exact p.elim
def za7(lo:Int)(n:Nat):List Dt:=(List.range n).map fun k=>.int (lo+(k:Nat))
theorem zua{K:W.Frag}{G:Hp}{lo:Int}{n:Nat}:znm K (Itr lo n) G (za7 lo n):=fun i G1 H s1 s2=>by
 refine ⟨fun d e=>?_,fun h=>show n<=i by simpa [za7] using h⟩
 unfold za7 at e
 rw[List.getElem?_map] at e
 by_cases hi:i<n
 ·rw[List.getElem?_range hi] at e
  cases e
  refine ⟨hi,fun x H' y=>?_⟩
  obtain ⟨rfl,rfl⟩:=y
  exact ⟨G1,.refl s2,by unfold Rep;rfl⟩
 ·rw[List.getElem?_eq_none (by simpa using hi)] at e
  cases e
def zfH(j:Int):Bool:=decide (-4611686018427387904<=j) && decide (j<4611686018427387904)
theorem zi5{j:Int}(h:zfH j=true):-(2 ^ 62)<=j/\j<2 ^ 62:=by
 unfold zfH at h
 rw[Bool.and_eq_true] at h
 have h1:=of_decide_eq_true h.1
 have h2:=of_decide_eq_true h.2
 omega
def zbt(fa:De):DA:=fun Z=>(fa Z).bind fun a=>match a.1 with
 |.int j=>if zfH j=true then .ok (za7 0 j.toNat,a.2) else .no
 |_=>.no
theorem zbH{e:Expr}{p ps:Pos}(hg:Gl X "range")(hm:X.mg "range"=none)(he:JE X C e fa)(hs:starEach [e] X.env=[(false,eval e X.env)]:=by rfl):JI X C tg (.Call (.Name "range" p) [e] [] ps) (zbt fa) :=
 PI.weak (znT hg hm (zac he zap (by rw[hs];rfl)) hs) fun Y H Q ⟨G,w,Z,r,p⟩=>by
  unfold zbt at p
  refine ⟨G,w,Z,r,?_⟩
  unfold dA dA0
  cases e:fa Z with
  |ok x =>
   obtain ⟨d,Z1⟩:=x
   rw[e] at p
   intro vs G' H' w' s' r' q
   obtain ⟨v,t,rfl,q1,q2⟩:=q.cons_inv
   rw[q2.nil_inv]
   cases d with
   |int j =>
    simp only[R.bind_ok] at p
    by_cases hj:zfH j=true
    ·simp only[hj,if_true] at p
     exact ⟨j,by rw[zas q1],(zi5 hj).1,(zi5 hj).2,p _ G' H' w' s' r' zua⟩
    ·simp only[hj] at p;exact p.elim
   |_=>exact p.elim
  |er n=>rw[e] at p;exact p
  |no=>rw[e] at p;exact p
abbrev DG:=Dt->Ev->R Ev
def kG(K:W.Frag)(C:Cn)(Q:L2.St->Hp->Prop)(G H:Hp)(w:Wn)(Z:Ev):Prop :=
 ∀ Y' G' H' w',zbv G H w G' H' w'->Rel K C G' w' Z Y' H'->Q Y' H'
def tG(K:W.Frag)(C:Cn)(g:DG):TG:=fun v Y H Q=>∃ G w Z d,Rel K C G w Z Y H/\Rep K G d v/\zcp C.ex (kG K C Q G H w) (g d Z)
abbrev JG(X:Cx)(C:Cn)(tg:Expr)(g:DG):Prop:=PG X tg (tG X.K C g)
theorem PG.weak{t t':TG}(h:PG X tg t)(k:∀ v Y H Q,t' v Y H Q->t v Y H Q):PG X tg t':=fun pS s Y H v u Q I r q=>h pS s Y H v u Q I r (k v Y H Q q)
def zaM(i:Nat):DG:=fun d Z=>if i < Z.length then .ok (Z.set i (some (.val d))) else .no
theorem zaT{i:Nat}{x:Str}(hN:X.N.Nodup)(hi:X.N[i]? = some x)(hx:Loc X.env.scope x)(hp:i∉C.pp)(hf:X.fn x=true\/X.env.scope.names.lookup x=some .local:=by exact xwA):JG X C (.Name x pos) (zaM i) :=
 PG.weak (zi7 hN hi hx hf) fun v Y H Q ⟨G,w,Z,d,r,q,p⟩=>by
  unfold zaM at p
  by_cases hl:i < Z.length
  ·simp only[hl,if_true] at p
   exact p _ G H w (.refl _ _ _) (r.setVal hl hp q)
  ·simp only[hl,if_false] at p;exact p.elim
def zeh(i j:Nat):DG:=fun d Z=>match d with
 |.tup [a,b]=>if i < Z.length/\j < Z.length then .ok ((Z.set i (some (.val a))).set j (some (.val b))) else .no
 |_=>.no
theorem zky{i j k:Nat}{x y:Str}{p1 p2:Pos}(hc:X.calm=true)(hN:X.N.Nodup)(hi:X.N[i]? = some x)(hj:X.N[j]? = some y)(hx:Loc X.env.scope x)(hy:Loc X.env.scope y)(hp:i∉C.pp)(hq:j∉C.pp)
  (hf:X.fn x=true\/X.env.scope.names.lookup x=some .local:=by exact xwA) (hf2:X.fn y=true\/X.env.scope.names.lookup y=some .local:=by exact xwA)
  (hs1:(assignEach [.Name x p1,.Name y p2] X.env).map (·.2)=assign (.Name x p1) X.env::(assignEach [.Name y p2] X.env).map (·.2):=by rfl) (hs2:(assignEach [.Name y p2] X.env).map (·.2)=assign (.Name y p2) X.env::(assignEach [] X.env).map (·.2):=by rfl)
  (hn:(assignEach [.Name x p1,.Name y p2] X.env).length=2:=by rfl) (hst:(assignEach [.Name x p1,.Name y p2] X.env).findIdx? (·.1)=none:=by rfl):JG X C (.Tuple [.Name x p1,.Name y p2] k pos) (zeh i j) :=
 PG.weak (zu2 hc (zlu (zi7 hN hi hx hf) (zlu (zi7 hN hj hy hf2) zrJ hs2) hs1) hn hst) fun v Y H Q ⟨G,w,Z,d,r,q,p⟩=>by
  unfold zeh at p
  split at p
  ·rename_i a b
   obtain ⟨ad,vs,rfl,h1,h2⟩:=zbK q
   obtain ⟨v1,t,rfl,q1,q2⟩:=h2.cons_inv
   obtain ⟨v2,t2,rfl,q3,q4⟩:=q2.cons_inv
   rw[q4.nil_inv] at h1
   by_cases hl:i < Z.length/\j < Z.length
   ·simp only[hl,and_self,if_true] at p
    have r1:=r.setVal hl.1 hp q1
    have r2:=r1.setVal (i:=j) (by simpa using hl.2) hq q3
    exact ⟨ad,_,rfl,zaD r.gh h1,rfl,v1,_,rfl,v2,_,rfl,rfl,p _ G H w (.refl _ _ _) r2⟩
   ·simp only[hl,if_false] at p;exact p.elim
  ·exact p.elim
def zkp(g:DG)(body:DS):List Dt->DS
 |[],Z=>.ok (.nx,Z)
 |d::r,Z=>(g d Z).bind fun Z1=>(body Z1).bind fun a=>match a.1 with
  |.nx=>zkp g body r a.2
  |.ct=>zkp g body r a.2
  |.bk=>.ok (.nx,a.2)
  |.rt v=>.ok (.rt v,a.2)
def ze4(fi:DA)(g:DG)(body:DS):DS:=fun Z=>(fi Z).bind fun a=>zkp g body a.1 a.2
theorem zeC{body:List Stmt}{fi:DA}{g:DG}{fb:DS}(hp:PassesOwn (model X.prog X.w) X.A X.env X.xe)(hc:X.calm=true)(hi:JI X C tg iter fi)(hg:JG X C tg g)(hb:JSs X C body fb)
  (hs:∀ x,foldedSetIterable iter X.env x=pure x:=by intro _;rfl):JS X C (.For tg iter body [] pos) (ze4 fi g fb) :=
 PS.weak (zt9 hp hc hi hg hb hs) fun D Y H ⟨G,w,Z,r,p⟩=>by
  refine zvv (κ:=fun G H w=>kS X.K C D G H w) zdA r p fun ds Z1 J G1 H1 w1 r1 s1 it p1=>?_
  refine ⟨fun i m Y' H'=>m=ds.length-i/\i<=ds.length/\∃ G' w' Z',zcq G1 G'/\Rel X.K C G' w' Z' Y' H'/\zcp C.ex (kS X.K C D G' H' w') (zkp g fb (ds.drop i) Z'),
   ⟨ds.length,xws,Nat.zero_le _,G1,w1,Z1,.refl _,r1,by simpa using p1⟩,?_⟩
  rintro i m Y2 H2 ⟨rfl,hi,G2,w2,Z2,s2,r2,p2⟩
  obtain ⟨it1,it2⟩:=it i G2 H2 s2 r2.gh
  by_cases hlt:i<ds.length
  ·have ed:ds.drop i=ds[i]::ds.drop (i+1):=List.drop_eq_getElem_cons hlt
   obtain ⟨go,yl⟩:=it1 ds[i] (by simp[hlt])
   rw[ed] at p2
   refine .inr ⟨go,fun Y' H'=>(ds.length-(i+1))=ds.length-(i+1)/\i+1<=ds.length/\∃ G' w' Z',zcq G1 G'/\Rel X.K C G' w' Z' Y' H'/\zcp C.ex (kS X.K C D G' H' w') (zkp g fb (ds.drop (i+1)) Z'),
    fun Y' H' h=>⟨ds.length-(i+1),xwo,h⟩,fun x H' y=>?_⟩
   obtain ⟨G3,gr,q3⟩:=yl x H' y
   have r3:=r2.grow gr
   have p3:=zcp.step (κ:=fun G H w=>kS X.K C D G H w) zdA gr.step (w1:=w2) p2
   refine ⟨G3,w2,Z2,ds[i],r3,q3,?_⟩
   unfold zkp at p3
   cases eg:g ds[i] Z2 with
   |ok Z3 =>
    rw[eg] at p3
    intro Y4 G4 H4 w4 s4 r4
    have p4:=zcp.step (κ:=fun G H w=>kS X.K C D G H w) zdA s4 p3
    refine ⟨G4,w4,Z3,r4,?_⟩
    cases eb:fb Z3 with
    |ok z =>
     obtain ⟨fl,Z5⟩:=z
     rw[R.bind_ok,eb] at p4
     have sG:zcq G1 G4:=(s2.trans gr.g).trans s4.g
     cases fl with
     |nx=>exact fun Y6 G6 H6 w6 s6 r6=>⟨rfl,hlt,G6,w6,Z5,sG.trans s6.g,r6,zcp.step (κ:=fun G H w=>kS X.K C D G H w) zdA s6 p4⟩
     |ct=>exact fun Y6 G6 H6 w6 s6 r6=>⟨rfl,hlt,G6,w6,Z5,sG.trans s6.g,r6,zcp.step (κ:=fun G H w=>kS X.K C D G H w) zdA s6 p4⟩
     |bk=>exact p4
     |rt v=>exact p4
    |er n=>rw[R.bind_ok,eb] at p4;exact p4
    |no=>rw[R.bind_ok,eb] at p4;exact p4
   |er n=>rw[eg] at p3;exact p3
   |no=>rw[eg] at p3;exact p3
  ·have e:i=ds.length:=by omega
   subst e
   simp only[List.drop_length] at p2
   exact .inl ⟨it2 (wal _),p2 Y2 G2 H2 w2 (.refl _ _ _) r2⟩
def zcI(c:DT)(body:DS):Nat->DS
 |0,_=>.no
 |n+1,Z=>(c Z).bind fun t=>if t.1=true then (body t.2).bind fun a=>match a.1 with
   |.nx=>zcI c body n a.2
   |.ct=>zcI c body n a.2
   |.bk=>.ok (.nx,a.2)
   |.rt v=>.ok (.rt v,a.2)
  else .ok (.nx,t.2)
theorem zlL(n:Nat){c:Expr}{body:List Stmt}{tc:DT}{fb:DS}(hp:PassesOwn (model X.prog X.w) X.A X.env X.xe)(hc:JT X C c tc)(hb:JSs X C body fb):JS X C (.While c body [] pos) (zcI tc fb n) :=
 PS.weak (zqO hp hc hb) fun D Y H ⟨G,w,Z,r,p⟩=>by
  refine ⟨fun m Y' H'=>∃ G' w' Z',Rel X.K C G' w' Z' Y' H'/\zcp C.ex (kS X.K C D G' H' w') (zcI tc fb m Z'),⟨n,G,w,Z,r,p⟩,?_⟩
  rintro m Y1 H1 ⟨G1,w1,Z1,r1,p1⟩
  cases m with
  |zero=>exact p1.elim
  |succ m =>
   unfold zcI at p1
   refine ztk (κ:=fun G H w=>kS X.K C D G H w) zdA r1 p1 fun b Z2 G2 H2 w2 r2 s2 p2=>?_
   cases b with
   |false=>exact p2 Y1 G2 H2 w2 (.refl _ _ _) r2
   |true =>
    refine ⟨fun Y' H'=>∃ G' w' Z',Rel X.K C G' w' Z' Y' H'/\zcp C.ex (kS X.K C D G' H' w') (zcI tc fb m Z'),fun Y' H' h=>⟨m,Nat.lt_succ_self _,h⟩,G2,w2,Z2,r2,?_⟩
    have p2:zcp C.ex (kS X.K C D G2 H2 w2) ((fb Z2).bind fun a=>match a.1 with
     |.nx=>zcI tc fb m a.2
     |.ct=>zcI tc fb m a.2
     |.bk=>.ok (.nx,a.2)
     |.rt v=>.ok (.rt v,a.2)):=p2
    cases eb:fb Z2 with
    |ok z =>
     obtain ⟨fl,Z5⟩:=z
     rw[eb] at p2
     cases fl with
     |nx=>exact fun Y6 G6 H6 w6 s6 r6=>⟨G6,w6,Z5,r6,zcp.step (κ:=fun G H w=>kS X.K C D G H w) zdA s6 p2⟩
     |ct=>exact fun Y6 G6 H6 w6 s6 r6=>⟨G6,w6,Z5,r6,zcp.step (κ:=fun G H w=>kS X.K C D G H w) zdA s6 p2⟩
     |bk=>exact p2
     |rt v=>exact p2
    |er n=>rw[eb] at p2;exact p2
    |no=>rw[eb] at p2;exact p2
end
abbrev FD:=List B->R (Dt×List B)
def zjm:B->Bool
 |.val _=>false
 |_=>true
def zbx(bs:List B):List Bool:=bs.map zjm
structure PRel(K:W.Frag)(G H:Hp)(w:Wn)(bs:List B)(vs:List V):Prop where
 gh:zcq G H
 wg:∀ b,w b≠none->G b=none
 wh:∀ b,w b≠none->H b≠none
 len:bs.length=vs.length
 sl:∀(j:Nat)(b:B)(v:V),bs[j]? = some b->vs[j]? = some v->RB K G H w j v b
structure zne(K:W.Frag)(G H:Hp)(w:Wn)(ks:List Bool)(bs:List B)(vs:List V):Prop where
 gh:zcq G H
 wg:∀ b,w b≠none->G b=none
 wh:∀ b,w b≠none->H b≠none
 sl:∀(j:Nat)(v:V),ks[j]? = some true->vs[j]? = some v->∃ b,bs[j]? = some b/\RB K G H w j v b
def zpW(nw:Bool)(K:W.Frag)(xv:Nat->Value)(ks:List Bool)(F:FD):Sp:=fun vs H Q E=>∃ G w bs,vs.length=ks.length/\zbx bs=ks/\PRel K G H w bs vs /\
 match F bs with
 |.ok a=>∀ v G' H' w',zbv G H w G' H' w'->zne K G' H' w' ks a.2 vs->RtG nw K H G' H' w' a.1 v->Q v H'
 |.er n=>∀ G' H' w',zbv G H w G' H' w'->E (xv n) none H'
 |.no=>False
def EXc(C:Cn):XK:=fun u a H'=>a=none/\∃ n,u=C.xv n/\C.ex n/\∃ G' w',zbv C.G₀ C.H₀ C.w₀ G' H' w'
inductive Arg where
 |d (x:Dt)|s (i:Nat)
def zcQ(K:W.Frag)(G:Hp)(Y:L2.St):List Arg->List V->Prop
 |[],vs=>vs=[]
 |.d x::r,vs=>∃ v t,vs=v::t/\Rep K G x v/\zcQ K G Y r t
 |.s i::r,vs=>∃ v t,vs=v::t/\Y[i]? = some (some v)/\zcQ K G Y r t
theorem zcQ.same{K:W.Frag}{G G':Hp}{Y:L2.St}(e:zcq G G'):∀{as:List Arg}{vs:List V},zcQ K G Y as vs->zcQ K G' Y as vs
 |[],_,h=>h
 |.d _::_,_,⟨v,t,h1,h2,h3⟩=>⟨v,t,h1,h2.same e,zcQ.same e h3⟩
 |.s _::_,_,⟨v,t,h1,h2,h3⟩=>⟨v,t,h1,h2,zcQ.same e h3⟩
abbrev DAr:=Ev->R (List Arg×Ev)
def kAr(K:W.Frag)(C:Cn)(Y:L2.St)(Q:List V->Hp->Prop)(G H:Hp)(w:Wn)(a:List Arg×Ev):Prop :=
 ∀ vs G' H' w',zbv G H w G' H' w'->Rel K C G' w' a.2 Y H'->zcQ K G' Y a.1 vs->Q vs H'
def tAr(K:W.Frag)(C:Cn)(f:DAr):TA:=fun Y H Q=>∃ G w Z,Rel K C G w Z Y H/\zcp C.ex (kAr K C Y Q G H w) (f Z)
abbrev JAr(X:Cx)(C:Cn)(es:List Expr)(f:DAr):Prop:=PA X es (tAr X.K C f)
theorem znu{K:W.Frag}{C:Cn}{Y:L2.St}{Q:List V->Hp->Prop}:Stp (fun G H w=>kAr K C Y Q G H w):=fun _ _ _ _ _ _ _ s k v G' H' w' s'=>k v G' H' w' (s.trans s')
theorem zoJ{K:W.Frag}{C:Cn}{Y:L2.St}{α:Type}{κ:zpE α}(st:Stp κ){G H:Hp}{w:Wn}{Z:Ev}{fa:DAr}{g:List Arg×Ev->R α}{Q:List V->Hp->Prop}(r:Rel K C G w Z Y H)(p:zcp C.ex (κ G H w) ((fa Z).bind g))
  (k:∀ as Z1 vs G1 H1 w1,Rel K C G1 w1 Z1 Y H1->zbv G H w G1 H1 w1->zcQ K G1 Y as vs->zcp C.ex (κ G1 H1 w1) (g (as,Z1))->Q vs H1):tAr K C fa Y H Q:=by
 refine ⟨G,w,Z,r,?_⟩
 cases e:fa Z with
 |ok a =>
  rw[e] at p
  intro v G' H' w' s' r' q
  exact k a.1 a.2 v G' H' w' r' s' q (zcp.step st s' p)
 |er n=>rw[e] at p;exact p
 |no=>rw[e] at p;exact p
def dR0:DAr:=fun Z=>.ok ([],Z)
def dR(fa:De)(fr:DAr):DAr:=fun Z=>(fa Z).bind fun a=>(fr a.2).bind fun b=>.ok (.d a.1::b.1,b.2)
def dRO(i:Nat)(fr:DAr):DAr:=fun Z=>match Z[i]? with
 |some (some _)=>(fr Z).bind fun b=>.ok (.s i::b.1,b.2)
 |_=>.no
section
variable{X:Cx}{C:Cn}{fa:De}{fr:DAr}{pos:Pos}
theorem zar:JAr X C [] dR0:=PA.weak zep fun Y H Q ⟨G,w,Z,r,p⟩=>p _ G H w (.refl _ _ _) r rfl
theorem zad{e:Expr}{es:List Expr}(ha:JE X C e fa)(hr:JAr X C es fr)(hs:starEach (e::es) X.env=(false,eval e X.env)::starEach es X.env:=by rfl):JAr X C (e::es) (dR fa fr) :=
 PA.weak (zbT ha hr hs) fun Y H Q ⟨G,w,Z,r,p⟩=>by
  refine zdb (κ:=fun G H w=>kAr X.K C Y Q G H w) znu r p fun d Z1 v G1 H1 w1 r1 s1 q1 p1=>?_
  refine zoJ (κ:=fun G H w=>kAr X.K C Y Q G H w) znu r1 p1 fun as Z2 vs G2 H2 w2 r2 s2 q2 p2=>?_
  exact p2 _ G2 H2 w2 (.refl _ _ _) r2 ⟨v,vs,rfl,q1.same s2.g,q2⟩
theorem zbh(i:Nat){x:Str}{ps:Pos}{es:List Expr}(hr:JAr X C es fr)(hN:X.N[i]? = some x:=by rfl)(hv:Vis X.env.scope x:=by exact xwV)(hd:(x == ("__debug__" : Str))=false:=by decide)
  (hcd:(x == ("__classdict__" : Str))=false:=by decide) (hs:starEach (.Name x ps::es) X.env=(false,eval (.Name x ps) X.env)::starEach es X.env:=by rfl):JAr X C (.Name x ps::es) (dRO i fr) :=
 PA.weak (zbT (zcm hN hv hd hcd) hr hs) fun Y H Q ⟨G,w,Z,r,p⟩=>by
  unfold dRO at p
  split at p
  ·rename_i b e
   obtain ⟨v,h1,_⟩:=r.sl i b e
   refine ⟨v,h1,?_⟩
   refine zoJ (κ:=fun G H w=>kAr X.K C Y Q G H w) znu r p fun as Z2 vs G2 H2 w2 r2 s2 q2 p2=>?_
   exact p2 _ G2 H2 w2 (.refl _ _ _) r2 ⟨v,vs,rfl,h1,q2⟩
  ·exact p.elim
end
def zro(as:List Arg)(j:Nat):Option Nat:=match as[j]? with
 |some (.s i)=>some i
 |_=>none
def zbD(i:Nat):Nat->List Arg->Option Nat
 |_,[]=>none
 |j,.s i'::r=>if i'=i then some j else zbD i (j+1) r
 |j,.d _::r=>zbD i (j+1) r
def zco(as:List Arg)(i:Nat):Option Nat:=zbD i 0 as
def zaV(as:List Arg):Nat->List Arg->Bool
 |_,[]=>true
 |j,.s i::r=>(zco as i == some j) && zaV as (j+1) r
 |j,.d _::r=>zaV as (j+1) r
def zhE(as:List Arg):Bool:=zaV as 0 as
theorem zeL{as:List Arg}:∀{l:List Arg}{j k:Nat}{i:Nat},zaV as j l=true->l[k]? = some (.s i)->zco as i=some (j+k)
 |[],_,_,_,_,e=>by simp at e
 |.s i'::r,j,0,i,h,e=>by
  simp at e;subst e
  unfold zaV at h
  rw[Bool.and_eq_true] at h
  simpa using h.1
 |.s i'::r,j,k+1,i,h,e=>by
  unfold zaV at h
  rw[Bool.and_eq_true] at h
  have:=zeL (k:=k) h.2 (by simpa using e)
  rw[this];congr 1;omega
 |.d x::r,j,0,i,h,e=>by simp at e
 |.d x::r,j,k+1,i,h,e=>by
  unfold zaV at h
  have:=zeL (k:=k) h (by simpa using e)
  rw[this];congr 1;omega
theorem zgt{i:Nat}:∀{l:List Arg}{j m:Nat},zbD i j l=some m->∃ k,m=j+k/\l[k]? = some (.s i)
 |[],_,_,h=>by simp[zbD] at h
 |.s i'::r,j,m,h=>by
  unfold zbD at h
  split at h
  ·rename_i e;subst e;cases h;exact ⟨0,rfl,rfl⟩
  ·obtain ⟨k,h1,h2⟩:=zgt h
   exact ⟨k+1,xwo,by simpa using h2⟩
 |.d x::r,j,m,h=>by
  unfold zbD at h
  obtain ⟨k,h1,h2⟩:=zgt h
  exact ⟨k+1,xwo,by simpa using h2⟩
theorem zpZ{as:List Arg}{i j:Nat}(h:zco as i=some j):as[j]? = some (.s i):=by
 obtain ⟨k,h1,h2⟩:=zgt h
 have:j=k:=by omega
 subst this;exact h2
theorem zjc{as:List Arg}{i j:Nat}(u:zhE as=true)(h:as[j]? = some (.s i)):zco as i=some j:=by
 have:=zeL (j:=0) u h
 simpa using this
def zay(Z:Ev):List Arg->R (List B)
 |[]=>.ok []
 |.d x::r=>(zay Z r).bind fun bs=>.ok (.val x::bs)
 |.s i::r=>match Z[i]? with
  |some (some b)=>if zjm b=true then (zay Z r).bind fun bs=>.ok (b::bs) else .no
  |_=>.no
def ze5(as:List Arg)(bs:List B):Nat->Ev->Ev
 |_,[]=>[]
 |i,o::r=>(match zco as i with|some j=>bs[j]?|none=>o)::ze5 as bs (i+1) r
theorem ziC{as:List Arg}{bs:List B}:∀{Z:Ev}{k i:Nat},(ze5 as bs k Z)[i]? = Z[i]?.map fun o=>match zco as (k+i) with|some j=>bs[j]?|none=>o
 |[],_,_=>by simp[ze5]
 |o::r,k,0=>by simp[ze5]
 |o::r,k,i+1=>by
  have:=ziC (as:=as) (bs:=bs) (Z:=r) (k:=k+1) (i:=i)
  simp only[ze5,List.getElem?_cons_succ]
  rw[this]
  have e:k+1+i=k+(i+1):=by omega
  rw[e]
theorem zl6{as:List Arg}{bs:List B}:∀{Z:Ev}{k:Nat},(ze5 as bs k Z).length = Z.length
 |[],_=>rfl
 |o::r,k=>by simp[ze5,zl6 (Z:=r)]
def zag(F:FD)(fa:DAr):De:=fun Z=>(fa Z).bind fun a=>if zhE a.1=true then (zay a.2 a.1).bind fun bs=>(F bs).bind fun z=>.ok (z.1,ze5 a.1 z.2 0 a.2) else .no
theorem zeq{Z:Ev}:∀{as:List Arg}{bs:List B}{j i:Nat},zay Z as=.ok bs->as[j]? = some (.s i)->∃ b,Z[i]? = some (some b)/\bs[j]? = some b/\zjm b=true
 |[],bs,j,i,h,e=>by simp at e
 |.d x::r,bs,j,i,h,e=>by
  unfold zay at h
  cases q:zay Z r with
  |ok l =>
   rw[q] at h;simp only[R.bind_ok,R.ok.injEq] at h;subst h
   cases j with
   |zero=>simp at e
   |succ j =>
    obtain ⟨b,h1,h2,h3⟩:=zeq (j:=j) q (by simpa using e)
    exact ⟨b,h1,by simpa using h2,h3⟩
  |er n=>rw[q] at h;simp at h
  |no=>rw[q] at h;simp at h
 |.s i'::r,bs,j,i,h,e=>by
  unfold zay at h
  split at h
  ·rename_i b eb
   split at h
   ·rename_i ob
    cases q:zay Z r with
    |ok l =>
     rw[q] at h;simp only[R.bind_ok,R.ok.injEq] at h;subst h
     cases j with
     |zero=>simp at e;subst e;exact ⟨b,eb,rfl,ob⟩
     |succ j =>
      obtain ⟨b,h1,h2,h3⟩:=zeq (j:=j) q (by simpa using e)
      exact ⟨b,h1,by simpa using h2,h3⟩
    |er n=>rw[q] at h;simp at h
    |no=>rw[q] at h;simp at h
   ·cases h
  ·cases h
theorem zdz{Z:Ev}:∀{as:List Arg}{n:Nat},zay Z as≠.er n
 |[],n,h=>by simp[zay] at h
 |.d x::r,n,h=>by
  unfold zay at h
  cases q:zay Z r with
  |ok l=>rw[q] at h;simp at h
  |er m=>exact zdz q
  |no=>rw[q] at h;simp at h
 |.s i::r,n,h=>by
  unfold zay at h
  split at h
  ·split at h
   ·cases q:zay Z r with
    |ok l=>rw[q] at h;simp at h
    |er m=>exact zdz q
    |no=>rw[q] at h;simp at h
   ·cases h
  ·cases h
def wIn(w:Wn)(as:List Arg):Wn:=fun b=>(w b).bind (zco as)
def zp4(w w':Wn)(as:List Arg):Wn:=fun b=>match w' b with
 |some j=>zro as j
 |none=>if (w b).bind (zco as)=none then w b else none
section
variable{K:W.Frag}{C:Cn}{Y:L2.St}{G H:Hp}{w:Wn}{Z:Ev}
theorem zha(r:Rel K C G w Z Y H):∀{as l:List Arg}{vs:List V}{bs:List B}{k j:Nat}{b:B}{v:V},(∀ m i,l[m]? = some (.s i)->zco as i=some (k+m))->zcQ K G Y l vs->zay Z l=.ok bs->bs[j]? = some b->vs[j]? = some v->RB K G H (wIn w as) (k+j) v b
 |as,[],vs,bs,k,j,b,v,hu,ha,hr,hb,hv=>by simp[zay] at hr;subst hr;simp at hb
 |as,.d x::l,vs,bs,k,j,b,v,hu,ha,hr,hb,hv=>by
  obtain ⟨v0,t,rfl,h2,h3⟩:=ha
  unfold zay at hr
  cases q:zay Z l with
  |ok l' =>
   rw[q] at hr;simp only[R.bind_ok,R.ok.injEq] at hr;subst hr
   cases j with
   |zero=>simp at hb hv;subst hb;subst hv;exact h2
   |succ j =>
    have:=zha r (as:=as) (k:=k+1) (j:=j) (fun m i e=>by rw[hu (m+1) i (by simpa using e)];congr 1;omega) h3 q (by simpa using hb) (by simpa using hv)
    have e:k+1+j=k+(j+1):=by omega
    rw[e] at this;exact this
  |er n=>rw[q] at hr;simp at hr
  |no=>rw[q] at hr;simp at hr
 |as,.s i::l,vs,bs,k,j,b,v,hu,ha,hr,hb,hv=>by
  obtain ⟨v0,t,rfl,h2,h3⟩:=ha
  unfold zay at hr
  split at hr
  ·rename_i b0 eb
   split at hr
   ·rename_i ob
    cases q:zay Z l with
    |ok l' =>
     rw[q] at hr;simp only[R.bind_ok,R.ok.injEq] at hr;subst hr
     cases j with
     |zero =>
      simp at hb hv;subst hb;subst hv
      obtain ⟨v1,h4,h5⟩:=r.sl i _ eb
      rw[h2] at h4;cases h4
      exact h5.grow (.refl _) fun a o e1 e2=>⟨e2,by unfold wIn;rw[e1];exact hu 0 i rfl⟩
     |succ j =>
      have:=zha r (as:=as) (k:=k+1) (j:=j) (fun m i e=>by rw[hu (m+1) i (by simpa using e)];congr 1;omega) h3 q (by simpa using hb) (by simpa using hv)
      have e:k+1+j=k+(j+1):=by omega
      rw[e] at this;exact this
    |er n=>rw[q] at hr;simp at hr
    |no=>rw[q] at hr;simp at hr
   ·cases hr
  ·cases hr
theorem zf7:∀{as:List Arg}{vs:List V}{bs:List B},zcQ K G Y as vs->zay Z as=.ok bs->bs.length=vs.length
 |[],vs,bs,ha,hr=>by simp[zay] at hr;subst hr;cases ha;rfl
 |.d x::l,vs,bs,ha,hr=>by
  obtain ⟨v0,t,rfl,h2,h3⟩:=ha
  unfold zay at hr
  cases q:zay Z l with
  |ok l'=>rw[q] at hr;simp only[R.bind_ok,R.ok.injEq] at hr;subst hr;simp[zf7 h3 q]
  |er n=>rw[q] at hr;simp at hr
  |no=>rw[q] at hr;simp at hr
 |.s i::l,vs,bs,ha,hr=>by
  obtain ⟨v0,t,rfl,h2,h3⟩:=ha
  unfold zay at hr
  split at hr
  ·split at hr
   ·cases q:zay Z l with
    |ok l'=>rw[q] at hr;simp only[R.bind_ok,R.ok.injEq] at hr;subst hr;simp[zf7 h3 q]
    |er n=>rw[q] at hr;simp at hr
    |no=>rw[q] at hr;simp at hr
   ·cases hr
  ·cases hr
theorem zgZ:∀{as:List Arg}{vs:List V}{j i:Nat},zcQ K G Y as vs->as[j]? = some (.s i)->∃ v,vs[j]? = some v/\Y[i]? = some (some v)
 |[],_,_,_,_,e=>by simp at e
 |.d x::l,vs,j,i,ha,e=>by
  obtain ⟨v0,t,rfl,h2,h3⟩:=ha
  cases j with
  |zero=>simp at e
  |succ j=>obtain ⟨v,e1,e2⟩:=zgZ (j:=j) h3 (by simpa using e);exact ⟨v,by simpa using e1,e2⟩
 |.s i'::l,vs,j,i,ha,e=>by
  obtain ⟨v0,t,rfl,h2,h3⟩:=ha
  cases j with
  |zero=>simp at e;subst e;exact ⟨v0,rfl,h2⟩
  |succ j=>obtain ⟨v,e1,e2⟩:=zgZ (j:=j) h3 (by simpa using e);exact ⟨v,by simpa using e1,e2⟩
theorem Rel.back{as:List Arg}{vs:List V}{bs bs':List B}{ks:List Bool}{G' H':Hp}{w':Wn}(r:Rel K C G w Z Y H)(u:zhE as=true)(ha:zcQ K G Y as vs)(hr:zay Z as=.ok bs)(hk:zbx bs=ks)
  (s:zbv G H (wIn w as) G' H' w') (pb:zne K G' H' w' ks bs' vs):Rel K C G' (zp4 w w' as) (ze5 as bs' 0 Z) Y H'/\zbv G H w G' H' (zp4 w w' as):=by
 have wi:∀ b,wIn w as b≠none->w b≠none:=fun b e z=>e (by unfold wIn;rw[z];rfl)
 have wi2:∀ b,w b=none->wIn w as b=none:=fun b z=>by unfold wIn;rw[z];rfl
 have st:zbv G H w G' H' (zp4 w w' as):=by
  refine ⟨s.g,fun b o e=>?_,fun b o e z=>s.h b o e (wi2 b z),fun b e=>?_,s.k⟩
  ·rcases s.fr b o e with q|q|q
   ·exact .inl q
   ·exact .inr (.inl q)
   ·exact .inr (.inr (wi b q))
  ·unfold zp4 at e
   split at e
   ·rename_i j ej
    rcases s.w b (by rw[ej];simp) with q|q
    ·exact .inl (wi b q)
    ·exact .inr q
   ·split at e
    ·exact .inl e
    ·exact absurd rfl e
 have keep:∀ a o,w a≠none->(w a).bind (zco as)=none->H a=some o->H' a=some o/\w' a=none/\G' a=none:=fun a o e1 e2 e3=>by
  have e4:wIn w as a=none:=e2
  have e5:=s.h a o e3 e4
  have e6:w' a=none:=by
   cases q:w' a with
   |none=>rfl
   |some j =>
    rcases s.w a (by rw[q];simp) with z|z
    ·exact absurd e4 z
    ·rw[e3] at z;cases z
  refine ⟨e5,e6,?_⟩
  cases q:G' a with
  |none=>rfl
  |some o' =>
   rcases s.fr a o' q with z|z|z
   ·exact absurd (r.wg a e1) z
   ·rw[e3] at z;cases z
   ·exact absurd e4 z
 refine ⟨⟨pb.gh,fun b e=>?_,fun b e=>?_,by rw[zl6];exact r.len,fun i b e=>?_,r.en.trans st,r.pin⟩,st⟩
 ·unfold zp4 at e
  split at e
  ·rename_i j ej
   exact pb.wg b (by rw[ej];simp)
  ·split at e
   ·rename_i e2
    cases q:H b with
    |none=>exact absurd q (r.wh b e)
    |some o=>exact (keep b o e e2 q).2.2
   ·exact absurd rfl e
 ·unfold zp4 at e
  split at e
  ·rename_i j ej
   exact pb.wh b (by rw[ej];simp)
  ·split at e
   ·rename_i e2
    cases q:H b with
    |none=>exact absurd q (r.wh b e)
    |some o=>rw[(keep b o e e2 q).1];simp
   ·exact absurd rfl e
 ·rw[ziC,Nat.zero_add] at e
  cases q:zco as i with
  |some j =>
   have ej:=zpZ q
   obtain ⟨v,e1,e2⟩:=zgZ ha ej
   obtain ⟨b0,h1,h2,h3⟩:=zeq hr ej
   have hkj:ks[j]? = some true:=by rw[<- hk];unfold zbx;rw[List.getElem?_map,h2];simp[h3]
   obtain ⟨b',h4,h5⟩:=pb.sl j v hkj e1
   rw[h1] at e
   simp only[q,Option.map_some] at e
   rw[h4] at e
   have e':b'=b:=by simpa using e
   subst e'
   refine ⟨v,e2,h5.grow (.refl _) fun a o q1 q2=>⟨q2,?_⟩⟩
   unfold zp4 zro
   rw[q1];simp only;rw[ej]
  |none =>
   cases e1:Z[i]? with
   |none=>rw[e1] at e;simp at e
   |some o0 =>
    rw[e1] at e
    simp only[q,Option.map_some,Option.some.injEq] at e
    subst e
    obtain ⟨v,h1,h2⟩:=r.sl i b e1
    refine ⟨v,h1,h2.grow s.g fun a o q1 q2=>?_⟩
    have z:(w a).bind (zco as)=none:=by rw[q1];exact q
    obtain ⟨k1,k2,_⟩:=keep a o (by rw[q1];simp) z q2
    refine ⟨k1,?_⟩
    unfold zp4
    rw[k2];simp only;rw[if_pos z];exact q1
end
section
variable{X:Cx}{C:Cn}{CX:CXT}{k:Nat}{f:Addr}{fd:FuncData}{ps:List Str}{ks:List Bool}{Fd:FD}{x:Str}{p pos:Pos}{e:Expr}{es:List Expr}{far:DAr}
theorem zpc{Y:L2.St}{H:Hp}{Q:VK}(h:tE X.K C (zag Fd far) Y H Q)(hks:∀ bs,Fd bs≠.no->zbx bs=ks):zqC (zpW false X.K C.xv ks Fd) [] (EXc C) (tAr X.K C far) Y H Q:=by
 obtain ⟨G,w,Z,r,p⟩:=h
 refine zoJ (κ:=fun G H w=>kE X.K C Y Q G H w) zcc r p fun as Z1 vs G1 H1 w1 r1 s1 q1 p1=>?_
 rw[List.append_nil]
 by_cases hu:zhE as=true
 ·simp only[hu,if_true] at p1
  cases er:zay Z1 as with
  |ok bs =>
   rw[er,R.bind_ok] at p1
   have hk:zbx bs=ks:=by
    refine hks bs fun z=>?_
    rw[z] at p1;exact p1
   have hl:bs.length=vs.length:=zf7 q1 er
   refine ⟨G1,wIn w1 as,bs,by rw[<- hk,<- hl];simp[zbx],hk,⟨r1.gh,fun b e=>r1.wg b fun z=>e (by unfold wIn;rw[z];rfl),fun b e=>r1.wh b fun z=>e (by unfold wIn;rw[z];rfl),hl,fun j b v e1 e2=>?_⟩,?_⟩
   ·have:=zha r1 (as:=as) (k:=0) (j:=j) (fun m i e=>by rw[Nat.zero_add];exact zjc hu e) q1 er e1 e2
    rw[Nat.zero_add] at this;exact this
   ·cases ef:Fd bs with
    |ok z =>
     rw[ef,R.bind_ok] at p1
     intro v G' H' w' s' pb q
     obtain ⟨r',st⟩:=r1.back hu q1 er hk s' pb
     exact p1 v G' H' _ st r' q
    |er n =>
     rw[ef] at p1
     intro G' H' w' s'
     refine ⟨rfl,n,rfl,p1,G',fun _=>none,r1.en.trans ⟨s'.g,fun b o e=>?_,fun b o e z=>s'.h b o e (by unfold wIn;rw[z];rfl),fun b e=>absurd rfl e,s'.k⟩⟩
     rcases s'.fr b o e with q|q|q
     ·exact .inl q
     ·exact .inr (.inl q)
     ·exact .inr (.inr fun z=>q (by unfold wIn;rw[z];rfl))
    |no=>rw[ef] at p1;exact p1.elim
  |er n=>exact absurd er zdz
  |no=>rw[er] at p1;exact p1.elim
 ·simp only[hu] at p1;exact p1.elim
theorem zsq(F:zhF X.prog X.w X.K X.mg X.base CX k f fd ps (zpW false X.K C.xv ks Fd))(hr:zcY k X.A)(hg:Gl X x)(hm:X.mg x=some (.ref f))(hk:W.keepIn X.K (.ref f)=true)(hb:zgP X.K fd ps [])(hx:zcH CX X (EXc C))(hks:∀ bs,Fd bs≠.no->zbx bs=ks)
  (ha:JAr X C (e::es) far) (hdb:(x == ("__debug__" : Str))=false:=by decide) (he:starEach (e::es) X.env=(false,eval e X.env)::starEach es X.env:=by rfl) (hpl:(backTo pos (starEach es X.env)).any (·.1)=false:=by rfl) :
  JE X C (.Call (.Name x p) (e::es) [] pos) (zag Fd far) :=
 PE.weak (zkH F hr hg hm hk hb .nil hx ha hdb he hpl) fun Y H Q h=>zpc h hks
def zg0(F:FD)(fa:DAr):DN:=fun Z=>(fa Z).bind fun a=>if zhE a.1=true then (zay a.2 a.1).bind fun bs=>(F bs).bind fun z=>match z.1 with
  |.lst l=>.ok (l,ze5 a.1 z.2 0 a.2)
  |_=>.no
 else .no
theorem zmM{Y:L2.St}{H:Hp}{Q:VK}(h:tN X.K C (zg0 Fd far) Y H Q)(hks:∀ bs,Fd bs≠.no->zbx bs=ks):zqC (zpW true X.K C.xv ks Fd) [] (EXc C) (tAr X.K C far) Y H Q:=by
 obtain ⟨G,w,Z,r,p⟩:=h
 refine zoJ (κ:=fun G H w=>kN X.K C Y Q G H w) zhc r p fun as Z1 vs G1 H1 w1 r1 s1 q1 p1=>?_
 rw[List.append_nil]
 by_cases hu:zhE as=true
 ·simp only[hu,if_true] at p1
  cases er:zay Z1 as with
  |ok bs =>
   rw[er,R.bind_ok] at p1
   have hk:zbx bs=ks:=by
    refine hks bs fun z=>?_
    rw[z] at p1;exact p1
   have hl:bs.length=vs.length:=zf7 q1 er
   refine ⟨G1,wIn w1 as,bs,by rw[<- hk,<- hl];simp[zbx],hk,⟨r1.gh,fun b e=>r1.wg b fun z=>e (by unfold wIn;rw[z];rfl),fun b e=>r1.wh b fun z=>e (by unfold wIn;rw[z];rfl),hl,fun j b v e1 e2=>?_⟩,?_⟩
   ·have:=zha r1 (as:=as) (k:=0) (j:=j) (fun m i e=>by rw[Nat.zero_add];exact zjc hu e) q1 er e1 e2
    rw[Nat.zero_add] at this;exact this
   ·cases ef:Fd bs with
    |ok z =>
     rw[ef,R.bind_ok] at p1
     intro v G' H' w' s' pb q
     obtain ⟨r',st⟩:=r1.back hu q1 er hk s' pb
     obtain ⟨l,pp,us,e1,e2,e3,e4,e5,e6,e7⟩:=q
     subst e2
     rw[e1] at p1
     refine p1 pp us G' H' _ st r' e3 e4 e5 ?_ e7
     have w1p:w1 pp=none:=by
      cases zz:w1 pp with
      |none=>rfl
      |some k=>exact absurd e3 (r1.wh pp (by rw[zz];simp))
     unfold zp4
     rw[e6,w1p];rfl
    |er n =>
     rw[ef] at p1
     intro G' H' w' s'
     refine ⟨rfl,n,rfl,p1,G',fun _=>none,r1.en.trans ⟨s'.g,fun b o e=>?_,fun b o e z=>s'.h b o e (by unfold wIn;rw[z];rfl),fun b e=>absurd rfl e,s'.k⟩⟩
     rcases s'.fr b o e with q|q|q
     ·exact .inl q
     ·exact .inr (.inl q)
     ·exact .inr (.inr fun z=>q (by unfold wIn;rw[z];rfl))
    |no=>rw[ef] at p1;exact p1.elim
  |er n=>exact absurd er zdz
  |no=>rw[er] at p1;exact p1.elim
 ·simp only[hu] at p1;exact p1.elim
theorem zsW(F:zhF X.prog X.w X.K X.mg X.base CX k f fd ps (zpW true X.K C.xv ks Fd))(hr:zcY k X.A)(hg:Gl X x)(hm:X.mg x=some (.ref f))(hk:W.keepIn X.K (.ref f)=true)(hb:zgP X.K fd ps [])(hx:zcH CX X (EXc C))(hks:∀ bs,Fd bs≠.no->zbx bs=ks)
  (ha:JAr X C (e::es) far) (hdb:(x == ("__debug__" : Str))=false:=by decide) (he:starEach (e::es) X.env=(false,eval e X.env)::starEach es X.env:=by rfl) (hpl:(backTo pos (starEach es X.env)).any (·.1)=false:=by rfl) :
  JN X C (.Call (.Name x p) (e::es) [] pos) (zg0 Fd far) :=
 PE.weak (zkH F hr hg hm hk hb .nil hx ha hdb he hpl) fun Y H Q h=>zmM h hks
def zaw:List Bool->Ev->R (List B)
 |[],_=>.ok []
 |false::ks,_::Z=>(zaw ks Z).bind fun l=>.ok (.val .non::l)
 |true::ks,some b::Z=>(zaw ks Z).bind fun l=>.ok (b::l)
 |_,_=>.no
def zaq(nw:Bool)(ks:List Bool)(m:Nat)(body:DS):FD:=fun bs=>if zbx bs=ks then (body (bs.map some++List.replicate m none)).bind fun a=>match a.1 with
  |.nx=>if nw=true then .no else (zaw ks a.2).bind fun l=>.ok (.non,l)
  |.rt d=>(zaw ks a.2).bind fun l=>.ok (d,l)
  |_=>.no
 else .no
theorem zau{nw:Bool}{ks:List Bool}{m:Nat}{body:DS}:∀ bs,zaq nw ks m body bs≠.no->zbx bs=ks:=fun bs h=>by
 unfold zaq at h
 by_cases e:zbx bs=ks
 ·exact e
 ·rw[if_neg e] at h;exact absurd rfl h
theorem zd9:∀{ks:List Bool}{Z:Ev}{l:List B}{j:Nat},zaw ks Z=.ok l->ks[j]? = some true->∃ b,l[j]? = some b/\Z[j]? = some (some b)
 |[],_,_,_,_,e=>by simp at e
 |false::ks,[],l,j,h,e=>by simp[zaw] at h
 |true::ks,[],l,j,h,e=>by simp[zaw] at h
 |false::ks,o::Z,l,j,h,e=>by
  unfold zaw at h
  cases q:zaw ks Z with
  |ok l' =>
   rw[q] at h;simp only[R.bind_ok,R.ok.injEq] at h;subst h
   cases j with
   |zero=>simp at e
   |succ j=>obtain ⟨b,h1,h2⟩:=zd9 (j:=j) q (by simpa using e);exact ⟨b,by simpa using h1,by simpa using h2⟩
  |er n=>rw[q] at h;simp at h
  |no=>rw[q] at h;simp at h
 |true::ks,none::Z,l,j,h,e=>by simp[zaw] at h
 |true::ks,some b::Z,l,j,h,e=>by
  unfold zaw at h
  cases q:zaw ks Z with
  |ok l' =>
   rw[q] at h;simp only[R.bind_ok,R.ok.injEq] at h;subst h
   cases j with
   |zero=>exact ⟨b,rfl,rfl⟩
   |succ j=>obtain ⟨b,h1,h2⟩:=zd9 (j:=j) q (by simpa using e);exact ⟨b,by simpa using h1,by simpa using h2⟩
  |er n=>rw[q] at h;simp at h
  |no=>rw[q] at h;simp at h
theorem zcM:∀{ks:List Bool}{Z:Ev}{n:Nat},zaw ks Z≠.er n
 |[],_,_,h=>by simp[zaw] at h
 |false::ks,[],n,h=>by simp[zaw] at h
 |true::ks,[],n,h=>by simp[zaw] at h
 |false::ks,o::Z,n,h=>by
  unfold zaw at h
  cases q:zaw ks Z with
  |ok l'=>rw[q] at h;simp at h
  |er m=>exact zcM q
  |no=>rw[q] at h;simp at h
 |true::ks,none::Z,n,h=>by simp[zaw] at h
 |true::ks,some b::Z,n,h=>by
  unfold zaw at h
  cases q:zaw ks Z with
  |ok l'=>rw[q] at h;simp at h
  |er m=>exact zcM q
  |no=>rw[q] at h;simp at h
def zaB(ks:List Bool):List Nat:=(List.range ks.length).filter fun j=>ks[j]? == some true
def zrg(CX:CXT)(P:Program)(w:World)(K:W.Frag)(mg:Str->Option Value)(base:Heap):Prop :=
 ∀(N:List Str)(qual:Str)(scope:Scope)(f:Addr)(cdv:Value)(A:Around)(outer:List Env)(s:Shared)(H:Hp)(E E':XK),scope.kind=.function->(∀ u a H',E' u a H'->E u a H') ->
  zcH CX (ziN CX P w K mg base N qual scope f cdv A outer s H E) E'
theorem zaN{P:Program}{w:World}{K:W.Frag}{mg:Str->Option Value}{base:Heap}{xq qual:Str}{st:Stmt}{N:List Str}{xv:Nat->Value}{m:Nat}{fb:DS}(nw:Bool)(lv:zrg CX P w K mg base)(F:Fun K xq qual st f fd)(S:zax N ps (zaj st))(hl:ps.length=ks.length)(hm:N.length=ks.length+m)
  (hbody:∀(X:Cx)(C:Cn),(∃ cdv A outer s H E,X=ziN CX P w K mg base N qual (zaj st) f cdv A outer s H E)->C.pp=zaB ks->C.xv=xv->C.nw=nw->zcY k X.A->zcH CX X (EXc C)->PassesOwn (model X.prog X.w) X.A X.env X.xe->JSs X C (zcj st) fb) :
  zhF P w K mg base CX (k+1) f fd ps (zpW nw K xv ks (zaq nw ks m fb)):=by
 obtain ⟨oc,od,kV,doc,pm,an,cdv,ct,osl,rfl,lk,hcd⟩:=F.ex
 refine zqr lk hcd S (fun vs H Q E ⟨_,_,_,h,_⟩=>h.trans hl.symm) fun A outer s H vs Q E hr hsp=>?_
 obtain ⟨G,w0,bs,hv,hk,pr,hF⟩:=hsp
 let X:=ziN CX P w K mg base N qual (zaj st) f cdv A outer s H E
 let C:Cn:=⟨G,H,w0,zaB ks,L2.start N vs,fun n=>zaq nw ks m fb bs=.er n,xv,nw⟩
 have hE:∀ u a H',EXc C u a H'->E u a H':=fun u a H' ⟨ea,n,eu,en,G',w',s'⟩=>by
  subst ea;subst eu
  have en':zaq nw ks m fb bs=.er n:=en
  rw[en'] at hF
  exact hF G' H' w' s'
 have hb:=hbody X C ⟨cdv,A,outer,s,H,E,rfl⟩ rfl rfl rfl hr (lv N qual (zaj st) f cdv A outer s H E (EXc C) S.kind hE) PassesOwn.leaving
 refine ⟨_,hb,G,w0,bs.map some++List.replicate m none,?_,?_⟩
 ·refine ⟨pr.gh,pr.wg,pr.wh,?_,fun i b e=>?_,.refl _ _ _,fun i _=>rfl⟩
  ·unfold L2.start
   simp only[wav,List.length_map,List.length_replicate]
   have:=pr.len
   omega
  ·have hi:i<bs.length:=by
    by_cases hi:i<bs.length
    ·exact hi
    ·rw[List.getElem?_append_right (by simpa using hi),List.getElem?_replicate] at e
     split at e <;> cases e
   rw[List.getElem?_append_left (by simpa using hi),List.getElem?_map] at e
   have eb:bs[i]? = some b:=by
    cases q:bs[i]? with
    |none=>rw[q] at e;cases e
    |some z=>rw[q] at e;cases e;rfl
   have hiv:i<vs.length:=by rw[<- pr.len];exact hi
   refine ⟨vs[i],?_,pr.sl i b vs[i] eb (by simp[hiv])⟩
   unfold L2.start
   rw[List.getElem?_append_left (by simpa using hiv),List.getElem?_map]
   simp[hiv]
 ·have hF':match zaq nw ks m fb bs with
   |.ok a=>∀ v G' H' w',zbv G H w0 G' H' w'->zne K G' H' w' ks a.2 vs->RtG nw K H G' H' w' a.1 v->Q v H'
   |.er n=>∀ G' H' w',zbv G H w0 G' H' w'->E (xv n) none H'
   |.no=>False:=hF
  have er:zaq nw ks m fb bs=(fb (bs.map some++List.replicate m none)).bind fun a=>match a.1 with
   |.nx=>if nw=true then .no else (zaw ks a.2).bind fun l=>.ok (.non,l)
   |.rt d=>(zaw ks a.2).bind fun l=>.ok (d,l)
   |_=>.no:=by unfold zaq;rw[if_pos hk]
  have back:∀{Z':Ev}{l:List B}{Y':L2.St}{G' H':Hp}{w':Wn},zaw ks Z'=.ok l->Rel K C G' w' Z' Y' H'->zne K G' H' w' ks l vs:=fun {Z' l Y' G' H' w'} eb r'=>by
   refine ⟨r'.gh,r'.wg,r'.wh,fun j v e1 e2=>?_⟩
   obtain ⟨b,h1,h2⟩:=zd9 eb e1
   obtain ⟨v',h3,h4⟩:=r'.sl j b h2
   have hj:j<ks.length:=(wam.mp e1).1
   have hp:Y'[j]? = (L2.start N vs)[j]? := r'.pin j (by
    show j∈zaB ks
    unfold zaB
    rw[List.mem_filter]
    exact ⟨List.mem_range.mpr hj,by simp[e1]⟩)
   have hs:(L2.start N vs)[j]? = some (some v):=by
    unfold L2.start
    rw[List.getElem?_append_left (by simpa using (List.getElem?_eq_some_iff.mp e2).1),List.getElem?_map,e2];rfl
   rw[hp,hs] at h3;cases h3
   exact ⟨b,h1,h4⟩
  cases ef:fb (bs.map some++List.replicate m none) with
  |ok z =>
   obtain ⟨fl,Z'⟩:=z
   rw[ef,R.bind_ok] at er
   cases fl with
   |nx =>
    cases nw with
    |true=>rw[er] at hF';exact hF'.elim
    |false =>
     intro Y' G' H' w' s' r'
     have er:zaq false ks m fb bs=(zaw ks Z').bind fun l=>.ok (.non,l):=er
     cases eb:zaw ks Z' with
     |ok l =>
      rw[er] at hF';simp only[eb,R.bind_ok] at hF'
      exact hF' _ G' H' w' s' (back eb r') (by unfold RtG Rep;rfl)
     |er n=>exact absurd eb zcM
     |no=>rw[er] at hF';simp only[eb,R.bind_no] at hF'
   |rt d =>
    intro v Y' G' H' w' s' r' q
    cases eb:zaw ks Z' with
    |ok l =>
     rw[er] at hF';simp only[eb,R.bind_ok] at hF'
     exact hF' _ G' H' w' s' (back eb r') q
    |er n=>exact absurd eb zcM
    |no=>rw[er] at hF';simp only[eb,R.bind_no] at hF'
   |bk=>rw[er] at hF';exact hF'.elim
   |ct=>rw[er] at hF';exact hF'.elim
  |er n =>
   show zaq nw ks m fb bs=.er n
   rw[er,ef];rfl
  |no=>rw[er,ef] at hF';exact hF'.elim
theorem xwQ{P:Program}{w:World}{K:W.Frag}{mg:Str->Option Value}{base:Heap}{xq qual:Str}{st:Stmt}{N:List Str}{xv:Nat->Value}{m:Nat}{fb:DS}(nw:Bool)(lv:zrg CX P w K mg base)(F:Fun K xq qual st f fd)(S:zax N ps (zaj st))(hl:ps.length=ks.length)(hm:N.length=ks.length+m)
  (hbody:∀ cdv A outer s H E cG cH cw cσ cex,nw=nw->zcY k (ziN CX P w K mg base N qual (zaj st) f cdv A outer s H E).A->zcH CX (ziN CX P w K mg base N qual (zaj st) f cdv A outer s H E) (EXc (⟨cG,cH,cw,zaB ks,cσ,cex,xv,nw⟩:Cn))->PassesOwn (model (ziN CX P w K mg base N qual (zaj st) f cdv A outer s H E).prog (ziN CX P w K mg base N qual (zaj st) f cdv A outer s H E).w) (ziN CX P w K mg base N qual (zaj st) f cdv A outer s H E).A (ziN CX P w K mg base N qual (zaj st) f cdv A outer s H E).env (ziN CX P w K mg base N qual (zaj st) f cdv A outer s H E).xe->JSs (ziN CX P w K mg base N qual (zaj st) f cdv A outer s H E) (⟨cG,cH,cw,zaB ks,cσ,cex,xv,nw⟩:Cn) (zcj st) fb) :
  zhF P w K mg base CX (k+1) f fd ps (zpW nw K xv ks (zaq nw ks m fb)):=zaN nw lv F S hl hm fun X ⟨cG,cH,cw,_,cσ,cex,_,_⟩ ⟨cdv,A,outer,s,H,E,e⟩ h1 h2 h3=>by subst e;dsimp only at h1 h2 h3;subst h1 h2 h3;exact hbody cdv A outer s H E cG cH cw cσ cex rfl
end
mutual
def zfa:Dt->PyData
 |.non=>.none
 |.bl b=>.bool b
 |.int i=>.int i
 |.str x=>.str x
 |.tup l=>.tuple (ze2 l)
 |.lst l=>.list (ze2 l)
 |.dct=>.dict []
 |.scr ns=>.list (ns.map .int)
def ze2:List Dt->List PyData
 |[]=>[]
 |d::ds=>zfa d::ze2 ds
end
def okN:Nat->Dt->Bool
 |_,.non=>true
 |_,.bl _=>true
 |_,.int _=>true
 |_,.str x=>PySem.PyData.strOk x
 |0,.tup _=>false
 |0,.lst _=>false
 |n+1,.tup l=>l.all (okN n)
 |n+1,.lst l=>l.all (okN n)
 |_,.dct=>false
 |_,.scr _=>false
mutual
def eqD:Dt->Dt->Bool
 |.non,.non=>true
 |.bl a,.bl b=>a == b
 |.bl a,.int j=>(if a then 1 else 0) == j
 |.int i,.bl b=>i == (if b then 1 else 0)
 |.int i,.int j=>i == j
 |.str x,.str y=>x == y
 |.lst xs,.lst ys=>zlY xs ys
 |.tup xs,.tup ys=>zlY xs ys
 |_,_=>false
def zlY:List Dt->List Dt->Bool
 |[],[]=>true
 |x::xs,y::ys=>eqD x y && zlY xs ys
 |_,_=>false
end
theorem ziE{n:Nat}(ih:∀ d,okN n d=true->(zfa d).canLay0=true/\(zfa d).depth<=n):∀ l:List Dt,l.all (okN n)=true->PyData.canLayAll0 (ze2 l)=true/\PyData.depthAll (ze2 l)<=n
 |[],_=>by simp[ze2,PyData.canLayAll0,PyData.depthAll]
 |d::ds,h=>by
  simp only[List.all_cons,wae] at h
  obtain ⟨h1,h2⟩:=ih d h.1
  obtain ⟨h3,h4⟩:=ziE ih ds h.2
  simp only[ze2,PyData.canLayAll0,PyData.depthAll,h1,h3,Bool.and_self,true_and]
  omega
theorem zju:∀(n:Nat)(d:Dt),okN n d=true->(zfa d).canLay0=true/\(zfa d).depth<=n
 |n,.non,_=>by simp[zfa,PyData.canLay0,PyData.depth]
 |n,.bl _,_=>by simp[zfa,PyData.canLay0,PyData.depth]
 |n,.int _,_=>by simp[zfa,PyData.canLay0,PyData.depth]
 |n,.str x,h=>by
  have h:PySem.PyData.strOk x=true:=by cases n <;> simpa [okN] using h
  simp[zfa,PyData.canLay0,PyData.depth,h]
 |0,.tup _,h=>by simp[okN] at h
 |0,.lst _,h=>by simp[okN] at h
 |n+1,.tup l,h=>by
  obtain ⟨h1,h2⟩:=ziE (zju n) l (by simpa [okN] using h)
  simp only[zfa,PyData.canLay0,PyData.depth,h1,true_and];omega
 |n+1,.lst l,h=>by
  obtain ⟨h1,h2⟩:=ziE (zju n) l (by simpa [okN] using h)
  simp only[zfa,PyData.canLay0,PyData.depth,h1,true_and];omega
 |n,.dct,h=>by cases n <;> simp[okN] at h
 |n,.scr _,h=>by cases n <;> simp[okN] at h
mutual
theorem zmc:∀(n:Nat)(x y:Dt),okN n x=true->okN n y=true->PyData.eqv (zfa x) (zfa y)=eqD x y
 |n,.non,y,h,h'=>by cases y <;> first|(cases n <;> simp[okN] at h';done)|simp[zfa,PyData.eqv,eqD]
 |n,.bl _,y,h,h'=>by cases y <;> first|(cases n <;> simp[okN] at h';done)|simp[zfa,PyData.eqv,eqD]
 |n,.int _,y,h,h'=>by cases y <;> first|(cases n <;> simp[okN] at h';done)|simp[zfa,PyData.eqv,eqD]
 |n,.str _,y,h,h'=>by cases y <;> first|(cases n <;> simp[okN] at h';done)|simp[zfa,PyData.eqv,eqD]
 |0,.tup _,y,h,h'=>by simp[okN] at h
 |0,.lst _,y,h,h'=>by simp[okN] at h
 |n+1,.tup l,y,h,h'=>by
  cases y with
  |tup l'=>simp only[zfa,PyData.eqv,eqD];exact zkY n l l' (by simpa [okN] using h) (by simpa [okN] using h')
  |dct=>simp[okN] at h'
  |scr _=>simp[okN] at h'
  |_=>simp[zfa,PyData.eqv,eqD]
 |n+1,.lst l,y,h,h'=>by
  cases y with
  |lst l'=>simp only[zfa,PyData.eqv,eqD];exact zkY n l l' (by simpa [okN] using h) (by simpa [okN] using h')
  |dct=>simp[okN] at h'
  |scr _=>simp[okN] at h'
  |_=>simp[zfa,PyData.eqv,eqD]
 |n,.dct,y,h,h'=>by cases n <;> simp[okN] at h
 |n,.scr _,y,h,h'=>by cases n <;> simp[okN] at h
theorem zkY:∀(n:Nat)(x y:List Dt),x.all (okN n)=true->y.all (okN n)=true->PyData.eqvAll (ze2 x) (ze2 y)=zlY x y
 |n,[],[],_,_=>by simp[ze2,PyData.eqvAll,zlY]
 |n,[],_::_,_,_=>by simp[ze2,PyData.eqvAll,zlY]
 |n,_::_,[],_,_=>by simp[ze2,PyData.eqvAll,zlY]
 |n,a::as,b::bs,h,h'=>by
  simp only[List.all_cons,wae] at h h'
  simp only[ze2,PyData.eqvAll,zlY]
  rw[zmc n a b h.1 h'.1,zkY n as bs h.2 h'.2]
end
section
variable{X:Cx}{pS:List (Addr×Obj)}{Y:L2.St}{H:Hp}{s:Shared}
mutual
theorem zd7(I:L2.Inv X pS Y H s):∀(n:Nat)(d:Dt)(v:V)(u:Value),okN n d=true->Rep X.K H d v->zbo v u->∃ as,Reads s.heap u (zfa d) as
 |n,.non,v,u,_,h,r=>by rw[zh5 h] at r;cases r;exact ⟨[],by simp only[zfa];exact .none⟩
 |n,.bl b,v,u,_,h,r=>by rw[zd0 h] at r;cases r;exact ⟨[],by simp only[zfa];exact .bool _⟩
 |n,.int b,v,u,_,h,r=>by rw[zas h] at r;obtain ⟨t,rfl⟩:=r;exact ⟨[],by simp only[zfa];exact .int _ _⟩
 |n,.str b,v,u,_,h,r=>by rw[zgf h] at r;obtain ⟨t,rfl⟩:=r;exact ⟨[],by simp only[zfa];exact .str _ _⟩
 |0,.tup l,v,u,hk,h,r=>by simp[okN] at hk
 |0,.lst l,v,u,hk,h,r=>by simp[okN] at hk
 |n+1,.tup l,v,u,hk,h,r=>by
  obtain ⟨a,vs,rfl,h1,h2⟩:=zbK h
  cases r
  obtain ⟨its,rv,⟨o,e,c,k,dd⟩,_⟩:=I.tuple h1
  obtain ⟨as,q⟩:=zff I n l vs its (by simpa [okN] using hk) h2 rv
  exact ⟨as,by simp only[zfa];exact .tuple e c dd (by simpa using q)⟩
 |n+1,.lst l,v,u,hk,h,r=>by
  obtain ⟨a,vs,rfl,h1,h2⟩:=zba h
  cases r
  obtain ⟨its,rv,⟨o,k,e,c,_,dd⟩,_⟩:=I.list (SqL.of h1)
  obtain ⟨as,q⟩:=zff I n l vs its (by simpa [okN] using hk) h2 rv
  exact ⟨a::as,by simp only[zfa];exact .list e c dd (by simpa using q)⟩
 |n,.dct,v,u,hk,h,r=>by cases n <;> simp[okN] at hk
 |n,.scr _,v,u,hk,h,r=>by cases n <;> simp[okN] at hk
theorem zff(I:L2.Inv X pS Y H s):∀(n:Nat)(ds:List Dt)(vs:List V)(us:List Value),ds.all (okN n)=true->za1 X.K H ds vs->zbc vs us->∃ as,ReadsAll s.heap us (ze2 ds) as
 |n,[],vs,us,_,h,r=>by
  rw[h.nil_inv] at r
  cases r
  exact ⟨[],by simp only[ze2];exact .nil⟩
 |n,d::ds,vs,us,hk,h,r=>by
  obtain ⟨v,t,rfl,h1,h2⟩:=h.cons_inv
  cases r with
  |cons r1 r2 =>
   simp only[List.all_cons,wae] at hk
   obtain ⟨as,q1⟩:=zd7 I n d v _ hk.1 h1 r1
   obtain ⟨bs,q2⟩:=zff I n ds t _ hk.2 h2 r2
   exact ⟨as++bs,by simp only[ze2];exact .cons q1 q2⟩
end
mutual
theorem zoN(I:L2.Inv X pS Y H s):∀(n:Nat)(d d':Dt)(v:V),okN n d=true->okN n d'=true->Rep X.K H d v->Rep X.K H d' v->d=d'
 |n,.non,d',v,hk,hk',h,h'=>by
  rw[zh5 h] at h'
  cases d' <;> unfold Rep at h' <;> first|(obtain ⟨a,vs,z,_⟩:=h';cases z;done)|(obtain ⟨a,z,_⟩:=h';cases z;done)|(cases h';rfl)|(cases h';done)|rfl
 |n,.bl b,d',v,hk,hk',h,h'=>by
  rw[zd0 h] at h'
  cases d' <;> unfold Rep at h' <;> first|(obtain ⟨a,vs,z,_⟩:=h';cases z;done)|(obtain ⟨a,z,_⟩:=h';cases z;done)|(cases h';rfl)|(cases h';done)|rfl
 |n,.int b,d',v,hk,hk',h,h'=>by
  rw[zas h] at h'
  cases d' <;> unfold Rep at h' <;> first|(obtain ⟨a,vs,z,_⟩:=h';cases z;done)|(obtain ⟨a,z,_⟩:=h';cases z;done)|(cases h';rfl)|(cases h';done)|rfl
 |n,.str b,d',v,hk,hk',h,h'=>by
  rw[zgf h] at h'
  cases d' <;> unfold Rep at h' <;> first|(obtain ⟨a,vs,z,_⟩:=h';cases z;done)|(obtain ⟨a,z,_⟩:=h';cases z;done)|(cases h';rfl)|(cases h';done)|rfl
 |0,.tup l,d',v,hk,_,h,h'=>by simp[okN] at hk
 |0,.lst l,d',v,hk,_,h,h'=>by simp[okN] at hk
 |n+1,.tup l,d',v,hk,hk',h,h'=>by
  obtain ⟨a,vs,rfl,h1,h2⟩:=zbK h
  cases d' with
  |tup l' =>
   obtain ⟨a',vs',e,h3,h4⟩:=zbK h'
   cases e
   rw[I.tuple_inj h3 h1] at h4
   rw[ziO I n l l' vs (by simpa [okN] using hk) (by simpa [okN] using hk') h2 h4]
  |lst l' =>
   obtain ⟨a',vs',e,h3,h4⟩:=zba h'
   cases e
   obtain ⟨its,rv,⟨o,e,c,k,dd⟩,_⟩:=I.tuple h1
   obtain ⟨its',rv',⟨o',k',e',c',_,dd'⟩,_⟩:=I.list (SqL.of h3)
   rw[e] at e';cases e'
   rw[c] at c';exact absurd c' xwd
  |dct=>simp[okN] at hk'
  |scr _=>simp[okN] at hk'
  |non=>cases zh5 h'
  |bl _=>cases zd0 h'
  |int _=>cases zas h'
  |str _=>cases zgf h'
 |n+1,.lst l,d',v,hk,hk',h,h'=>by
  obtain ⟨a,vs,rfl,h1,h2⟩:=zba h
  cases d' with
  |lst l' =>
   obtain ⟨a',vs',e,h3,h4⟩:=zba h'
   cases e
   rw[h1] at h3;cases h3
   rw[ziO I n l l' vs (by simpa [okN] using hk) (by simpa [okN] using hk') h2 h4]
  |tup l' =>
   obtain ⟨a',vs',e,h3,h4⟩:=zbK h'
   cases e
   obtain ⟨its,rv,⟨o,e,c,k,dd⟩,_⟩:=I.tuple h3
   obtain ⟨its',rv',⟨o',k',e',c',_,dd'⟩,_⟩:=I.list (SqL.of h1)
   rw[e] at e';cases e'
   rw[c] at c';exact absurd c' xwd
  |dct=>simp[okN] at hk'
  |scr _=>simp[okN] at hk'
  |non=>cases zh5 h'
  |bl _=>cases zd0 h'
  |int _=>cases zas h'
  |str _=>cases zgf h'
 |n,.dct,d',v,hk,_,h,h'=>by cases n <;> simp[okN] at hk
 |n,.scr _,d',v,hk,_,h,h'=>by cases n <;> simp[okN] at hk
theorem ziO(I:L2.Inv X pS Y H s):∀(n:Nat)(ds ds':List Dt)(vs:List V),ds.all (okN n)=true->ds'.all (okN n)=true->za1 X.K H ds vs->za1 X.K H ds' vs->ds=ds'
 |n,[],ds',vs,_,_,h,h'=>by
  rw[h.nil_inv] at h'
  cases ds' with
  |nil=>rfl
  |cons d t=>obtain ⟨v,r,z,_⟩:=h'.cons_inv;cases z
 |n,d::ds,ds',vs,hk,hk',h,h'=>by
  obtain ⟨v,t,rfl,h1,h2⟩:=h.cons_inv
  cases ds' with
  |nil=>cases h'.nil_inv
  |cons d' t' =>
   obtain ⟨v',r',z,h3,h4⟩:=h'.cons_inv
   cases z
   simp only[List.all_cons,wae] at hk hk'
   rw[zoN I n d d' v hk.1 hk'.1 h1 h3,ziO I n ds t' t hk.2 hk'.2 h2 h4]
end
end
def zuV(K:W.Frag)(neg:Bool):R2:=fun x y H Q=>∃ dx dy,Rep K H dx x/\Rep K H dy y/\okN 60 dx=true/\okN 60 dy=true/\Q (.bl (if neg then !eqD dx dy else eqD dx dy)) H
theorem zf1{d:Dt}(h:okN 60 d=true):SeqAt.shaped (zfa d)=true:=by
 obtain ⟨h1,h2⟩:=zju 60 d h
 unfold SeqAt.shaped
 rw[h1,Bool.true_and]
 exact wat xwo
section
variable{X:Cx}
theorem zr0(hu:X.A.units+64<cLine):OpR X (compareOp .Eq) (zuV X.K false):=by
 intro pS s Y H x y v u Q I rx ry h
 obtain ⟨dx,dy,h1,h2,h3,h4,q⟩:=h
 obtain ⟨as,ra⟩:=zd7 I 60 dx x v h3 h1 rx
 obtain ⟨bs,rb⟩:=zd7 I 60 dy y u h4 h2 ry
 exact PyProof.Rows.eq_dataH ra rb (zf1 h3) (zf1 h4) hu ⟨.bl (eqD dx dy),H,I,(by rw[zmc 60 dx dy h3 h4];rfl),q⟩
theorem zr6(hu:X.A.units+64<cLine):OpR X (compareOp .NotEq) (zuV X.K true):=by
 intro pS s Y H x y v u Q I rx ry h
 obtain ⟨dx,dy,h1,h2,h3,h4,q⟩:=h
 obtain ⟨as,ra⟩:=zd7 I 60 dx x v h3 h1 rx
 obtain ⟨bs,rb⟩:=zd7 I 60 dy y u h4 h2 ry
 exact PyProof.Rows.ne_dataH ra rb (zf1 h3) (zf1 h4) hu ⟨.bl (!eqD dx dy),H,I,(by rw[zmc 60 dx dy h3 h4];rfl),q⟩
def gEq(neg:Bool):Dt->Dt->R Dt:=fun x y=>if (okN 60 x && okN 60 y)=true then .ok (.bl (if neg then !eqD x y else eqD x y)) else .no
theorem zkZ(neg:Bool):zhC (gEq neg):=fun x y n h=>by unfold gEq at h;split at h <;> cases h
theorem zoD{K:W.Frag}(neg:Bool):Op2 K (zuV K neg) (gEq neg):=fun G H x y dx dy z Q gh hx hy e k=>by
 unfold gEq at e
 split at e
 ·rename_i h
  rw[Bool.and_eq_true] at h
  cases e
  exact ⟨dx,dy,hx.same gh,hy.same gh,h.1,h.2,k _ G H (.refl gh) (by unfold Rep;rfl)⟩
 ·cases e
theorem zpr{pS:List (Addr×Obj)}{Y:L2.St}{H:Hp}{s:Shared}(I:L2.Inv X pS Y H s){A:Around}(hu:A.units+64<cLine){dx dy:Dt}{x y:V}{v u:Value}(h3:okN 60 dx=true)(h4:okN 60 dy=true)(h1:Rep X.K H dx x)(h2:Rep X.K H dy y)(rx:zbo x v)(ry:zbo y u) :
  SeqAt.EqAt A s v u (eqD dx dy):=by
 obtain ⟨as,ra⟩:=zd7 I 60 dx x v h3 h1 rx
 obtain ⟨bs,rb⟩:=zd7 I 60 dy y u h4 h2 ry
 obtain ⟨k1,k2⟩:=zju 60 dx h3
 obtain ⟨k3,k4⟩:=zju 60 dy h4
 have:=SeqAt.eqAt_reads (zfa dx) (zfa dy) A s v u as bs ra rb k1 k3 xwo
 rw[zmc 60 dx dy h3 h4] at this
 exact this
open Classical in
noncomputable def zkq(K:W.Frag)(H:Hp)(dx:Dt)(u:Value):Bool:=if ∃ d v,okN 60 d=true/\Rep K H d v/\zbo v u/\eqD d dx=true then true else false
theorem zol{pS:List (Addr×Obj)}{Y:L2.St}{H:Hp}{s:Shared}(I:L2.Inv X pS Y H s){d dx:Dt}{v:V}{u:Value}(hk:okN 60 d=true)(h:Rep X.K H d v)(r:zbo v u):zkq X.K H dx u=eqD d dx:=by
 unfold zkq
 split
 ·rename_i q
  obtain ⟨d',v',k',h',r',e'⟩:=q
  have ev:v'=v:=r'.inj r
  subst ev
  rw[zoN I 60 d d' v' hk k' h h'];exact e'.symm
 ·rename_i q
  cases e:eqD d dx with
  |false=>rfl
  |true=>exact absurd ⟨d,v,hk,h,r,e⟩ q
theorem zfC{pS:List (Addr×Obj)}{Y:L2.St}{H:Hp}{s:Shared}(I:L2.Inv X pS Y H s){dx:Dt}:∀{ds:List Dt}{vs:List V}{us:List Value},ds.all (okN 60)=true->za1 X.K H ds vs->zbc vs us->us.any (zkq X.K H dx)=ds.any fun d=>eqD d dx
 |[],vs,us,_,h,r=>by rw[h.nil_inv] at r;cases r;rfl
 |d::ds,vs,us,hk,h,r=>by
  obtain ⟨v,t,rfl,h1,h2⟩:=h.cons_inv
  cases r with
  |cons r1 r2 =>
   simp only[List.all_cons,wae] at hk
   simp only[List.any_cons]
   rw[zol I hk.1 h1 r1,zfC I hk.2 h2 r2]
theorem zdX{pS:List (Addr×Obj)}{Y:L2.St}{H:Hp}{s:Shared}(I:L2.Inv X pS Y H s){A:Around}(hu:A.units+64<cLine){dx:Dt}{x:V}{v:Value}(hk:okN 60 dx=true)(hx:Rep X.K H dx x)(rx:zbo x v):∀{ds:List Dt}{vs:List V}{us:List Value},ds.all (okN 60)=true->za1 X.K H ds vs->zbc vs us->∀ u∈us,SeqAt.EqAt A s u v (zkq X.K H dx u)
 |[],vs,us,_,h,r,u,hu=>by rw[h.nil_inv] at r;cases r;cases hu
 |d::ds,vs,us,hks,h,r,u,hm=>by
  obtain ⟨v,t,rfl,h1,h2⟩:=h.cons_inv
  cases r with
  |cons r1 r2 =>
   simp only[List.all_cons,wae] at hks
   rcases wap.mp hm with rfl|hm
   ·rw[zol I hks.1 h1 r1]
    exact zpr I hu hks.1 hk h1 hx r1 rx
   ·exact zdX I hu hk hx rx hks.2 h2 r2 u hm
def inD(x:Dt)(l:List Dt):Bool:=l.any fun d=>eqD d x
def zvb(K:W.Frag)(neg:Bool):R2:=fun x y H Q=>∃ dx ds,Rep K H dx x/\(Rep K H (.lst ds) y\/Rep K H (.tup ds) y)/\okN 60 dx=true/\ds.all (okN 60)=true/\Q (.bl (if neg then !inD dx ds else inD dx ds)) H
theorem zeb(A:Around):A.in1.units=A.units+1:=rfl
theorem zrD(hu:X.A.units+65<cLine):OpR X (compareOp .In) (zvb X.K false):=by
 intro pS s Y H x y v u Q I rx ry h
 obtain ⟨dx,ds,h1,h2,h3,h4,q⟩:=h
 have hu1:X.A.in1.units+64<cLine:=by rw[zeb];omega
 rcases h2 with h2|h2
 ·obtain ⟨a,vs,rfl,k1,k2⟩:=zba h2
  cases ry
  obtain ⟨its,r,pl,hz⟩:=I.list (SqL.of k1)
  refine SeqAt.in_listAt (zkq X.K H dx) pl.isList (fun w hw=>zdX I hu1 h3 h1 rx h4 k2 r w (by simpa using hw)) ⟨.bl _,H,I,rfl,?_⟩
  rw[show its.toArray.any (zkq X.K H dx)=its.any (zkq X.K H dx) by simp,zfC I h4 k2 r]
  exact q
 ·obtain ⟨a,vs,rfl,k1,k2⟩:=zbK h2
  cases ry
  obtain ⟨its,r,pl,hz⟩:=I.tuple k1
  refine SeqAt.in_tupleAt (zkq X.K H dx) pl (fun w hw=>zdX I hu1 h3 h1 rx h4 k2 r w (by simpa using hw)) ⟨.bl _,H,I,rfl,?_⟩
  rw[show its.toArray.any (zkq X.K H dx)=its.any (zkq X.K H dx) by simp,zfC I h4 k2 r]
  exact q
theorem zkh(hu:X.A.units+65<cLine):OpR X (compareOp .NotIn) (zvb X.K true):=by
 intro pS s Y H x y v u Q I rx ry h
 obtain ⟨dx,ds,h1,h2,h3,h4,q⟩:=h
 have hu1:X.A.in1.units+64<cLine:=by rw[zeb];omega
 rcases h2 with h2|h2
 ·obtain ⟨a,vs,rfl,k1,k2⟩:=zba h2
  cases ry
  obtain ⟨its,r,pl,hz⟩:=I.list (SqL.of k1)
  refine SeqAt.notIn_listAt (zkq X.K H dx) pl.isList (fun w hw=>zdX I hu1 h3 h1 rx h4 k2 r w (by simpa using hw)) ⟨.bl _,H,I,rfl,?_⟩
  rw[show its.toArray.any (zkq X.K H dx)=its.any (zkq X.K H dx) by simp,zfC I h4 k2 r]
  exact q
 ·obtain ⟨a,vs,rfl,k1,k2⟩:=zbK h2
  cases ry
  obtain ⟨its,r,pl,hz⟩:=I.tuple k1
  refine SeqAt.notIn_tupleAt (zkq X.K H dx) pl (fun w hw=>zdX I hu1 h3 h1 rx h4 k2 r w (by simpa using hw)) ⟨.bl _,H,I,rfl,?_⟩
  rw[show its.toArray.any (zkq X.K H dx)=its.any (zkq X.K H dx) by simp,zfC I h4 k2 r]
  exact q
def gIn(neg:Bool):Dt->Dt->R Dt:=fun x y=>match y with
 |.lst ds=>if (okN 60 x && ds.all (okN 60))=true then .ok (.bl (if neg then !inD x ds else inD x ds)) else .no
 |.tup ds=>if (okN 60 x && ds.all (okN 60))=true then .ok (.bl (if neg then !inD x ds else inD x ds)) else .no
 |_=>.no
theorem ziV(neg:Bool):zhC (gIn neg):=fun x y n h=>by
 unfold gIn at h
 split at h
 ·split at h <;> cases h
 ·split at h <;> cases h
 ·cases h
theorem zlP{K:W.Frag}(neg:Bool):Op2 K (zvb K neg) (gIn neg):=fun G H x y dx dy z Q gh hx hy e k=>by
 unfold gIn at e
 split at e
 ·split at e
  ·rename_i h
   rw[Bool.and_eq_true] at h
   cases e
   exact ⟨dx,_,hx.same gh,.inl (hy.same gh),h.1,h.2,k _ G H (.refl gh) (by unfold Rep;rfl)⟩
  ·cases e
 ·split at e
  ·rename_i h
   rw[Bool.and_eq_true] at h
   cases e
   exact ⟨dx,_,hx.same gh,.inr (hy.same gh),h.1,h.2,k _ G H (.refl gh) (by unfold Rep;rfl)⟩
  ·cases e
 ·cases e
end
def zcX(i:Int):Bool:=decide (-18446744073709551616<i) && decide (i<18446744073709551616)
theorem zil{i:Int}(h:zcX i=true):-(2 ^ 64)<i/\i<2 ^ 64:=by
 unfold zcX at h
 rw[Bool.and_eq_true] at h
 have h1:=of_decide_eq_true h.1
 have h2:=of_decide_eq_true h.2
 omega
def zbe:Dt->Dt->R Dt
 |.int i,.int j=>.ok (.int (i+j))
 |_,_=>.no
def zhI:Dt->Dt->R Dt
 |.int i,.int j=>.ok (.int (i-j))
 |_,_=>.no
def znP:Dt->Dt->R Dt
 |.int i,.int j=>if (zcX i || zcX j)=true then .ok (.int (i * j)) else .no
 |_,_=>.no
def zqd:Dt->Dt->R Dt
 |.int i,.int j=>if 0<j/\j<1073741824 then .ok (.int (i / j)) else .no
 |_,_=>.no
def zkf:Dt->Dt->R Dt
 |.int i,.int j=>if 0<j then .ok (.int (i % j)) else .no
 |_,_=>.no
def zqm:Dt->Dt->R Dt
 |.int i,.int j=>if 0<=j/\j<=1000/\i.natAbs<18446744073709551616 then .ok (.int (i ^ j.toNat)) else .no
 |_,_=>.no
def zl1(f:Int->Int->Bool):Dt->Dt->R Dt
 |.int i,.int j=>.ok (.bl (f i j))
 |_,_=>.no
section
variable{K:W.Frag}
theorem za5{G:Hp}(i:Int):Rep K G (.int i) (.int i):=by unfold Rep;rfl
theorem zd6{G:Hp}(b:Bool):Rep K G (.bl b) (.bl b):=by unfold Rep;rfl
theorem zpT:Op2 K (rI0 fun i j=>.int (i+j)) zbe:=fun G H x y dx dy z Q gh hx hy e k=>by
 unfold zbe at e
 split at e
 ·cases e;exact ⟨_,_,zas hx,zas hy,k _ G H (.refl gh) (za5 _)⟩
 ·cases e
theorem zso:Op2 K (rI0 fun i j=>.int (i-j)) zhI:=fun G H x y dx dy z Q gh hx hy e k=>by
 unfold zhI at e
 split at e
 ·cases e;exact ⟨_,_,zas hx,zas hy,k _ G H (.refl gh) (za5 _)⟩
 ·cases e
theorem zrL:Op2 K (rI zuR fun i j=>.int (i * j)) znP:=fun G H x y dx dy z Q gh hx hy e k=>by
 unfold znP at e
 split at e
 ·split at e
  ·rename_i h
   cases e
   rw[Bool.or_eq_true] at h
   exact ⟨_,_,zas hx,zas hy,h.elim (fun z=>.inl (zil z)) (fun z=>.inr (zil z)),k _ G H (.refl gh) (za5 _)⟩
  ·cases e
 ·cases e
theorem zsa:Op2 K (rI CDiv fun i j=>.int (i / j)) zqd:=fun G H x y dx dy z Q gh hx hy e k=>by
 unfold zqd at e
 split at e
 ·split at e
  ·rename_i h
   cases e
   exact ⟨_,_,zas hx,zas hy,h,k _ G H (.refl gh) (za5 _)⟩
  ·cases e
 ·cases e
theorem ztb:Op2 K (rI (fun _ j=>0<j) fun i j=>.int (i % j)) zkf:=fun G H x y dx dy z Q gh hx hy e k=>by
 unfold zkf at e
 split at e
 ·split at e
  ·rename_i h
   cases e
   exact ⟨_,_,zas hx,zas hy,h,k _ G H (.refl gh) (za5 _)⟩
  ·cases e
 ·cases e
theorem zs7:Op2 K (rI CPow fun i j=>.int (i ^ j.toNat)) zqm:=fun G H x y dx dy z Q gh hx hy e k=>by
 unfold zqm at e
 split at e
 ·split at e
  ·rename_i h
   cases e
   exact ⟨_,_,zas hx,zas hy,⟨h.1,xwo,by have:=h.2.2;omega⟩,k _ G H (.refl gh) (za5 _)⟩
  ·cases e
 ·cases e
theorem zcu{f:Int->Int->Bool}:Op2 K (rI0 fun i j=>.bl (f i j)) (zl1 f):=fun G H x y dx dy z Q gh hx hy e k=>by
 unfold zl1 at e
 split at e
 ·cases e;exact ⟨_,_,zas hx,zas hy,k _ G H (.refl gh) (zd6 _)⟩
 ·cases e
theorem znZ:zhC zbe:=fun x y n h=>by unfold zbe at h;split at h <;> cases h
theorem zq8:zhC zhI:=fun x y n h=>by unfold zhI at h;split at h <;> cases h
theorem zpI:zhC znP:=fun x y n h=>by unfold znP at h;split at h <;> first|cases h|(split at h <;> cases h)
theorem zqA:zhC zqd:=fun x y n h=>by unfold zqd at h;split at h <;> first|cases h|(split at h <;> cases h)
theorem zqg:zhC zkf:=fun x y n h=>by unfold zkf at h;split at h <;> first|cases h|(split at h <;> cases h)
theorem zqI:zhC zqm:=fun x y n h=>by unfold zqm at h;split at h <;> first|cases h|(split at h <;> cases h)
theorem zbQ{f:Int->Int->Bool}:zhC (zl1 f):=fun x y n h=>by unfold zl1 at h;split at h <;> cases h
end
section
variable{X:Cx}{C:Cn}{a b:Expr}{fa fb:De}{pos:Pos}
theorem zbS(ha:JE X C a fa)(hb:JE X C b fb):JE X C (.BinOp a .Add b pos) (dOp zbe fa fb):=zks zuf zpT znZ ha hb
theorem zl4(ha:JE X C a fa)(hb:JE X C b fb):JE X C (.BinOp a .Sub b pos) (dOp zhI fa fb):=zks zuL zso zq8 ha hb
theorem zjL(ha:JE X C a fa)(hb:JE X C b fb):JE X C (.BinOp a .Mult b pos) (dOp znP fa fb):=zks zus zrL zpI ha hb
theorem zrn(ha:JE X C a fa)(hb:JE X C b fb):JE X C (.BinOp a .FloorDiv b pos) (dOp zqd fa fb):=zks zsu zsa zqA ha hb
theorem zgz(ha:JE X C a fa)(hb:JE X C b fb):JE X C (.BinOp a .Mod b pos) (dOp zkf fa fb):=zks zty ztb zqg ha hb
theorem zr3(ha:JE X C a fa)(hb:JE X C b fb):JE X C (.BinOp a .Pow b pos) (dOp zqm fa fb):=zks ztY zs7 zqI ha hb
abbrev gLt:=zl1 fun i j=>decide (i<j)
abbrev gLe:=zl1 fun i j=>decide (i<=j)
abbrev gGt:=zl1 fun i j=>decide (j<i)
abbrev gGe:=zl1 fun i j=>decide (j<=i)
theorem zv8(ha:JE X C a fa)(hb:JE X C b fb):JE X C (.Compare a [.Lt] [b] pos) (dOp gLt fa fb):=zjr zkG zcu zbQ ha hb (zeB _)
theorem zvF(ha:JE X C a fa)(hb:JE X C b fb):JE X C (.Compare a [.Gt] [b] pos) (dOp gGt fa fb):=zjr zu9 zcu zbQ ha hb (zeB _)
theorem zvf(hu:X.A.units+64<cLine)(ha:JE X C a fa)(hb:JE X C b fb):JE X C (.Compare a [.Eq] [b] pos) (dOp (gEq false) fa fb):=zjr (zr0 hu) (zoD false) (zkZ false) ha hb (zeB _)
theorem zt8(hu:X.A.units+65<cLine)(ha:JE X C a fa)(hb:JE X C b fb)(hm:behindInMarks .In b=false:=by rfl):JE X C (.Compare a [.In] [b] pos) (dOp (gIn false) fa fb):=zjr (zrD hu) (zlP false) (ziV false) ha hb hm
theorem zqB(hu:X.A.units+65<cLine)(ha:JE X C a fa)(hb:JE X C b fb)(hm:behindInMarks .NotIn b=false:=by rfl):JE X C (.Compare a [.NotIn] [b] pos) (dOp (gIn true) fa fb):=zjr (zkh hu) (zlP true) (ziV true) ha hb hm
theorem znK(ha:JE X C a fa)(hb:JE X C b fb):JT X C (.Compare a [.Lt] [b] pos) (dTB (dOp gLt fa fb)):=zg5 zkG zcu zbQ ha hb (zeB _)
theorem zqG(ha:JE X C a fa)(hb:JE X C b fb):JT X C (.Compare a [.Gt] [b] pos) (dTB (dOp gGt fa fb)):=zg5 zu9 zcu zbQ ha hb (zeB _)
theorem zvl(ha:JE X C a fa)(hb:JE X C b fb):JT X C (.Compare a [.GtE] [b] pos) (dTB (dOp gGe fa fb)):=zg5 zvz zcu zbQ ha hb (zeB _)
theorem zmr(hu:X.A.units+64<cLine)(ha:JE X C a fa)(hb:JE X C b fb):JT X C (.Compare a [.Eq] [b] pos) (dTB (dOp (gEq false) fa fb)):=zg5 (zr0 hu) (zoD false) (zkZ false) ha hb (zeB _)
theorem zgo(hu:X.A.units+64<cLine)(ha:JE X C a fa)(hb:JE X C b fb):JT X C (.Compare a [.NotEq] [b] pos) (dTB (dOp (gEq true) fa fb)):=zg5 (zr6 hu) (zoD true) (zkZ true) ha hb (zeB _)
theorem zsU(hu:X.A.units+65<cLine)(ha:JE X C a fa)(hb:JE X C b fb)(hm:behindInMarks .In b=false:=by rfl):JT X C (.Compare a [.In] [b] pos) (dTB (dOp (gIn false) fa fb)):=zg5 (zrD hu) (zlP false) (ziV false) ha hb hm
theorem zi9(hu:X.A.units+65<cLine)(ha:JE X C a fa)(hb:JE X C b fb)(hm:behindInMarks .NotIn b=false:=by rfl):JT X C (.Compare a [.NotIn] [b] pos) (dTB (dOp (gIn true) fa fb)):=zg5 (zkh hu) (zlP true) (ziV true) ha hb hm
def zjn(fa:De):De:=fun Z=>(fa Z).bind fun a=>match a.1 with
 |.int i=>.ok (.int (-i),a.2)
 |_=>.no
theorem zik(ha:JE X C a fa):JE X C (.UnaryOp .USub a pos) (zjn fa):=PE.weak (ztS zrB ha) fun Y H Q ⟨G,w,Z,r,p⟩=>by
 refine zdb (κ:=fun G H w=>kE X.K C Y Q G H w) zcc r p fun d Z1 v G1 H1 w1 r1 s1 q1 p1=>?_
 cases d with
 |int i=>exact ⟨i,zas q1,p1 _ G1 H1 w1 (.refl _ _ _) r1 (za5 _)⟩
 |_=>exact p1.elim
def zgC(g g':Dt->Dt->R Dt)(fa fb fc:De):De:=fun Z=>(fa Z).bind fun a=>(fb a.2).bind fun b=>(g a.1 b.1).bind fun z=>match z with
 |.bl true=>(fc b.2).bind fun c=>(g' b.1 c.1).bind fun z'=>.ok (z',c.2)
 |.bl false=>.ok (.bl false,b.2)
 |_=>.no
end
def FnR(K:W.Frag)(r:List V->Hp->VK->Prop)(g:List Dt->R Dt):Prop:=∀(G H:Hp)(vs:List V)(ds:List Dt)(z:Dt)(Q:VK),zcq G H->za1 K G ds vs->g ds=.ok z ->
 (∀ v G' H',zdU G H G' H'->Rep K G' z v->Q v H')->r vs H Q
def FnN(K:W.Frag)(r:List V->Hp->VK->Prop)(g:List Dt->R (List Dt)):Prop:=∀(G H:Hp)(vs:List V)(ds:List Dt)(z:List Dt)(Q:VK),zcq G H->za1 K G ds vs->g ds=.ok z ->
 (∀ p zs,H p=none->za1 K G z zs->Q (.ref p) (upd H p (.lst zs)))->r vs H Q
def zmf{α:Type}(g:List Dt->R α):Prop:=∀ x n,g x≠.er n
def dFn(g:List Dt->R Dt)(fa:DA):De:=fun Z=>(fa Z).bind fun a=>(g a.1).bind fun z=>.ok (z,a.2)
def zgS(g:List Dt->R (List Dt))(fa:DA):DN:=fun Z=>(fa Z).bind fun a=>(g a.1).bind fun z=>.ok (z,a.2)
section
variable{X:Cx}{C:Cn}{e:Expr}{es:List Expr}{fa:DA}{p pos:Pos}{x:Str}{id T:String}{r:List V->Hp->VK->Prop}
theorem zo0{g:List Dt->R Dt}{Y:L2.St}{H:Hp}{Q:VK}(h:FnR X.K r g)(he:zmf g)(t:tE X.K C (dFn g fa) Y H Q):tCB r (tAd X.K C fa) Y H Q:=by
 obtain ⟨G,w,Z,rr,p⟩:=t
 refine zu7 (κ:=fun G H w=>kE X.K C Y Q G H w) zcc rr p fun ds Z1 vs G1 H1 w1 r1 s1 q1 p1=>?_
 cases e:g ds with
 |ok z =>
  simp only[e,R.bind_ok] at p1
  exact h G1 H1 vs ds z Q r1.gh q1 e fun v G' H' gr q=>p1 v G' H' w1 gr.step (r1.grow gr) q
 |er n=>exact absurd e (he _ _)
 |no=>simp only[e,R.bind_no] at p1;exact p1.elim
theorem zlK{g:List Dt->R (List Dt)}{Y:L2.St}{H:Hp}{Q:VK}(h:FnN X.K r g)(he:zmf g)(t:tN X.K C (zgS g fa) Y H Q):tCB r (tAd X.K C fa) Y H Q:=by
 obtain ⟨G,w,Z,rr,p⟩:=t
 refine zu7 (κ:=fun G H w=>kN X.K C Y Q G H w) zhc rr p fun ds Z1 vs G1 H1 w1 r1 s1 q1 p1=>?_
 cases e:g ds with
 |ok z =>
  simp only[e,R.bind_ok] at p1
  refine h G1 H1 vs ds z Q r1.gh q1 e fun a zs ha q=>?_
  have gr:zdU G1 H1 G1 (upd H1 a (.lst zs)):=.newH r1.gh ha
  exact p1 a zs G1 _ w1 gr.step (r1.grow gr) ha zan (r1.gh.free ha) (by
   cases z:w1 a with
   |none=>rfl
   |some k=>exact absurd ha (r1.wh a (by rw[z];simp))) q
 |er n=>exact absurd e (he _ _)
 |no=>simp only[e,R.bind_no] at p1;exact p1.elim
theorem zf4{g:List Dt->R Dt}(h:FnR X.K r g)(he:zmf g)(hc:zda X (.builtin id) r)(hg:Gl X x)(hm:X.mg x=none)(hv:bootBuiltins x=some (.builtin id))(ha:JA X C (e::es) fa)(hn:x≠"__name__":=by decide)(hdb:(x == ("__debug__" : Str))=false:=by decide)
  (hs:starEach (e::es) X.env=(false,eval e X.env)::starEach es X.env:=by rfl) (hpl:(backTo pos (starEach es X.env)).any (·.1)=false:=by rfl):JE X C (.Call (.Name x p) (e::es) [] pos) (dFn g fa) :=
 PE.weak (zez hc hg hm hv ha hn hdb hs hpl) fun Y H Q t=>zo0 h he t
theorem znM{g:List Dt->R Dt}(h:FnR X.K r g)(he:zmf g)(hc:zda X (.type T) r)(hg:Gl X x)(hm:X.mg x=none)(hv:bootBuiltins x=some (.type T))(ha:JA X C (e::es) fa)(hn:x≠"__name__":=by decide)(hdb:(x == ("__debug__" : Str))=false:=by decide)
  (hs:starEach (e::es) X.env=(false,eval e X.env)::starEach es X.env:=by rfl) (hpl:(backTo pos (starEach es X.env)).any (·.1)=false:=by rfl):JE X C (.Call (.Name x p) (e::es) [] pos) (dFn g fa) :=
 PE.weak (zh6 hc hg hm hv ha hn hdb hs hpl) fun Y H Q t=>zo0 h he t
theorem zpR{g:List Dt->R (List Dt)}(h:FnN X.K r g)(he:zmf g)(hc:zda X (.builtin id) r)(hg:Gl X x)(hm:X.mg x=none)(hv:bootBuiltins x=some (.builtin id))(ha:JA X C (e::es) fa)(hn:x≠"__name__":=by decide)(hdb:(x == ("__debug__" : Str))=false:=by decide)
  (hs:starEach (e::es) X.env=(false,eval e X.env)::starEach es X.env:=by rfl) (hpl:(backTo pos (starEach es X.env)).any (·.1)=false:=by rfl):JN X C (.Call (.Name x p) (e::es) [] pos) (zgS g fa) :=
 PE.weak (zez hc hg hm hv ha hn hdb hs hpl) fun Y H Q t=>zlK h he t
theorem znF{g:List Dt->R (List Dt)}(h:FnN X.K r g)(he:zmf g)(hc:zda X (.type T) r)(hg:Gl X x)(hm:X.mg x=none)(hv:bootBuiltins x=some (.type T))(ha:JA X C (e::es) fa)(hn:x≠"__name__":=by decide)(hdb:(x == ("__debug__" : Str))=false:=by decide)
  (hs:starEach (e::es) X.env=(false,eval e X.env)::starEach es X.env:=by rfl) (hpl:(backTo pos (starEach es X.env)).any (·.1)=false:=by rfl):JN X C (.Call (.Name x p) (e::es) [] pos) (zgS g fa) :=
 PE.weak (zh6 hc hg hm hv ha hn hdb hs hpl) fun Y H Q t=>zlK h he t
end
def zbz:List Dt->R Dt
 |[.lst l]=>.ok (.int l.length)
 |[.tup l]=>.ok (.int l.length)
 |[.scr l]=>.ok (.int l.length)
 |[.str x]=>if x.length<=16777216 then .ok (.int x.length) else .no
 |_=>.no
def rLen(K:W.Frag):List V->Hp->VK->Prop:=fun xs H Q=>(∃ p ys,xs=[.ref p]/\(SqL K H p ys\/SqT K H p ys)/\Q (.int ys.length) H)\/∃ z,xs=[.str z]/\z.length<=sizeLine/\Q (.int z.length) H
theorem zf0{K:W.Frag}{G:Hp}{d:Dt}{vs:List V}(h:za1 K G [d] vs):∃ v,vs=[v]/\Rep K G d v:=by
 obtain ⟨v,r,rfl,h1,h2⟩:=h.cons_inv
 rw[h2.nil_inv];exact ⟨v,rfl,h1⟩
theorem zs5{K:W.Frag}{G:Hp}{d e:Dt}{vs:List V}(h:za1 K G [d,e] vs):∃ v u,vs=[v,u]/\Rep K G d v/\Rep K G e u:=by
 obtain ⟨v,r,rfl,h1,h2⟩:=h.cons_inv
 obtain ⟨u,rfl,h3⟩:=zf0 h2
 exact ⟨v,u,rfl,h1,h3⟩
theorem zk5{K:W.Frag}{G:Hp}{l:List Int}{v:V}(h:Rep K G (.scr l) v):∃ a,v=.ref a/\SqL K G a (l.map V.int):=by unfold Rep at h;exact h
section
variable{K:W.Frag}
theorem ztp:FnR K (rLen K) zbz:=fun G H vs ds z Q gh hr e k=>by
 unfold zbz at e
 split at e
 ·obtain ⟨v,rfl,h1⟩:=zf0 hr
  obtain ⟨a,us,rfl,h2,h3⟩:=zba h1
  cases e
  exact .inl ⟨a,us,rfl,.inl (SqL.of (gh _ _ h2)),by rw[<- h3.length];exact k _ G H (.refl gh) (za5 _)⟩
 ·obtain ⟨v,rfl,h1⟩:=zf0 hr
  obtain ⟨a,us,rfl,h2,h3⟩:=zbK h1
  cases e
  exact .inl ⟨a,us,rfl,.inr (zaD gh h2),by rw[<- h3.length];exact k _ G H (.refl gh) (za5 _)⟩
 ·obtain ⟨v,rfl,h1⟩:=zf0 hr
  obtain ⟨a,rfl,h2⟩:=zk5 h1
  cases e
  exact .inl ⟨a,_,rfl,.inl (gh.seq h2),by rw[List.length_map];exact k _ G H (.refl gh) (za5 _)⟩
 ·split at e
  ·rename_i hx
   obtain ⟨v,rfl,h1⟩:=zf0 hr
   cases e
   exact .inr ⟨_,by rw[zgf h1],by rw[show sizeLine=16777216 from by decide];exact hx,k _ G H (.refl gh) (za5 _)⟩
  ·cases e
 ·cases e
theorem zuv:zmf zbz:=fun x n h=>by unfold zbz at h;split at h <;> first|cases h|(split at h <;> cases h)
def zfd:List Dt->R (List Dt)
 |[.lst l]=>.ok l
 |[.tup l]=>.ok l
 |_=>.no
theorem zrY:FnN K (fun xs H Q=>∃ p ys,xs=[.ref p]/\(SqL K H p ys\/SqT K H p ys)/\∀ l,H l=none->Q (.ref l) (upd H l (.lst ys))) zfd:=fun G H vs ds z Q gh hr e k=>by
 unfold zfd at e
 split at e
 ·obtain ⟨v,rfl,h1⟩:=zf0 hr
  obtain ⟨a,us,rfl,h2,h3⟩:=zba h1
  cases e
  exact ⟨a,us,rfl,.inl (SqL.of (gh _ _ h2)),fun l hl=>k l us hl h3⟩
 ·obtain ⟨v,rfl,h1⟩:=zf0 hr
  obtain ⟨a,us,rfl,h2,h3⟩:=zbK h1
  cases e
  exact ⟨a,us,rfl,.inr (zaD gh h2),fun l hl=>k l us hl h3⟩
 ·cases e
theorem zrP:zmf zfd:=fun x n h=>by unfold zfd at h;split at h <;> cases h
def zdu:List Dt->R Dt
 |[.lst l]=>.ok (.tup l)
 |[.tup l]=>.ok (.tup l)
 |_=>.no
theorem zqe:FnR K (fun xs H Q=>∃ p ys,xs=[.ref p]/\((SqL K H p ys/\∀ l,H l=none->Q (.ref l) (upd H l (.tup ys)))\/(SqT K H p ys/\Q (.ref p) H))) zdu:=fun G H vs ds z Q gh hr e k=>by
 unfold zdu at e
 split at e
 ·obtain ⟨v,rfl,h1⟩:=zf0 hr
  obtain ⟨a,us,rfl,h2,h3⟩:=zba h1
  cases e
  refine ⟨a,us,rfl,.inl ⟨SqL.of (gh _ _ h2),fun l hl=>?_⟩⟩
  have gr:zdU G H (upd G l (.tup us)) (upd H l (.tup us)):=.new gh hl
  exact k _ _ _ gr (by unfold Rep;exact ⟨l,us,rfl,zhM.of zan,h3.same gr.g⟩)
 ·obtain ⟨v,rfl,h1⟩:=zf0 hr
  obtain ⟨a,us,rfl,h2,h3⟩:=zdH h1
  cases e
  exact ⟨a,us,rfl,.inr ⟨zaD gh h2.sq,k _ G H (.refl gh) (by unfold Rep;exact ⟨a,us,rfl,h2,h3⟩)⟩⟩
 ·cases e
theorem zqH:zmf zdu:=fun x n h=>by unfold zdu at h;split at h <;> cases h
def ziz:List Dt->R Dt
 |[.int i,.int j]=>.ok (.int (if j > i then j else i))
 |_=>.no
def zjd:List Dt->R Dt
 |[.int i,.int j]=>.ok (.int (if j<i then j else i))
 |_=>.no
theorem zth:FnR K (fun xs H Q=>∃ i j,xs=[.int i,.int j]/\Q (.int (if j > i then j else i)) H) ziz:=fun G H vs ds z Q gh hr e k=>by
 unfold ziz at e
 split at e
 ·obtain ⟨v,u,rfl,h1,h2⟩:=zs5 hr
  cases e
  exact ⟨_,_,by rw[zas h1,zas h2],k _ G H (.refl gh) (za5 _)⟩
 ·cases e
theorem zte:FnR K (fun xs H Q=>∃ i j,xs=[.int i,.int j]/\Q (.int (if j<i then j else i)) H) zjd:=fun G H vs ds z Q gh hr e k=>by
 unfold zjd at e
 split at e
 ·obtain ⟨v,u,rfl,h1,h2⟩:=zs5 hr
  cases e
  exact ⟨_,_,by rw[zas h1,zas h2],k _ G H (.refl gh) (za5 _)⟩
 ·cases e
theorem zsX:zmf ziz:=fun x n h=>by unfold ziz at h;split at h <;> cases h
theorem zsC:zmf zjd:=fun x n h=>by unfold zjd at h;split at h <;> cases h
end
section
variable{X:Cx}
theorem ziR{α:Type}{f:α->V}{g:α->Value->Prop}(h:∀ a u,zbo (f a) u->g a u):∀{as:List α}{us:List Value}{i:Nat}{u:Value},zbc (as.map f) us->us[i]? = some u->∃ a,as[i]? = some a/\g a u
 |[],_,_,_,r,e=>by cases r;simp at e
 |a::as,_,0,u,.cons r t,e=>by simp at e;subst e;exact ⟨a,rfl,h a _ r⟩
 |a::as,_,i+1,u,.cons r t,e=>by
  obtain ⟨b,h1,h2⟩:=ziR h (i:=i) t (by simpa using e)
  exact ⟨b,by simpa using h1,h2⟩
theorem ziG:∀(bs:List Bool),((List.range bs.length).all fun i=>(bs[i]?).getD true)=bs.all id:=fun bs=>by
 rw[Bool.eq_iff_iff,List.all_eq_true,List.all_eq_true]
 constructor
 ·intro h b hb
  obtain ⟨i,hi,rfl⟩:=List.mem_iff_getElem.mp hb
  have:=h i (List.mem_range.mpr hi)
  simpa [hi] using this
 ·intro h i hi
  have hi':=List.mem_range.mp hi
  simpa [hi'] using h bs[i] (List.getElem_mem hi')
theorem zoQ(hc:X.calm=true):zda X (.builtin "all") (fun xs H Q=>∃(p:Addr)(bs:List Bool),xs=[.ref p]/\SqL X.K H p (bs.map V.bl)/\Q (.bl (bs.all id)) H):=by
 intro pS s Y H xs us Q I r h
 obtain ⟨p,bs,rfl,hq,q⟩:=h
 obtain ⟨u,rfl,ru⟩:=zgM r
 cases ru
 obtain ⟨its,rv,pl,hz⟩:=I.list hq
 have hlt:p≠s.heap.objs.size:=by
  obtain ⟨o,n,e,_⟩:=id pl
  exact Nat.ne_of_lt (wai e)
 have hlen:its.length=bs.length:=by rw[<- rv.length];simp
 refine call_all_walk (wpAny_pyIter_list pl.isList ?_)
 refine ⟨s.heap.objs.size,_,_,_,_,_,fun i=>(bs[i]?).getD true,rfl,Walks.list (A:=X.A.in1) (I.ok.hd hc) s.heap.objs.size p hlt its.toArray,⟨⟨_,waj _ rfl,rfl,rfl⟩,?_⟩,?_,fun h' tk hk=>?_⟩
 ·obtain ⟨o,ho,hc',n,hd⟩:=pl.isList
  exact ⟨o,waa _ ho,hc',n,hd⟩
 ·intro i v s' Q' E' hP hQ
  obtain ⟨b,h1,h2⟩:=ziR (f:=V.bl) (g:=fun b u=>u=Value.bool b) (fun a u z=>z) rv (i:=i) (u:=v) (by simpa using hP)
  subst h2
  simp only[h1,Option.getD_some] at hQ
  exact wpAny_truthy_bool hQ
 ·refine ⟨.bl (bs.all id),H,I.kept (t':=tk) fun b o e=>hk b o (fun z=>?_) (waa _ e),?_,q⟩
  ·simp at z;exact absurd (z ▸ wai e) (Nat.lt_irrefl _)
  ·show Value.bool _=_
   rw[List.size_toArray,hlen,ziG]
def zfr:List Dt->Option (List Bool)
 |[]=>some []
 |.bl b::r=>(zfr r).map (b::·)
 |_=>none
theorem zhY{K:W.Frag}{G:Hp}:∀{ds:List Dt}{vs:List V}{bs:List Bool},za1 K G ds vs->zfr ds=some bs->vs=bs.map V.bl
 |[],_,_,h,e=>by rw[h.nil_inv];simp[zfr] at e;subst e;rfl
 |.bl b::r,_,bs,h,e=>by
  obtain ⟨v,t,rfl,h1,h2⟩:=h.cons_inv
  simp only[zfr,Option.map_eq_some_iff] at e
  obtain ⟨bs',e1,rfl⟩:=e
  rw[zd0 h1,zhY h2 e1];rfl
 |.non::_,_,_,_,e=>by simp[zfr] at e
 |.int _::_,_,_,_,e=>by simp[zfr] at e
 |.str _::_,_,_,_,e=>by simp[zfr] at e
 |.tup _::_,_,_,_,e=>by simp[zfr] at e
 |.lst _::_,_,_,_,e=>by simp[zfr] at e
 |.dct::_,_,_,_,e=>by simp[zfr] at e
 |.scr _::_,_,_,_,e=>by simp[zfr] at e
def zjl:List Dt->R Dt
 |[.lst l]=>match zfr l with
  |some bs=>.ok (.bl (bs.all id))
  |none=>.no
 |_=>.no
theorem ztF{K:W.Frag}:FnR K (fun xs H Q=>∃(p:Addr)(bs:List Bool),xs=[.ref p]/\SqL K H p (bs.map V.bl)/\Q (.bl (bs.all id)) H) zjl:=fun G H vs ds z Q gh hr e k=>by
 unfold zjl at e
 split at e
 ·split at e
  ·rename_i bs eb
   obtain ⟨v,rfl,h1⟩:=zf0 hr
   obtain ⟨a,us,rfl,h2,h3⟩:=zba h1
   cases e
   rw[zhY h3 eb] at h2
   exact ⟨a,bs,rfl,SqL.of (gh _ _ h2),k _ G H (.refl gh) (zd6 _)⟩
  ·cases e
 ·cases e
theorem ztV:zmf zjl:=fun x n h=>by unfold zjl at h;split at h <;> first|cases h|(split at h <;> cases h)
def zfk:List Dt->Option (List Int)
 |[]=>some []
 |.int b::r=>(zfk r).map (b::·)
 |_=>none
theorem zkE{K:W.Frag}{G:Hp}:∀{ds:List Dt}{vs:List V}{bs:List Int},za1 K G ds vs->zfk ds=some bs->vs=bs.map V.int
 |[],_,_,h,e=>by rw[h.nil_inv];simp[zfk] at e;subst e;rfl
 |.int b::r,_,bs,h,e=>by
  obtain ⟨v,t,rfl,h1,h2⟩:=h.cons_inv
  simp only[zfk,Option.map_eq_some_iff] at e
  obtain ⟨bs',e1,rfl⟩:=e
  rw[zas h1,zkE h2 e1];rfl
 |.non::_,_,_,_,e=>by simp[zfk] at e
 |.bl _::_,_,_,_,e=>by simp[zfk] at e
 |.str _::_,_,_,_,e=>by simp[zfk] at e
 |.tup _::_,_,_,_,e=>by simp[zfk] at e
 |.lst _::_,_,_,_,e=>by simp[zfk] at e
 |.dct::_,_,_,_,e=>by simp[zfk] at e
 |.scr _::_,_,_,_,e=>by simp[zfk] at e
theorem zhf(ns:List Int):zfk (ns.map .int)=some ns:=by
 induction ns with
 |nil=>rfl
 |cons n r ih=>simp[zfk,ih]
end
section
variable{X:Cx}
end
def tyD:Dt->String
 |.non=>"NoneType"
 |.bl _=>"bool"
 |.int _=>"int"
 |.str _=>"str"
 |.tup _=>"tuple"
 |.lst _=>"list"
 |.dct=>"dict"
 |.scr _=>"list"
def zjk(t T:String):Bool:=(t == T) || (t == "bool" && T == "int")
section
variable{X:Cx}{pS:List (Addr×Obj)}{Y:L2.St}{H:Hp}{s:Shared}
theorem zue(I:L2.Inv X pS Y H s):∀{d:Dt}{v:V}{u:Value},Rep X.K H d v->zbo v u->∃ P:Heap->Prop,W.KitX X.K u (.type (tyD d)) P/\P s.heap/\u≠.builtin "__main__.__loader__#opaque"
 |.non,v,u,h,r=>by rw[zh5 h] at r;cases r;exact ⟨_,W.kitx_none,True.intro,xws⟩
 |.bl b,v,u,h,r=>by rw[zd0 h] at r;cases r;exact ⟨_,W.kitx_bool,True.intro,xws⟩
 |.int b,v,u,h,r=>by rw[zas h] at r;obtain ⟨t,rfl⟩:=r;exact ⟨_,W.kitx_int,True.intro,xws⟩
 |.str b,v,u,h,r=>by rw[zgf h] at r;obtain ⟨t,rfl⟩:=r;exact ⟨_,W.kitx_str,True.intro,xws⟩
 |.tup l,v,u,h,r=>by
  obtain ⟨a,vs,rfl,h1,h2⟩:=zbK h
  cases r
  obtain ⟨its,rv,⟨o,e,c,k,dd⟩,_⟩:=I.tuple h1
  exact ⟨_,W.kitx_tuple,⟨o,e,c⟩,xws⟩
 |.lst l,v,u,h,r=>by
  obtain ⟨a,vs,rfl,h1,h2⟩:=zba h
  cases r
  obtain ⟨its,rv,⟨o,k,e,c,_,dd⟩,_⟩:=I.list (SqL.of h1)
  exact ⟨_,W.kitx_list,⟨o,e,c⟩,xws⟩
 |.dct,v,u,h,r=>by
  unfold Rep at h
  obtain ⟨a,rfl,h1⟩:=h
  cases r
  obtain ⟨_,_,vs,_,o,es,ep,e1,e2,_⟩:=(show zbO X.prog X.w H s.heap a (.dK []) from I.hok a _ h1)
  exact ⟨_,W.kitx_dict,⟨o,e1,e2.1⟩,xws⟩
 |.scr l,v,u,h,r=>by
  obtain ⟨a,rfl,h1⟩:=zk5 h
  cases r
  obtain ⟨its,rv,⟨o,k,e,c,_,dd⟩,_⟩:=I.list h1
  exact ⟨_,W.kitx_list,⟨o,e,c⟩,xws⟩
end
def zmT(T:String):Prop:=∀(K:W.Frag)(t:String),t∈["NoneType","bool","int","str","tuple","list","dict"]->W.kitOne K (.type t) (.type T)=some (zjk t T)
theorem ztf(d:Dt):tyD d∈["NoneType","bool","int","str","tuple","list","dict"]:=by cases d <;> simp[tyD]
theorem znx:zmT "int":=fun K t h=>by
 simp only[wap,wak,or_false] at h
 rcases h with rfl|rfl|rfl|rfl|rfl|rfl|rfl <;> rfl
theorem zi4:zmT "bool":=fun K t h=>by
 simp only[wap,wak,or_false] at h
 rcases h with rfl|rfl|rfl|rfl|rfl|rfl|rfl <;> rfl
theorem zcT:zmT "tuple":=fun K t h=>by
 simp only[wap,wak,or_false] at h
 rcases h with rfl|rfl|rfl|rfl|rfl|rfl|rfl <;> rfl
theorem zrd:zmT "list":=fun K t h=>by
 simp only[wap,wak,or_false] at h
 rcases h with rfl|rfl|rfl|rfl|rfl|rfl|rfl <;> rfl
def zcZ(T:String)(fa:De):De:=fun Z=>(fa Z).bind fun a=>.ok (.bl (zjk (tyD a.1) T),a.2)
section
variable{X:Cx}{C:Cn}{e:Expr}{fa:De}{p p2 pos:Pos}
theorem zpH{T:String}(ok:zmT T):zda X (.builtin "isinstance") (fun xs H Q=>∃ d v,xs=[v,.ty T]/\Rep X.K H d v/\Q (.bl (zjk (tyD d) T)) H):=by
 intro pS s Y H xs us Q I r h
 obtain ⟨d,v,rfl,h1,q⟩:=h
 obtain ⟨u,w',rfl,r1,r2⟩:=zmX r
 cases r2
 obtain ⟨P,Zq,hp,hx⟩:=zue I h1 r1
 exact W.kia_one Zq I.kIn hp (ok X.K (tyD d) (ztf d)) hx fun tk=>⟨.bl _,H,I.tok tk,rfl,q⟩
theorem zd4{T:String}{x2:Str}(ok:zmT T)(hg:Gl X "isinstance")(hm:X.mg "isinstance"=none)(hv:bootBuiltins "isinstance"=some (.builtin "isinstance"))(hg2:Gl X x2)(hm2:X.mg x2=none)(hv2:bootBuiltins x2=some (.type T))(ha:JE X C e fa)
  (hn:("isinstance" : Str)≠"__name__":=by decide) (hdb:(("isinstance" : Str) == ("__debug__" : Str))=false:=by decide) (hn2:x2≠"__name__":=by decide) (hdb2:(x2 == ("__debug__" : Str))=false:=by decide)
  (hs:starEach [e,.Name x2 p2] X.env=(false,eval e X.env)::starEach [.Name x2 p2] X.env:=by rfl) (hs2:starEach [.Name x2 p2] X.env=(false,eval (.Name x2 p2) X.env)::starEach [] X.env:=by rfl) (hpl:(backTo pos (starEach [.Name x2 p2] X.env)).any (·.1)=false:=by rfl) :
  JE X C (.Call (.Name "isinstance" p) [e,.Name x2 p2] [] pos) (zcZ T fa) :=
 PE.weak (zez (zpH ok) hg hm hv (zbT ha (zbT (znY (v:=.ty T) hg2 hm2 hv2 rfl hn2 hdb2) zep hs2) hs) hn hdb hs hpl) fun Y H Q ⟨G,w,Z,r,p⟩=>by
  refine zdb (κ:=fun G H w=>kE X.K C Y Q G H w) zcc r p fun d Z1 v G1 H1 w1 r1 s1 q1 p1=>?_
  exact ⟨d,v,rfl,q1.same r1.gh,p1 _ G1 H1 w1 (.refl _ _ _) r1 (zd6 _)⟩
def gIx:Dt->Dt->R Dt
 |.lst l,.int i=>match atI l i with
  |some d=>.ok d
  |none=>.no
 |.tup l,.int i=>match atI l i with
  |some d=>.ok d
  |none=>.no
 |.scr l,.int i=>match atI l i with
  |some d=>.ok (.int d)
  |none=>.no
 |_,_=>.no
theorem zta{α β:Type}{f:α->β}{l:List α}{i:Int}{d:α}(ed:atI l i=some d):atI (l.map f) i=some (f d):=by
 unfold atI at ed ⊢
 rw[List.length_map]
 cases q:ixN l.length i with
 |none=>rw[q] at ed;cases ed
 |some j =>
  rw[q] at ed
  simp only[Option.bind_some] at ed ⊢
  rw[List.getElem?_map,ed];rfl
theorem zuj{K:W.Frag}:Op2 K (fun x y H Q=>rIxL K x y H Q\/rIxT K x y H Q) gIx:=fun G H x y dx dy z Q gh hx hy e k=>by
 unfold gIx at e
 split at e
 ·split at e
  ·rename_i d ed
   cases e
   obtain ⟨a,vs,rfl,h1,h2⟩:=zba hx
   obtain ⟨v,e1,e2⟩:=zi8 h2 ed
   exact .inl ⟨a,vs,_,v,rfl,zas hy,SqL.of (gh _ _ h1),e1,k v G H (.refl gh) e2⟩
  ·cases e
 ·split at e
  ·rename_i d ed
   cases e
   obtain ⟨a,vs,rfl,h1,h2⟩:=zbK hx
   obtain ⟨v,e1,e2⟩:=zi8 h2 ed
   exact .inr ⟨a,vs,_,v,rfl,zas hy,zaD gh h1,e1,k v G H (.refl gh) e2⟩
  ·cases e
 ·split at e
  ·rename_i d ed
   cases e
   obtain ⟨a,rfl,h1⟩:=zk5 hx
   exact .inl ⟨a,_,_,.int d,rfl,zas hy,gh.seq h1,zta ed,k _ G H (.refl gh) (za5 _)⟩
  ·cases e
 ·cases e
theorem zrS:zhC gIx:=fun x y n h=>by unfold gIx at h;split at h <;> first|cases h|(split at h <;> cases h)
theorem zbw{a b:Expr}{fa fb:De}(ha:JE X C a fa)(hb:JE X C b fb)(hs:zli b:=by exact fun _ _=>rfl):JE X C (.Subscript a b pos) (dOp gIx fa fb) :=
 PE.weak (zut (zn8.or zun) ha hb hs) fun Y H Q h=>zis zuj zrS h
end
theorem Rel.mutate{K:W.Frag}{C:Cn}{Y:L2.St}{G H:Hp}{w:Wn}{Z:Ev}{i:Nat}{ds ds':List Dt}{a:Addr}{vs':List V}(r:Rel K C G w Z Y H)(hi:Z[i]? = some (some (.own ds)))(hv:Y[i]? = some (some (.ref a)))(hw:w a=some i)(h':za1 K G ds' vs') :
  Rel K C G w (Z.set i (some (.own ds'))) Y (upd H a (.lst vs'))/\zbv G H w G (upd H a (.lst vs')) w:=by
 have ga:G a=none:=r.wg a (by rw[hw];simp)
 have st:zbv G H w G (upd H a (.lst vs')) w:=by
  refine ⟨.refl _,fun b o e=>.inl (by rw[e];simp),fun b o e z=>?_,fun _ e=>.inl e,fun b e=>?_⟩
  ·have:b≠a:=fun q=>by subst q;rw[hw] at z;cases z
   rw[zah this];exact e
  ·by_cases hb:b=a
   ·subst hb;rw[zan] at e;cases e
   ·rw[zah hb] at e;exact e
 refine ⟨⟨fun b o e=>?_,r.wg,fun b e=>?_,by simpa using r.len,fun j b e=>?_,r.en.trans st,r.pin⟩,st⟩
 ·rw[zah (zak e ga)];exact r.gh b o e
 ·by_cases hb:b=a
  ·subst hb;rw[zan];simp
  ·rw[zah hb];exact r.wh b e
 ·by_cases hj:j=i
  ·subst hj
   rw[List.getElem?_set_self (List.getElem?_eq_some_iff.mp hi).1] at e
   cases e
   exact ⟨_,hv,a,vs',rfl,hw,zan,h'⟩
  ·rw[List.getElem?_set_ne (Ne.symm hj)] at e
   obtain ⟨v',h1,h2⟩:=r.sl j b e
   refine ⟨v',h1,h2.grow (.refl _) fun b' o e1 e2=>⟨?_,e1⟩⟩
   have:b'≠a:=fun z=>by subst z;rw[hw] at e1;exact hj (waB e1).symm
   rw[zah this];exact e2
section
variable{X:Cx}{C:Cn}{e:Expr}{fa:De}{pos ps apos:Pos}{x:Str}
theorem zdy{K:W.Frag}{Y:L2.St}{G H:Hp}{w:Wn}{Z:Ev}{i:Nat}{ds:List Dt}(r:Rel K C G w Z Y H)(e:Z[i]? = some (some (.own ds))):∃ a vs,Y[i]? = some (some (.ref a))/\w a=some i/\H a=some (.lst vs)/\za1 K G ds vs:=by
 obtain ⟨v,h1,a,vs,rfl,h2,h3,h4⟩:=r.sl i _ e
 exact ⟨a,vs,h1,h2,h3,h4⟩
def zft(i:Nat)(fa:De):De:=fun Z=>match Z[i]? with
 |some (some (.own _))=>(fa Z).bind fun a=>match a.2[i]? with
  |some (some (.own ds))=>if ds.length<16777216 then .ok (.non,a.2.set i (some (.own (ds++[a.1])))) else .no
  |_=>.no
 |_=>.no
theorem ze8:sizeLine=16777216:=by decide
theorem ziX(i:Nat)(ha:JE X C e fa)(hN:X.N[i]? = some x:=by rfl)(hv:Vis X.env.scope x:=by exact xwV)(hd:(x == ("__debug__" : Str))=false:=by decide)(hcd:(x == ("__classdict__" : Str))=false:=by decide)
  (hbase:attributeBase (.Name x ps) "append" X.env (eval (.Name x ps) X.env)=eval (.Name x ps) X.env:=by rfl)
  (hfew:((backTo pos (starEach [e] X.env)).all (fun x=>!x.1) && (backToKw pos (keywordEach [] X.env)).all (fun x=>x.1.isSome) && decide ([e].length+([]:List Keyword).length+(if ([]:List Keyword).isEmpty then 0 else 1)<30))=true:=by rfl)
  (hline:(apos.endLine == pos.line)=true:=by rfl) (hs:starEach [e] X.env=(false,eval e X.env)::starEach [] X.env:=by rfl) (hplain:(backTo pos (starEach [] X.env)).any (·.1)=false:=by rfl) :
  JE X C (.Call (.Attribute (.Name x ps) "append" apos) [e] [] pos) (zft i fa) :=
 PE.weak (zq4 PySem.F.plainAttrs_list PySem.F.slot_list_append PySem.F.type_list_append zjJ (zcm hN hv hd hcd) (zbT ha zep hs) hbase hfew hline hs hplain) fun Y H Q ⟨G,w,Z,r,p⟩=>by
  unfold zft at p
  split at p
  ·rename_i ds0 e0
   obtain ⟨a,vs,h1,h2,h3,h4⟩:=zdy r e0
   refine ⟨.ref a,h1,.inl ⟨rfl,vs,SqL.of h3⟩,?_⟩
   refine zdb (κ:=fun G H w=>kE X.K C Y Q G H w) zcc r p fun d Z1 v G1 H1 w1 r1 s1 q1 p1=>?_
   dsimp only at p1
   split at p1
   ·rename_i ds e1
    obtain ⟨a',vs',k1,k2,k3,k4⟩:=zdy r1 e1
    rw[h1] at k1;cases k1
    split at p1
    ·rename_i hl
     obtain ⟨r',s'⟩:=r1.mutate e1 h1 k2 (k4.append (za1.cons q1 za1.nil))
     exact ⟨a,vs',v,rfl,rfl,k3,by rw[<- k4.length,ze8];exact hl,p1 _ _ _ _ s' r' (by unfold Rep;rfl)⟩
    ·exact p1.elim
   ·exact p1.elim
  ·exact p.elim
def zkB(ds:List Dt)(k:Int):Option (Dt×List Dt):=if zfH k=true then match ixN ds.length k with
  |some j=>match ds[j]? with
   |some d=>some (d,ds.eraseIdx j)
   |none=>none
  |none=>none
 else none
def zf6(i:Nat)(fa:De):De:=fun Z=>match Z[i]? with
 |some (some (.own _))=>(fa Z).bind fun a=>match a.2[i]?,a.1 with
  |some (some (.own ds)),.int k=>match zkB ds k with
   |some z=>.ok (z.1,a.2.set i (some (.own z.2)))
   |none=>.no
  |_,_=>.no
 |_=>.no
theorem zlB(i:Nat)(ha:JE X C e fa)(hN:X.N[i]? = some x:=by rfl)(hv:Vis X.env.scope x:=by exact xwV)(hd:(x == ("__debug__" : Str))=false:=by decide)(hcd:(x == ("__classdict__" : Str))=false:=by decide)
  (hbase:attributeBase (.Name x ps) "pop" X.env (eval (.Name x ps) X.env)=eval (.Name x ps) X.env:=by rfl)
  (hfew:((backTo pos (starEach [e] X.env)).all (fun x=>!x.1) && (backToKw pos (keywordEach [] X.env)).all (fun x=>x.1.isSome) && decide ([e].length+([]:List Keyword).length+(if ([]:List Keyword).isEmpty then 0 else 1)<30))=true:=by rfl)
  (hline:(apos.endLine == pos.line)=true:=by rfl) (hs:starEach [e] X.env=(false,eval e X.env)::starEach [] X.env:=by rfl) (hplain:(backTo pos (starEach [] X.env)).any (·.1)=false:=by rfl) :
  JE X C (.Call (.Attribute (.Name x ps) "pop" apos) [e] [] pos) (zf6 i fa) :=
 PE.weak (zq4 PySem.F.plainAttrs_list PySem.F.slot_list_pop PySem.F.type_list_pop zpV (zcm hN hv hd hcd) (zbT ha zep hs) hbase hfew hline hs hplain) fun Y H Q ⟨G,w,Z,r,p⟩=>by
  unfold zf6 at p
  split at p
  ·rename_i ds0 e0
   obtain ⟨a,vs,h1,h2,h3,h4⟩:=zdy r e0
   refine ⟨.ref a,h1,.inl ⟨rfl,vs,SqL.of h3⟩,?_⟩
   refine zdb (κ:=fun G H w=>kE X.K C Y Q G H w) zcc r p fun d Z1 v G1 H1 w1 r1 s1 q1 p1=>?_
   dsimp only at p1
   split at p1
   ·rename_i ds k e1
    obtain ⟨a',vs',k1,k2,k3,k4⟩:=zdy r1 e1
    rw[h1] at k1;cases k1
    split at p1
    ·rename_i z ez
     unfold zkB at ez
     split at ez
     ·rename_i hb
      split at ez
      ·rename_i j ej
       split at ez
       ·rename_i d ed
        cases ez
        obtain ⟨j1,j2,j3,j4⟩:=zkW ej
        obtain ⟨y,y1,y2⟩:=k4.get ed
        obtain ⟨r',s'⟩:=r1.mutate e1 h1 k2 (k4.eraseIdx j)
        have hl:=k4.length
        obtain ⟨b1,b2⟩:=zi5 hb
        exact ⟨a,vs',k,j,y,rfl,by rw[zas q1],k3,xwo,xwo,by rw[<- hl];exact j1,y1,p1 _ _ _ _ s' r' y2⟩
       ·cases ez
      ·cases ez
     ·cases ez
    ·exact p1.elim
   ·exact p1.elim
  ·exact p.elim
end
theorem zs9{X:Cx}{pS:List (Addr×Obj)}{Y:L2.St}{H:Hp}{s:Shared}{a:Addr}{xs:List V}(I:L2.Inv X pS Y H s)(h:zhM X.K H a xs):∃(its:List Value)(n:Nat),zbc xs its/\s.heap.get? a=some { cls:=.type "tuple",data:=.seq its.toArray n }/\xs.length<=sizeLine:=by
 rcases h with h|⟨its,n,h1,h2,h3⟩
 ·obtain ⟨z,its,r,n,e⟩:=(show zbO X.prog X.w H s.heap a (.tup xs) from I.hok a _ h)
  exact ⟨its,n,r,e,z⟩
 ·refine ⟨its.toList,n,h3,by simpa using I.kIn a _ h1,?_⟩
  have:=h3.length
  simp only[Array.length_toList] at this
  omega
def zu4(K:W.Frag):V->List V->Hp->VK->Prop:=fun x vs H Q=>∃ l b xs zs,x=.ref l/\vs=[.ref b]/\H l=some (.lst xs)/\zhM K H b zs/\xs.length+zs.length<=sizeLine/\Q .non (upd H l (.lst (xs++zs)))
section
variable{X:Cx}
theorem zni:MtM X "list.extend" (zu4 X.K):=by
 intro pS s Y H x vs v us Q I rx rv h
 obtain ⟨l,b,xs,zs,rfl,rfl,hH,hB,hz,q⟩:=h
 cases rx
 obtain ⟨u,rfl,ru⟩:=zbc.one rv
 cases ru
 obtain ⟨z,its,n,r,hl,e⟩:=I.lstM hH
 obtain ⟨its2,n2,r2,e2,z2⟩:=zs9 I hB
 have hl2:=r2.length
 have hsz:its.toArray.size+its2.toArray.size<=sizeLine:=by rw[List.size_toArray,List.size_toArray];omega
 have hlong:¬ (!its.toArray.isEmpty && Builtin.List.listTooLong (its.toArray.size+its2.toArray.size))=true:=by
  rw[zl8 hsz,Bool.and_false]
  exact Bool.false_ne_true
 refine PySem.call_meets F.slot_list_extend ⟨_,e,rfl⟩ F.entry_list_extend (F.args_list_extend_2 _ _)
  (AutoSeq1.list_extend_list_tuple_0 l its.toArray n b its2.toArray n2 hlong (by rw[List.size_toArray];omega) xwo) ⟨e,e2,?_⟩
 refine ⟨.non,_,I.lset (its':=its++its2) hH e xws (r.append r2) ?_,rfl,q⟩
 rw[List.length_append]
 omega
theorem MtM.or{id:String}{r r':V->List V->Hp->VK->Prop}(h:MtM X id r)(h':MtM X id r'):MtM X id (fun x xs H Q=>r x xs H Q\/r' x xs H Q):=by
 intro pS s Y H x xs v us Q I rx rs q
 rcases q with q|q
 ·exact h pS s Y H x xs v us Q I rx rs q
 ·exact h' pS s Y H x xs v us Q I rx rs q
variable{C:Cn}{e:Expr}{fa fb:De}{pos ps apos:Pos}{x:Str}
def zr7:Dt->Option (List Dt)
 |.lst l=>some l
 |.tup l=>some l
 |_=>none
def zmp(i:Nat)(fa:De):De:=fun Z=>match Z[i]? with
 |some (some (.own _))=>(fa Z).bind fun a=>match a.2[i]?,zr7 a.1 with
  |some (some (.own ds)),some l=>if ds.length+l.length<=16777216 then .ok (.non,a.2.set i (some (.own (ds++l)))) else .no
  |_,_=>.no
 |_=>.no
theorem zsw(i:Nat)(ha:JE X C e fa)(hN:X.N[i]? = some x:=by rfl)(hv:Vis X.env.scope x:=by exact xwV)(hd:(x == ("__debug__" : Str))=false:=by decide)(hcd:(x == ("__classdict__" : Str))=false:=by decide)
  (hbase:attributeBase (.Name x ps) "extend" X.env (eval (.Name x ps) X.env)=eval (.Name x ps) X.env:=by rfl)
  (hfew:((backTo pos (starEach [e] X.env)).all (fun x=>!x.1) && (backToKw pos (keywordEach [] X.env)).all (fun x=>x.1.isSome) && decide ([e].length+([]:List Keyword).length+(if ([]:List Keyword).isEmpty then 0 else 1)<30))=true:=by rfl)
  (hline:(apos.endLine == pos.line)=true:=by rfl) (hs:starEach [e] X.env=(false,eval e X.env)::starEach [] X.env:=by rfl) (hplain:(backTo pos (starEach [] X.env)).any (·.1)=false:=by rfl) :
  JE X C (.Call (.Attribute (.Name x ps) "extend" apos) [e] [] pos) (zmp i fa) :=
 PE.weak (zq4 PySem.F.plainAttrs_list PySem.F.slot_list_extend PySem.F.type_list_extend (MtM.or zn2 zni) (zcm hN hv hd hcd) (zbT ha zep hs) hbase hfew hline hs hplain) fun Y H Q ⟨G,w,Z,r,p⟩=>by
  unfold zmp at p
  split at p
  ·rename_i ds0 e0
   obtain ⟨a,vs,h1,h2,h3,h4⟩:=zdy r e0
   refine ⟨.ref a,h1,.inl ⟨rfl,vs,SqL.of h3⟩,?_⟩
   refine zdb (κ:=fun G H w=>kE X.K C Y Q G H w) zcc r p fun d Z1 v G1 H1 w1 r1 s1 q1 p1=>?_
   dsimp only at p1
   split at p1
   ·rename_i ds l e1 el
    obtain ⟨a',vs',k1,k2,k3,k4⟩:=zdy r1 e1
    rw[h1] at k1;cases k1
    split at p1
    ·rename_i hl
     cases d with
     |lst l' =>
      cases el
      obtain ⟨b,us,rfl,b1,b2⟩:=zba q1
      obtain ⟨r',s'⟩:=r1.mutate e1 h1 k2 (k4.append b2)
      exact .inl ⟨a,b,vs',us,rfl,rfl,k3,r1.gh _ _ b1,by rw[<- k4.length,<- b2.length,ze8];exact hl,p1 _ _ _ _ s' r' (by unfold Rep;rfl)⟩
     |tup l' =>
      cases el
      obtain ⟨b,us,rfl,b1,b2⟩:=zdH q1
      obtain ⟨r',s'⟩:=r1.mutate e1 h1 k2 (k4.append b2)
      exact .inr ⟨a,b,vs',us,rfl,rfl,k3,b1.same r1.gh,by rw[<- k4.length,<- b2.length,ze8];exact hl,p1 _ _ _ _ s' r' (by unfold Rep;rfl)⟩
     |_=>cases el
    ·exact p1.elim
   ·exact p1.elim
  ·exact p.elim
def zdS(i:Nat):De:=fun Z=>match Z[i]? with
 |some (some (.own ds))=>.ok (.int ds.length,Z)
 |_=>.no
theorem zir(i:Nat){p:Pos}(hg:Gl X "len")(hm:X.mg "len"=none)(hN:X.N[i]? = some x:=by rfl)(hv:Vis X.env.scope x:=by exact xwV)(hd:(x == ("__debug__" : Str))=false:=by decide)(hcd:(x == ("__classdict__" : Str))=false:=by decide)
  (hs:starEach [.Name x ps] X.env=(false,eval (.Name x ps) X.env)::starEach [] X.env:=by rfl) (hpl:(backTo pos (starEach [] X.env)).any (·.1)=false:=by rfl):JE X C (.Call (.Name "len" p) [.Name x ps] [] pos) (zdS i) :=
 PE.weak (zez zg6 hg hm PySem.boot_len (zbT (zcm hN hv hd hcd) zep hs) xwd xwd hs hpl) fun Y H Q ⟨G,w,Z,r,p⟩=>by
  unfold zdS at p
  split at p
  ·rename_i ds e0
   obtain ⟨a,vs,h1,h2,h3,h4⟩:=zdy r e0
   exact ⟨.ref a,h1,a,vs,rfl,.inl (SqL.of h3),by rw[<- h4.length];exact p _ G H w (.refl _ _ _) r (za5 _)⟩
  ·exact p.elim
def ztm(neg:Bool)(i:Nat)(fb:De):De:=fun Z=>match Z[i]? with
 |some (some (.own _))=>(fb Z).bind fun b=>match b.2[i]? with
  |some (some (.own ds))=>(gEq neg (.lst ds) b.1).bind fun z=>.ok (z,b.2)
  |_=>.no
 |_=>.no
theorem zqk{neg:Bool}{i:Nat}{Y:L2.St}{H:Hp}{Q:VK}(h:tE X.K C (ztm neg i fb) Y H Q):tOp (zuV X.K neg) (tVar i) (tE X.K C fb) Y H Q:=by
 obtain ⟨G,w,Z,r,p⟩:=h
 unfold ztm at p
 split at p
 ·rename_i ds0 e0
  obtain ⟨a,vs,h1,h2,h3,h4⟩:=zdy r e0
  refine ⟨.ref a,h1,?_⟩
  refine zdb (κ:=fun G H w=>kE X.K C Y Q G H w) zcc r p fun d Z1 v G1 H1 w1 r1 s1 q1 p1=>?_
  dsimp only at p1
  split at p1
  ·rename_i ds e1
   obtain ⟨a',vs',k1,k2,k3,k4⟩:=zdy r1 e1
   rw[h1] at k1;cases k1
   unfold gEq at p1
   split at p1
   ·rename_i hk
    rw[Bool.and_eq_true] at hk
    exact ⟨.lst ds,d,by unfold Rep;exact ⟨a,vs',rfl,k3,k4.same r1.gh⟩,q1.same r1.gh,hk.1,hk.2,p1 _ G1 H1 w1 (.refl _ _ _) r1 (zd6 _)⟩
   ·exact p1.elim
  ·exact p1.elim
 ·exact p.elim
variable{b:Expr}
theorem zuh(i:Nat)(hu:X.A.units+64<cLine)(hb:JE X C b fb)(hN:X.N[i]? = some x:=by rfl)(hv:Vis X.env.scope x:=by exact xwV)(hd:(x == ("__debug__" : Str))=false:=by decide)(hcd:(x == ("__classdict__" : Str))=false:=by decide) :
  JT X C (.Compare (.Name x ps) [.NotEq] [b] pos) (dTB (ztm true i fb)):=PT.weak (zpi (zr6 hu) (zcm hN hv hd hcd) hb (zeB _)) fun Y H Q h=>zqk (zkV h)
def zoR(i:Nat)(fv fk:De):DS:=fun Z=>(fv Z).bind fun v=>match v.2[i]? with
 |some (some (.own _))=>(fk v.2).bind fun k=>match k.2[i]?,k.1 with
  |some (some (.own ds)),.int n=>match ixN ds.length n with
   |some j=>.ok (.nx,k.2.set i (some (.own (ds.set j v.1))))
   |none=>.no
  |_,_=>.no
 |_=>.no
theorem zoz(i:Nat){k:Expr}{fk:De}{tp:Pos}(hv:JE X C e fa)(hk:JE X C k fk)(hN:X.N[i]? = some x:=by rfl)(hvi:Vis X.env.scope x:=by exact xwV)(hd:(x == ("__debug__" : Str))=false:=by decide)(hcd:(x == ("__classdict__" : Str))=false:=by decide)
  (ha:∀ v,assign (.Subscript (.Name x ps) k tp) X.env v=(do
   let ov <- holding [v] (eval (.Name x ps) X.env)
   let iv <- holding [v,ov] (eval k X.env)
   standAt tp
   holding [v,ov,iv] (setItem ov iv v)
   release [v,ov,iv] []):=by intro _;rfl)
  (hs:swapsWithSole [.Subscript (.Name x ps) k tp] e pos.line X.env=pure false:=by rfl) (hw:swappedStores [.Subscript (.Name x ps) k tp] e X.env=pure none:=by rfl)
  (h1:(assignEach [.Subscript (.Name x ps) k tp] X.env).map (·.2)=[assign (.Subscript (.Name x ps) k tp) X.env]:=by rfl):JS X C (.Assign [.Subscript (.Name x ps) k tp] e pos) (zoR i fa fk) :=
 PS.weak (zrh hv (zu3 (zcm hN hvi hd hcd) hk zqp ha) hs hw h1) fun D Y H ⟨G,w,Z,r,p⟩=>by
  refine zdb (κ:=fun G H w=>kS X.K C D G H w) zdA r p fun d Z1 v G1 H1 w1 r1 s1 q1 p1=>?_
  dsimp only at p1
  split at p1
  ·rename_i ds0 e0
   obtain ⟨a,vs,k1,k2,k3,k4⟩:=zdy r1 e0
   refine ⟨.ref a,k1,?_⟩
   refine zdb (κ:=fun G H w=>kS X.K C D G H w) zdA r1 p1 fun d2 Z2 v2 G2 H2 w2 r2 s2 q2 p2=>?_
   dsimp only at p2
   split at p2
   ·rename_i ds n e2
    obtain ⟨a',vs',m1,m2,m3,m4⟩:=zdy r2 e2
    rw[k1] at m1;cases m1
    split at p2
    ·rename_i j ej
     obtain ⟨r',s'⟩:=r2.mutate e2 k1 m2 (za1.set (q1.same s2.g) j m4)
     exact ⟨a,vs',n,j,rfl,zas q2,m3,by rw[<- m4.length];exact ej,p2 _ _ _ _ s' r'⟩
    ·exact False.elim p2
   ·exact False.elim p2
  ·exact False.elim p1
end
theorem zen{env:Env}:∀(names:List (Str×NameKind))(cs:List (Str×Addr)),(∀ y∈names,y.2=.free->∃ c,env.cells.lookup y.1=some c)->(∀ x c,cs.lookup x=some c->env.cells.lookup x=some c) ->
  ∃ cl,(forIn names cs fun (y:Str×NameKind) (r:List (Str×Addr))=>(if (y.2 == NameKind.free)=true then do let a <- cellOf env y.1;pure (ForInStep.yield ((y.1,a)::r)) else pure (ForInStep.yield r):Sem (ForInStep (List (Str×Addr)))))=pure cl /\
   (∀ x c,cl.lookup x=some c->env.cells.lookup x=some c)/\(∀ x c,cs.lookup x=some c->∃ c',cl.lookup x=some c')/\∀ y∈names,y.2=.free->∃ c,cl.lookup y.1=some c
 |[],cs,_,h2=>⟨cs,rfl,h2,fun x c e=>⟨c,e⟩,fun y hy=>by cases hy⟩
 | (n,k)::r,cs,h1,h2=>by
  rw[List.forIn_cons]
  by_cases hk:k=.free
  ·subst hk
   obtain ⟨c,hc⟩:=h1 (n,.free) wau rfl
   obtain ⟨cl,e1,e2,e3,e4⟩:=zen r ((n,c)::cs) (fun y hy=>h1 y (wah _ hy)) (fun x c' e=>by
    rw[List.lookup_cons] at e
    cases hx:x == n with
    |true=>rw[hx] at e;simp only[Option.some.injEq] at e;subst e;rw[beq_iff_eq.mp hx];exact hc
    |false=>rw[hx] at e;exact h2 x c' e)
   refine ⟨cl,?_,e2,fun x c' e=>?_,fun y hy hf=>?_⟩
   ·simp only[beq_self_eq_true,if_true]
    have:cellOf env n=pure c:=by unfold cellOf;rw[hc]
    rw[this]
    exact e1
   ·refine (e3 x (if x == n then c else c') ?_)
    rw[List.lookup_cons]
    cases hx:x == n with
    |true=>rfl
    |false=>exact e
   ·rcases wap.mp hy with rfl|hy
    ·exact e3 n c (by simp[List.lookup_cons])
    ·exact e4 y hy hf
  ·obtain ⟨cl,e1,e2,e3,e4⟩:=zen r cs (fun y hy=>h1 y (wah _ hy)) h2
   refine ⟨cl,?_,e2,e3,fun y hy hf=>?_⟩
   ·have:(k == NameKind.free)=false:=by simpa using hk
    simp only[this,Bool.false_eq_true,if_false]
    exact e1
   ·rcases wap.mp hy with rfl|hy
    ·exact absurd hf hk
    ·exact e4 y hy hf
theorem zgr{scope:Scope}{env:Env}(h:∀ y∈scope.names,y.2=.free->∃ c,env.cells.lookup y.1=some c):∃ cl,closureFor scope env=pure cl/\(∀ x c,cl.lookup x=some c->env.cells.lookup x=some c)/\∀ y∈scope.names,y.2=.free->∃ c,cl.lookup y.1=some c:=by
 obtain ⟨cl,e1,e2,_,e4⟩:=zen (env:=env) scope.names [] h (fun x c e=>by simp at e)
 refine ⟨cl,?_,e2,e4⟩
 unfold closureFor
 exact (congrArg (fun z:Sem (List (Str×Addr))=>z >>= fun cs=>pure cs) e1).trans rfl
section
variable{prog:Program}{w:World}{A:Around}{R:Result->Shared->Prop}{s:Shared}
theorem zka{elt target iter:Expr}{ifs:List Expr}{scope:Scope}{pos:Pos}{it acc:Value}{env:Env}(I:Nat->Shared->Prop)
  (turn:∀ n s,I n s->wpAny (model prog w) A (pyNext it) (fun r s₁=>match r with
   |none=>R (.ok .next) s₁
   |some v=>wpAny (model prog w) A (letOwnedTupleGo target it v) (fun _ s₁'=>wpAny (model prog w) A (assign target env v) (fun _ s₂ =>
     wpAny (model prog w) A (forIn ifs true fun c r=>if r=true then do let ok <- isTrue c env (eval c env);pure (ForInStep.yield ok) else pure (ForInStep.yield r)) (fun ok s₃ =>
      if ok=true then wpAny (model prog w) A (eval elt env) (fun x s₄ =>
       wpAny (model prog w) A (call (.builtin "list.append") [acc,x]) (fun _ s₅=>∃ m,m<n/\I m s₅) (fun _ _=>False) s₄) (fun _ _=>False) s₃
      else ∃ m,m<n/\I m s₃) (fun _ _=>False) s₂) (fun _ _=>False) s₁') (fun _ _=>False) s₁) (fun _ _=>False) s)
  (n:Nat) (h:I n s) :
  codeAny (model prog w) A (.compLoop (.ListComp elt [⟨target,iter,ifs,0⟩] scope pos) 0 it acc env) R s:=by
 refine codeAny_loop rfl I (fun n s hI=>?_) n h
 show wpAny _ A ((compTurn (.ListComp elt [⟨target,iter,ifs,0⟩] scope pos) 0 it acc env).onRaise (fun x=>do noteFrame x env;theTreesLotGoes x)) _ _ s
 refine wpAny_noted ?_
 rw[compTurn_list]
 refine wab (wpAny_standAt (wab (wpAny_mono (turn n s hI) (fun r s₁ h₁=>?_) fun _ _ h'=>h'.elim)))
 cases r with
 |none=>exact wad h₁
 |some v =>
  refine wab (wpAny_mono h₁ (fun _ s₁' h₁'=>?_) fun _ _ h'=>h'.elim)
  refine wab (wpAny_mono h₁' (fun _ s₂ h₂=>wab (wpAny_mono h₂ (fun ok s₃ h₃=>?_) fun _ _ h'=>h'.elim)) fun _ _ h'=>h'.elim)
  cases ok with
  |false=>exact wad ⟨rfl,h₃⟩
  |true =>
   exact wab (wab (wpAny_mono h₃ (fun x s₄ h₄=>wab (wpAny_mono h₄ (fun _ s₅ h₅=>wad (wad ⟨rfl,h₅⟩)) fun _ _ h'=>h'.elim)) fun _ _ h'=>h'.elim))
end
def zd8(X:Cx)(N':List Str)(scope:Scope)(cl:List (Str×Addr))(L:Addr)(s:Shared)(H:Hp)(fp:List Addr):Cx where
 prog:=X.prog
 w:=X.w
 K:=X.K
 mg:=X.mg
 base:=X.base
 A:=X.A
 N:=N'
 s₀:=s
 H₀:=H
 env:=compEnvC scope cl L X.env
 outer:=X.stack
 stack:=X.stack
 ex:=fp
 fn:=fun _=>false
 calm:=X.calm
 pn:=[]
 xe:=fun _ _=>False
def znU(C:Cn)(n:Nat)(G H:Hp)(w:Wn)(Y:L2.St):Cn:=⟨G,H,w,List.range n,Y,fun _=>False,C.xv,false⟩
def zgL(N N':List Str)(names:List (Str×NameKind))(m:Nat):Bool:=decide (N'.length=N.length+m) && (List.range N.length).all fun i=>match N'[i]? with
 |some x=>match names.lookup x with
  |some .free=>N[i]? == some x
  |some .local=>false
  |some .cell=>false
  |_=>true
 |none=>false
theorem zc1{env:Env}{x:Str}:∀{names:List (Str×NameKind)},(names.map fun (n,k)=>if (k == NameKind.free && env.scope.kind == .function && env.kindOf n == some .cell) then (n,NameKind.cell) else (n,k)).lookup x=(names.lookup x).map fun k=>if (k == NameKind.free && env.scope.kind == .function && env.kindOf x == some .cell)=true then .cell else k
 |[]=>rfl
 | (n,k)::r=>by
  have ih:=zc1 (env:=env) (x:=x) (names:=r)
  show List.lookup x ((if (k == NameKind.free && env.scope.kind == .function && env.kindOf n == some .cell)=true then (n,NameKind.cell) else (n,k))::_)=_
  cases hx:x == n with
  |true =>
   have e:=beq_iff_eq.mp hx
   subst e
   simp only[List.lookup_cons,beq_self_eq_true,Option.map_some]
   split <;> simp[List.lookup_cons]
  |false =>
   simp only[List.lookup_cons,hx]
   split
   ·simp only[List.lookup_cons,hx];exact ih
   ·simp only[List.lookup_cons,hx];exact ih
theorem zbu{α β:Type} [BEq α] [LawfulBEq α] {x:α} {b:β}:∀{l:List (α×β)},l.lookup x=some b->(x,b)∈l
 |[],h=>by simp at h
 | (n,k)::r,h=>by
  rw[List.lookup_cons] at h
  cases hx:x == n with
  |true=>rw[hx] at h;simp at h;subst h;rw[beq_iff_eq.mp hx];exact wau
  |false=>rw[hx] at h;exact wah _ (zbu h)
theorem zho{scope:Scope}{env:Env}{x:Str}(h:Vis (relabel scope env) x):scope.names.lookup x=some .local\/scope.names.lookup x=some .cell\/scope.names.lookup x=some .free:=by
 have e:(relabel scope env).names.lookup x=_:=zc1 (env:=env) (x:=x) (names:=scope.names)
 unfold Vis at h
 rw[e] at h
 cases q:scope.names.lookup x with
 |none=>rw[q] at h;simp at h
 |some k =>
  rw[q] at h
  cases k <;> simp_all
section
variable{X:Cx}{C:Cn}
theorem zoV{pS:List (Addr×Obj)}{Y:L2.St}{H:Hp}{s:Shared}{N':List Str}{scope:Scope}{cl:List (Str×Addr)}{m:Nat}{fp:List Addr}{h₁:Heap}{tk:Nat}{mm:Str->Option Value}(I:L2.Inv X pS Y H s)(hf:∀ b∈fp,zfj X pS H b)(ho:∀ b∈fp,∃ o,s.heap.get? b=some o)
  (hb:zgL X.N N' scope.names m=true) (hkind:scope.kind=.function) (hcell:∀ y∈scope.names,y.2≠.cell) (hfr:∀ y∈scope.names,y.2=.free->X.env.kindOf y.1=some .cell\/X.env.kindOf y.1=some .free)
  (hcl:∀ x c,cl.lookup x=some c->X.env.cells.lookup x=some c) (hcf:∀ y∈scope.names,y.2=.free->∃ c,cl.lookup y.1=some c)
  (hns:h₁.Ns s.heap.objs.size mm) (hk:∀ b o,s.heap.get? b=some o->h₁.get? b=some o) :
  L2.Inv (zd8 X N' scope cl s.heap.objs.size s H fp) [] (Y++List.replicate m none) H { s with heap:=h₁,toks:=tk }:=by
 have hb1:N'.length=X.N.length+m:=by
  unfold zgL at hb;rw[Bool.and_eq_true] at hb;exact of_decide_eq_true hb.1
 have hb2:∀ i x,i<X.N.length->N'[i]? = some x->Vis (relabel scope X.env) x->X.N[i]? = some x/\scope.names.lookup x=some .free:=fun i x hi e v=>by
  unfold zgL at hb;rw[Bool.and_eq_true,List.all_eq_true] at hb
  have q:=hb.2 i (List.mem_range.mpr hi)
  simp only[e] at q
  rcases zho v with z|z|z
  ·simp[z] at q
  ·simp[z] at q
  ·simp[z] at q;exact ⟨q,z⟩
 have cellK:∀ c v,s.heap.IsCell c v->h₁.IsCell c v:=fun c v ⟨o,e1,e2⟩=>⟨o,hk c o e1,e2⟩
 refine ⟨⟨I.ok.mod,hkind,I.ok.glob,I.ok.blt,wal _,fun x y c h1 h2=>I.ok.inj x y c (hcl x c h1) (hcl y c h2),fun x hx=>?_,fun x c h _=>absurd h (by simp[zd8]),I.ok.hd,I.ok.frames,.inl rfl,fun b hb=>⟨?_,fun x c e=>(hf b hb).2.2.2.2.1 x c (hcl x c e)⟩,I.bs,Nat.le_trans I.ok.bsz I.sz,fun b o e hb=>?_,fun b hb z=>?_,I.stack,I.stkFree⟩,
  rfl,I.bare,Un.kept hk,⟨mm,hns,fun i x v e1 e2 e3=>?_⟩,fun x c e=>?_,I.hok.fresh (wal _),fun x c e=>I.freeC x c (hcl x c e),fun p hp=>absurd hp (by simp[zd8]),I.hok.kept hk,?_⟩
 ·
  have e:(relabel scope X.env).names.lookup x=_:=zc1 (env:=X.env) (x:=x) (names:=scope.names)
  have hx':Vis (relabel scope X.env) x:=hx.elim (fun z=>.inr (.inl z)) fun z=>.inr (.inr z)
  rcases zho hx' with z|z|z
  ·rw[z] at e
   have hx2:(relabel scope X.env).names.lookup x=some .cell\/(relabel scope X.env).names.lookup x=some .free:=hx
   rw[e] at hx2;simp at hx2
  ·exact absurd rfl (hcell _ (zbu z))
  ·exact hcf _ (zbu z) rfl
 ·intro z
  obtain ⟨o,e⟩:=ho b hb
  exact absurd (wai e) (by rw[z];exact Nat.lt_irrefl _)
 ·rcases (hf b hb).2.2.2.1 with z|z
  ·exact I.ok.noex b o e z
  ·exact absurd (was (wai e) (Nat.le_trans I.ok.bsz z)) (Nat.lt_irrefl _)
 ·rcases wap.mp (I.stkSub b z) with z|z
  ·exact (hf b hb).2.1 z
  ·exact (hf b hb).2.2.1 z
 ·have hi:i<X.N.length:=by
   by_cases hi:i<X.N.length
   ·exact hi
   ·rw[List.getElem?_append_right (by rw[I.len];omega),List.getElem?_replicate] at e2
    split at e2 <;> cases e2
  rw[List.getElem?_append_left (by rw[I.len];exact hi)] at e2
  obtain ⟨q1,q2⟩:=hb2 i x hi e1 e3
  have hm:=zbu q2
  obtain ⟨m0,hn0,hl0⟩:=I.loc
  have kc:=hfr _ hm rfl
  obtain ⟨u,ru,lk⟩:=hl0 i x v q1 e2 (kc.elim (fun z=>.inr (.inl z)) fun z=>.inr (.inr z))
  refine ⟨u,ru,.inr ⟨?_,?_⟩⟩
  ·have e:(relabel scope X.env).names.lookup x=_:=zc1 (env:=X.env) (x:=x) (names:=scope.names)
   show (relabel scope X.env).names.lookup x=some .cell\/(relabel scope X.env).names.lookup x=some .free
   rw[e,q2]
   simp only[Option.map_some]
   split
   ·exact .inl rfl
   ·exact .inr rfl
  ·obtain ⟨c,hc⟩:=hcf _ hm rfl
   refine ⟨c,hc,?_⟩
   rcases lk with ⟨z,_⟩|⟨_,c',e',ic⟩
   ·rcases kc with y|y <;> (rw[y] at z;cases z)
   ·rw[hcl _ _ hc] at e';cases e'
    exact cellK _ _ ic
 ·obtain ⟨v,ic⟩:=I.cell x c (hcl x c e)
  exact ⟨v,cellK _ _ ic⟩
 ·show _=N'.length
  rw[List.length_append,List.length_replicate,I.len,hb1]
theorem zsV{pS:List (Addr×Obj)}{Y Y':L2.St}{H H':Hp}{s s':Shared}{N':List Str}{scope:Scope}{cl:List (Str×Addr)}{fp:List Addr}{L:Addr}{h':Heap}{ps:List (Addr×Obj)}(I:L2.Inv X pS Y H s)(hf:∀ b∈fp,zfj X pS H b)(hL:s.heap.objs.size<=L)
  (J:L2.Inv (zd8 X N' scope cl L s H fp) ps Y' H' s') (hs:Heap.SameBut L s'.heap h'):L2.Inv X pS Y H' { s' with heap:=h' }:=by
 have hne:∀ b o,s.heap.get? b=some o->b≠L:=fun b o e z=>by subst z;exact absurd (was (wai e) hL) (Nat.lt_irrefl _)
 have hfree:H' L=none:=J.free
 have un:Un (frs X.stack) fp H H' s.heap s'.heap:=J.base
 refine I.call' (s':={ s' with heap:=h' }) (ch:=fp) J.os ⟨fun b o e n h1 h2=>?_,fun b o e n h1 h2=>?_,un.free,fun b o e h2=>?_,un.tups,un.frzs,un.tbls⟩ (fun b o e=>?_) J.bare fun b hb=>⟨(hf b hb).2.2.2.1,(hf b hb).2.1,(hf b hb).2.2.2.2.1,(hf b hb).2.2.2.2.2⟩
 ·exact (hs.2 b (hne b o e)).trans (un.keep b o e n h1 h2)
 ·obtain ⟨sl,q⟩:=un.slot b o e n h1 h2
  exact ⟨sl,(hs.2 b (hne b o e)).trans q⟩
 ·obtain ⟨o',q⟩:=un.there b o e h2
  exact ⟨o',(hs.2 b (hne b o e)).trans q⟩
 ·refine (J.hok b o e).stay (fun c v hc q=>(hs.2 c ?_).trans q) (fun _ q=>q) fun _ _ q=>q
  intro z
  subst z
  rcases hc with z|z
  ·subst z;rw[hfree] at e;cases e
  ·rw[hfree] at z;cases z
end
def zb0(g:DG)(ft:DT)(fe:De):List Dt->Ev->R (List Dt×Ev)
 |[],Z=>.ok ([],Z)
 |d::r,Z=>(g d Z).bind fun Z1=>(ft Z1).bind fun t=>if t.1=true then (fe t.2).bind fun y=>(zb0 g ft fe r y.2).bind fun z=>.ok (y.1::z.1,z.2) else zb0 g ft fe r t.2
def za0(fi:DA)(g:DG)(ft:DT)(fe:De)(m:Nat):DN:=fun Z=>(fi Z).bind fun a=>if zdT a.1=true then match zb0 g ft fe a.1 (a.2++List.replicate m none) with
  |.ok z=>.ok (z.1,z.2.take a.2.length)
  |_=>.no
 else .no
theorem zgT{α β:Type}{r:R α}{f:α->R β}{b:β}(h:r.bind f=.ok b):∃ a,r=.ok a/\f a=.ok b:=by
 cases r with
 |ok a=>exact ⟨a,rfl,h⟩
 |er n=>cases h
 |no=>cases h
def JTs(X:Cx)(C:Cn)(ifs:List Expr)(ft:DT):Prop :=
 ∀(pS:List (Addr×Obj))(s:Shared)(Y:L2.St)(H:Hp)(Q:Bool->Hp->Prop),L2.Inv X pS Y H s->tT X.K C ft Y H Q ->
  wpAny (model X.prog X.w) X.A (forIn ifs true fun c r=>if r=true then do let ok <- isTrue c X.env (eval c X.env);pure (ForInStep.yield ok) else pure (ForInStep.yield r)) (TP X pS Y Q) X.xe s
def dTT:DT:=fun Z=>.ok (true,Z)
abbrev Hce(scope:Scope):Prop:=∀ y∈scope.names,y.2≠.cell
abbrev Hfr(X:Cx)(scope:Scope):Prop:=∀ y∈scope.names,y.2=.free->X.env.kindOf y.1=some .cell\/X.env.kindOf y.1=some .free
abbrev Hnm(scope:Scope):Prop:=∀ y∈scope.names,y.2=.local->scope.names.lookup y.1=some .local
abbrev Hbk(X:Cx)(C:Cn)(N':List Str)(scope:Scope)(tg:Expr)(ifs:List Expr)(elt:Expr)(g:DG)(ft:DT)(fe:De):Prop:=∀ cl L s H fp G H' w Y,JG (zd8 X N' scope cl L s H fp) (znU C X.N.length G H' w Y) tg g/\JTs (zd8 X N' scope cl L s H fp) (znU C X.N.length G H' w Y) ifs ft/\JE (zd8 X N' scope cl L s H fp) (znU C X.N.length G H' w Y) elt fe
abbrev nL(s2:Shared):Heap:=s2.heap.push { cls:=.type "list",dict:=none,data:=.seq ([]:List Value).toArray }
def PTs(X:Cx)(ifs:List Expr)(t:TT):Prop :=
 ∀(pS:List (Addr×Obj))(s:Shared)(Y:L2.St)(H:Hp)(Q:Bool->Hp->Prop),L2.Inv X pS Y H s->t Y H Q ->
  wpAny (model X.prog X.w) X.A (forIn ifs true fun c r=>if r=true then do let ok <- isTrue c X.env (eval c X.env);pure (ForInStep.yield ok) else pure (ForInStep.yield r)) (TP X pS Y Q) X.xe s
section
variable{X:Cx}{C:Cn}
theorem zbZ:JTs X C [] dTT:=fun pS s Y H Q I ⟨G,w,Z,r,p⟩=>wpAny_tests_nil ⟨H,I,p G H w (.refl _ _ _) r⟩
theorem zgq{c:Expr}{ft:DT}(h:JT X C c ft):JTs X C [c] ft:=fun pS s Y H Q I t=>wpAny_tests_one (h pS s Y H Q I t)
theorem Rel.upd_new{K:W.Frag}{Y:L2.St}{G H:Hp}{w:Wn}{Z:Ev}{p:Addr}{o:HO}(r:Rel K C G w Z Y H)(hg:G p=none)(hw:w p=none)(h0:C.H₀ p=none):Rel K C G w Z Y (upd H p o):=by
 refine ⟨fun b u e=>?_,r.wg,fun b e=>?_,r.len,fun i b e=>?_,⟨r.en.g,r.en.fr,fun b u e z=>?_,r.en.w,fun b e=>?_⟩,r.pin⟩
 ·rw[zah (zak e hg)];exact r.gh b u e
 ·by_cases hb:b=p
  ·subst hb;rw[zan];simp
  ·rw[zah hb];exact r.wh b e
 ·obtain ⟨v,h1,h2⟩:=r.sl i b e
  refine ⟨v,h1,h2.grow (.refl _) fun a u e1 e2=>⟨?_,e1⟩⟩
  have:a≠p:=fun z=>by subst z;rw[hw] at e1;cases e1
  rw[zah this];exact e2
 ·rw[zah (zak e h0)];exact r.en.h b u e z
 ·by_cases hb:b=p
  ·subst hb;exact h0
  ·rw[zah hb] at e;exact r.en.k b e
theorem zbv.keep{G H G' H':Hp}{w w':Wn}{p:Addr}{o:HO}(s:zbv G H w G' H' w')(hg:G p=none)(hw:w p=none)(hp:H p=some o):G' p=none/\w' p=none/\H' p=some o:=by
 refine ⟨?_,?_,s.h p o hp hw⟩
 ·cases q:G' p with
  |none=>rfl
  |some u =>
   rcases s.fr p u q with z|z|z
   ·exact absurd hg z
   ·rw[hp] at z;cases z
   ·exact absurd hw z
 ·cases q:w' p with
  |none=>rfl
  |some k =>
   rcases s.w p (by rw[q];simp) with z|z
   ·exact absurd hw z
   ·rw[hp] at z;cases z
structure zqu(X:Cx)(pS:List (Addr×Obj))(H:Hp)(L:Addr)(s:Shared):Prop where
 fr:H L=none
 nl:L≠X.env.locals
 nw:L∈X.ex\/X.s₀.heap.objs.size<=L
 nc:∀ x c,X.env.cells.lookup x=some c->c≠L
 np:∀ p∈X.pn++pS,p.1≠L
 ns:∃ m,s.heap.Ns L m
theorem zqa{tg iter elt:Expr}{ifs:List Expr}{scope:Scope}{pos:Pos}{N':List Str}{m n:Nat}{tgt:TG}{tts:TT}{te:TE}(hc:X.calm=true)(hb:zgL X.N N' scope.names m=true)
  (hkind:scope.kind=.function) (hcell:Hce scope) (hfr:Hfr X scope)
  {pS:List (Addr×Obj)} {Y:L2.St} {s2:Shared} {cl:List (Str×Addr)} {RR:Value->Addr->Result->Shared->Prop} {E:Value->Shared->Prop}
  (hblk:∀ L s H fp,L2.Inv X pS Y H s->(∀ b∈fp,zfj X pS H b)->s.heap.objs.size<=L->PG (zd8 X N' scope cl L s H fp) tg tgt/\PTs (zd8 X N' scope cl L s H fp) ifs tts/\PE (zd8 X N' scope cl L s H fp) elt te)
  (hcl:∀ x c,cl.lookup x=some c->X.env.cells.lookup x=some c) (hcf:∀ y∈scope.names,y.2=.free->∃ c,cl.lookup y.1=some c)
  {it:Addr} {fp:List Addr} {tn:Nat->Heap->Prop} {J:It} {H2:Hp} (I2:L2.Inv X pS Y H2 s2) (T:zoO X.prog X.w X.K tg J fp it tn) (st2:tn 0 s2.heap) (f2:∀ b∈fp,zfj X pS H2 b)
  (W:Addr->Nat->L2.St->Hp->List V->Prop) (w0:∀ D,H2 D=none->W D 0 (Y++List.replicate m none) (upd H2 D (.lst [])) [])
  (hstep:∀ D i Y' H' vs,H2 D=none->W D i Y' H' vs->H' D=some (.lst vs)->i<n->J.go i H'/\∀ x H7,J.yld i H' x H7->tgt x Y' H7 fun Y8 H8=>tts Y8 H8 fun b H9=>if b=true then te Y8 H9 fun v H10=>H10 D=some (.lst vs)/\vs.length<sizeLine/\W D (i+1) Y8 (upd H10 D (.lst (vs++[v]))) (vs++[v]) else H9 D=some (.lst vs)/\W D (i+1) Y8 H9 vs)
  (hstop:∀ D Y' H' vs,W D n Y' H' vs->J.stop n H')
  (fin:∀(D L:Addr)(s':Shared)(vs:List V)(Y':L2.St)(H':Hp),L2.Inv X pS Y H' s'->zqu X pS H' L s'->H2 D=none->H' D=some (.lst vs)->Y'.length=X.N.length+m->W D n Y' H' vs->RR (.ref D) L (.ok .next) s') :
  wpAny (model X.prog X.w) X.A (newList []) (fun acc s₃=>wpAny (model X.prog X.w) X.A (newFunctionEnv scope X.env.globals cl [] X.env.qual none .none (some X.env)) (fun cenv s₄ =>
   codeAny (model X.prog X.w) X.A (.compStart (.ListComp elt [⟨tg,iter,ifs,0⟩] scope pos) 0 (.ref it) acc { cenv with scope:=relabel scope X.env }) (RR acc cenv.locals) s₄) E s₃) E s2:=by
 have hD:H2 s2.heap.objs.size=none:=I2.hok.fresh (wal _)
 refine wpAny_newObj_type (wpAny_newFunctionEnv hcell (by intro y hy;simp at hy) (fun h₁ hns₁ hsb₁=>?_) hkind)
 dsimp only at hns₁ hsb₁ ⊢
 have I3:L2.Inv X pS Y (upd H2 s2.heap.objs.size (.lst [])) { s2 with heap:=nL s2 } :=
  I2.laid (t':=s2.toks) (fun b u e=>waa _ e) (wal _) ⟨Nat.zero_le _,[],0,.nil,waj _ rfl⟩
 have hob:∀ b∈fp,∃ o,s2.heap.get? b=some o:=fun b hb=>let ⟨o,e,_⟩:=T.obj 0 _ st2 b hb;⟨o,e⟩
 have hbD:∀ b∈fp,b≠s2.heap.objs.size:=fun b hb z=>by obtain ⟨o,e⟩:=hob b hb;exact absurd (wai e) (by rw[z];exact Nat.lt_irrefl _)
 have f3:∀ b∈fp,zfj X pS (upd H2 s2.heap.objs.size (.lst [])) b:=fun b hb=>⟨by rw[zah (hbD b hb)];exact (f2 b hb).1,(f2 b hb).2⟩
 have hk3:∀ b o,(nL s2).get? b=some o->h₁.get? b=some o:=fun b o e =>
  (hsb₁.2 b (Nat.ne_of_lt (wai e))).trans (waa _ e)
 have J4:=zoV (N':=N') (scope:=scope) (cl:=cl) (m:=m) (fp:=fp) (tk:=s2.toks+([]:List (Str×Value)).length) I3 f3 (fun b hb=>by obtain ⟨o,e⟩:=hob b hb;exact ⟨o,waa _ e⟩) hb hkind hcell hfr hcl hcf hns₁ hk3
 have st4:tn 0 h₁:=T.keep _ _ _ st2 fun b hb o e=>hk3 b o (waa _ e)
 generalize hX':zd8 X N' scope cl (nL s2).objs.size { s2 with heap:=nL s2 } (upd H2 s2.heap.objs.size (.lst [])) fp=X' at J4
 have eP:X'.prog=X.prog:=by rw[<- hX'];rfl
 have eW:X'.w=X.w:=by rw[<- hX'];rfl
 have eK:X'.K=X.K:=by rw[<- hX'];rfl
 have eA:X'.A=X.A:=by rw[<- hX'];rfl
 have eC:X'.calm=true:=by rw[<- hX'];exact hc
 have eE:X'.xe=fun _ _=>False:=by rw[<- hX'];rfl
 have ePn:X'.pn=[]:=by rw[<- hX'];rfl
 have eN:X'.N.length=X.N.length+m:=by
  rw[<- hX'];show N'.length=_
  unfold zgL at hb;rw[Bool.and_eq_true] at hb;exact of_decide_eq_true hb.1
 have eEx:X'.ex=fp:=by rw[<- hX'];rfl
 have hlenσ:Y.length=X.N.length:=I2.len
 obtain ⟨hg,hts,he⟩:=hblk (nL s2).objs.size { s2 with heap:=nL s2 } (upd H2 s2.heap.objs.size (.lst [])) fp I3 f3 (wal _)
 rw[hX'] at hg hts he
 have stat:∀{H':Hp},(∀ b∈fp,H' b=none)->∀ b∈fp,zfj X' [] H' b:=fun hn b hb=>by
  have q:=J4.ok.exf b (by rw[eEx];exact hb)
  exact ⟨hn b hb,q.1,J4.ok.exfs b (by rw[eEx];exact hb),.inl (by rw[eEx];exact hb),q.2,fun p hp=>by rw[ePn] at hp;simp at hp⟩
 have loop:∀ s₃:Shared,s₃={ s2 with heap:=h₁,toks:=s2.toks+([]:List (Str×Value)).length } ->
   codeAny (model X.prog X.w) X.A (.compLoop (.ListComp elt [⟨tg,iter,ifs,0⟩] scope pos) 0 (.ref it) (.ref s2.heap.objs.size) X'.env) (RR (.ref s2.heap.objs.size) (nL s2).objs.size) s₃:=by
  rintro s₃ rfl
  refine zka (fun k s'=>∃ i Y' H' vs,L2.Inv X' [] Y' H' s'/\tn i s'.heap/\(∀ b∈fp,H' b=none)/\k=n-i/\i<=n/\H' s2.heap.objs.size=some (.lst vs)/\W s2.heap.objs.size i Y' H' vs) ?_ n
   ⟨0,Y++List.replicate m none,_,[],J4,st4,fun b hb=>(f3 b hb).1,xws,Nat.zero_le _,zan,w0 _ hD⟩
  rintro k s' ⟨i,Y',H',vs,J5,st5,fr5,rfl,hil,hd5,q5⟩
  by_cases hlt:i<n
  ·obtain ⟨go,yl⟩:=hstep _ i Y' H' vs hD q5 hd5 hlt
   have hIt:=T.item X' eP eW eK eC i [] s' Y' H' (fun _ _=>False) J5 (stat fr5) st5 go
   rw[eA] at hIt
   refine thn hIt fun rr s6 ⟨u,hr,h6⟩=>?_
   subst hr
   refine thn h6 fun _ s7 ⟨x,H7,J7,rx7,y7,st7,fr7⟩=>?_
   have q7:=yl x H7 y7
   have J7':=J7.pinned (stat fr7) (T.obj _ _ st7)
   have hG:=hg ([]++zfF fp s7.heap) s7 Y' H7 x u _ J7' rx7 q7
   rw[eP,eW,eA,eE] at hG
   refine thn hG fun _ s8 ⟨Y8,H8,J8,q8⟩=>?_
   have hT:=hts ([]++zfF fp s7.heap) s8 Y8 H8 _ J8 q8
   rw[eP,eW,eA,eE] at hT
   refine thn hT fun ok s9 ⟨H9,J9,q9⟩=>?_
   have after:∀{σa:L2.St}{Ha:Hp}{sa:Shared},L2.Inv X' ([]++zfF fp s7.heap) σa Ha sa->tn (i+1) sa.heap/\∀ b∈fp,Ha b=none:=fun {σa Ha sa} Ja =>
    ⟨T.keep _ _ _ st7 fun b hb o e=>(Ja.pin (b,o) (waA _ (waA _ (zey hb e)))).1,fun b hb=>by
     obtain ⟨o,e,_⟩:=T.obj _ _ st7 b hb
     exact (Ja.pin (b,o) (waA _ (waA _ (zey hb e)))).2.1⟩
   cases ok with
   |false =>
    rw[if_neg Bool.false_ne_true]
    rw[if_neg Bool.false_ne_true] at q9
    obtain ⟨k1,k2⟩:=after J9
    exact ⟨n-(i+1),xwo,i+1,Y8,H9,vs,J9.unpinned,k1,k2,rfl,hlt,q9.1,q9.2⟩
   |true =>
    rw[if_pos rfl]
    rw[if_pos rfl] at q9
    have hEl:=he ([]++zfF fp s7.heap) s9 Y8 H9 _ J9 q9
    rw[eP,eW,eA,eE] at hEl
    refine thn hEl fun xv s10 ⟨vy,H10,J10,ry,q10⟩=>?_
    have hAp:=zjJ (X:=X') ([]++zfF fp s7.heap) s10 Y8 H10 (.ref s2.heap.objs.size) [vy] (.ref s2.heap.objs.size) [xv] (fun v H11=>H11=upd H10 s2.heap.objs.size (.lst (vs++[vy]))) J10 rfl (.cons ry .nil)
     ⟨s2.heap.objs.size,vs,vy,rfl,rfl,q10.1,q10.2.1,rfl⟩
    rw[eP,eW,eA,eE] at hAp
    refine thn hAp fun _ s11 ⟨v11,H11,J11,_,e11⟩=>?_
    subst e11
    obtain ⟨k1,k2⟩:=after J11
    exact ⟨n-(i+1),xwo,i+1,Y8,_,vs++[vy],J11.unpinned,k1,k2,rfl,hlt,zan,q10.2.2⟩
  ·have e:i=n:=by omega
   subst e
   have hDn:=T.done X' eP eW eK eC i [] s' Y' H' (fun _ _=>False) J5 (stat fr5) st5 (hstop _ _ _ _ q5)
   rw[eA] at hDn
   refine thn hDn fun rr s6 ⟨hr,J6⟩=>?_
   subst hr
   have hl6:Y'.length=X.N.length+m:=by rw[J6.len,eN]
   obtain ⟨m6,hn6,_⟩:=id J6.loc
   have eL:X'.env.locals=(nL s2).objs.size:=by rw[<- hX'];rfl
   rw[eL] at hn6
   have frL:H' (nL s2).objs.size=none:=by rw[<- eL];exact J6.free
   rw[<- hX'] at J6
   have IX:L2.Inv X pS Y H' s6:=zsV (h':=s6.heap) I3 f3 (wal _) J6 ⟨rfl,fun _ _=>rfl⟩
   have hLs:∀ b o,(nL s2).get? b=some o->(nL s2).objs.size≠b:=fun b o e z=>absurd (wai e) (by rw[z];exact Nat.lt_irrefl _)
   have lo:zqu X pS H' (nL s2).objs.size s6:=by
    refine ⟨frL,fun z=>?_,.inr I3.sz,fun x c e z=>?_,fun p hp z=>?_,m6,hn6⟩
    ·exact absurd I3.lt (by rw[<- z];exact Nat.lt_irrefl _)
    ·obtain ⟨v,q⟩:=I3.cell x c e
     exact absurd q.lt (by rw[z];exact Nat.lt_irrefl _)
    ·exact hLs p.1 p.2 (I3.pin p hp).1 z.symm
   exact fin _ _ s6 vs Y' H' IX lo hD hd5 hl6 q5
 have envEq:X'.env=compEnvC scope cl (nL s2).objs.size X.env:=by rw[<- hX'];rfl
 rw[envEq] at loop
 exact codeAny_compStart_list (loop _ rfl) (T.self X.A 0 _ _ _ st4 (loop _ rfl))
theorem zqc{tg iter elt:Expr}{ifs:List Expr}{scope:Scope}{pos:Pos}{N':List Str}{m:Nat}{g:DG}{ft:DT}{fe:De}(hc:X.calm=true)(hb:zgL X.N N' scope.names m=true)
  (hkind:scope.kind=.function) (hcell:Hce scope) (hfr:Hfr X scope)
  (hblk:Hbk X C N' scope tg ifs elt g ft fe)
  {pS:List (Addr×Obj)} {Y:L2.St} {s2:Shared} {cl:List (Str×Addr)} {RR:Value->Addr->Result->Shared->Prop} {E:Value->Shared->Prop}
  (hcl:∀ x c,cl.lookup x=some c->X.env.cells.lookup x=some c) (hcf:∀ y∈scope.names,y.2=.free->∃ c,cl.lookup y.1=some c)
  {it:Addr} {fp:List Addr} {tn:Nat->Heap->Prop} {J:It} {H2:Hp} (I2:L2.Inv X pS Y H2 s2) (T:zoO X.prog X.w X.K tg J fp it tn) (st2:tn 0 s2.heap) (f2:∀ b∈fp,zfj X pS H2 b)
  {ds zs:List Dt} {Z1 ρf:Ev} {G1:Hp} {w1:Wn} (r1:Rel X.K C G1 w1 Z1 Y H2) (Ko:Ev->Prop) (k0:Ko (Z1++List.replicate m none)) (hko:∀ d Z Z3 b Z4,Ko Z->g d Z=.ok Z3->ft Z3=.ok (b,Z4)->Ko Z4/\∀ y Z5,fe Z4=.ok (y,Z5)->Ko Z5)
  (it1:∀ i Z' G' w' Y' H',Rel X.K (znU C X.N.length G1 H2 w1 (Y++List.replicate m none)) G' w' Z' Y' H'->Ko Z'->(∀ d,ds[i]? = some d->J.go i H'/\∀ x H7,J.yld i H' x H7->∃ G7,zdU G' H' G7 H7/\Rep X.K G7 d x)/\(ds.length<=i->J.stop i H')) (hfi:zdT ds=true) (ec:zb0 g ft fe ds (Z1++List.replicate m none)=.ok (zs,ρf))
  (fin:∀(D L:Addr)(s':Shared)(vs:List V)(G' H':Hp)(w':Wn),L2.Inv X pS Y H' s'->zqu X pS H' L s'->zbv G1 H2 w1 G' H' w'->Rel X.K C G' w' (ρf.take Z1.length) Y H'->H2 D=none->H' D=some (.lst vs)->G' D=none->w' D=none->za1 X.K G' zs vs->RR (.ref D) L (.ok .next) s') :
  wpAny (model X.prog X.w) X.A (newList []) (fun acc s₃=>wpAny (model X.prog X.w) X.A (newFunctionEnv scope X.env.globals cl [] X.env.qual none .none (some X.env)) (fun cenv s₄ =>
   codeAny (model X.prog X.w) X.A (.compStart (.ListComp elt [⟨tg,iter,ifs,0⟩] scope pos) 0 (.ref it) acc { cenv with scope:=relabel scope X.env }) (RR acc cenv.locals) s₄) E s₃) E s2:=by
 generalize hC':znU C X.N.length G1 H2 w1 (Y++List.replicate m none)=C' at it1
 have c0:C'.H₀=H2:=by rw[<- hC'];rfl
 have hlenσ:Y.length=X.N.length:=I2.len
 refine zqa (iter:=iter) (pos:=pos) (n:=ds.length) (tgt:=tG X.K C' g) (tts:=tT X.K C' ft) (te:=tE X.K C' fe) hc hb hkind hcell hfr (fun L s H fp _ _ _=>by
  obtain ⟨a1,a2,a3⟩:=hblk cl L s H fp G1 H2 w1 (Y++List.replicate m none)
  rw[hC'] at a1 a2 a3
  exact ⟨a1,a2,a3⟩) hcl hcf I2 T st2 f2
  (fun D i Y' H' vs=>∃ Z' G' w' ac,Rel X.K C' G' w' Z' Y' H'/\G' D=none/\w' D=none/\za1 X.K G' ac vs/\ac.length<=i/\Ko Z'/\∃ z,zb0 g ft fe (ds.drop i) Z'=.ok z/\ac++z.1=zs/\z.2 = ρf) (fun D hD=>?_) (fun D i Y' H' vs hD ⟨Z',G',w',ac,r5,gd5,wd5,q5,hac,ko,z,ez,ez1,ez2⟩ hd5 hlt=>?_) (fun D Y' H' vs ⟨Z',G',w',ac,r5,_,_,_,_,ko,_⟩=>(it1 _ _ _ _ _ _ r5 ko).2 (wal _)) fun D L s' vs Y' H' IX lo hD hd5 hl6 ⟨Z',G',w',ac,r5,gd5,wd5,q5,hac,_,z,ez,ez1,ez2⟩=>?_
 ·have w0:w1 D=none:=by
   cases q:w1 D with
   |none=>rfl
   |some k=>exact absurd hD (r1.wh _ (by rw[q];simp))
  have base:Rel X.K C' G1 w1 (Z1++List.replicate m none) (Y++List.replicate m none) H2:=by
   refine ⟨r1.gh,r1.wg,r1.wh,by simp[r1.len],fun i b e=>?_,by rw[<- hC'];exact .refl _ _ _,fun i _=>by rw[<- hC'];rfl⟩
   have hi':i < Z1.length:=by
    by_cases hi':i < Z1.length
    ·exact hi'
    ·rw[List.getElem?_append_right xwo,List.getElem?_replicate] at e
     split at e <;> cases e
   rw[List.getElem?_append_left hi'] at e
   obtain ⟨v,h1,h2⟩:=r1.sl i b e
   exact ⟨v,by rw[List.getElem?_append_left (by rw[<- r1.len];exact hi')];exact h1,h2⟩
  exact ⟨Z1++List.replicate m none,G1,w1,[],base.upd_new (r1.gh.free hD) w0 (by rw[c0];exact hD),r1.gh.free hD,w0,za1.nil,Nat.zero_le _,k0,(zs,ρf),by simpa using ec,xws,rfl⟩
 ·have ed:ds.drop i=ds[i]::ds.drop (i+1):=List.drop_eq_getElem_cons hlt
  obtain ⟨go,yl⟩:=(it1 i _ _ _ _ _ r5 ko).1 ds[i] (by simp[hlt])
  refine ⟨go,fun x H7 y7=>?_⟩
  obtain ⟨G7,gr,rep7⟩:=yl x H7 y7
  have keep7:=(gr.step (w:=w')).keep gd5 wd5 hd5
  rw[ed] at ez
  unfold zb0 at ez
  obtain ⟨Z3,e3,ez⟩:=zgT ez
  obtain ⟨t4,e4,ez⟩:=zgT ez
  obtain ⟨b4,Z4⟩:=t4
  obtain ⟨ko4,ko5⟩:=hko _ _ _ _ _ ko e3 e4
  refine ⟨G7,w',Z',ds[i],r5.grow gr,rep7,?_⟩
  rw[e3]
  intro Y8 G8 H8 w8 s8s r8
  have keep8:=s8s.keep keep7.1 keep7.2.1 keep7.2.2
  refine ⟨G8,w8,Z3,r8,?_⟩
  rw[e4]
  intro G9 H9 w9 s9s r9
  have keep9:=s9s.keep keep8.1 keep8.2.1 keep8.2.2
  have sg9:=(gr.g.trans s8s.g).trans s9s.g
  cases b4 with
  |false =>
   show (if false=true then _ else _)
   rw[if_neg Bool.false_ne_true]
   simp only[Bool.false_eq_true,if_false] at ez
   exact ⟨keep9.2.2,Z4,G9,w9,ac,r9,keep9.1,keep9.2.1,q5.same sg9,xwo,ko4,z,ez,ez1,ez2⟩
  |true =>
   show (if true=true then _ else _)
   rw[if_pos rfl]
   simp only[if_true] at ez
   obtain ⟨⟨yd,Z10⟩,e10,ez⟩:=zgT ez
   obtain ⟨z',ez',ez3⟩:=zgT ez
   refine ⟨G9,w9,Z4,r9,?_⟩
   rw[e10]
   intro v G10 H10 w10 s10s r10 q10
   have keep10:=s10s.keep keep9.1 keep9.2.1 keep9.2.2
   cases ez3
   refine ⟨keep10.2.2,?_,Z10,G10,w10,ac++[yd],r10.upd_new keep10.1 keep10.2.1 (by rw[c0];exact hD),keep10.1,keep10.2.1,(q5.same (sg9.trans s10s.g)).append (za1.cons q10 za1.nil),by simp;omega,ko5 _ _ e10,z',ez',by rw[<- ez1];simp,ez2⟩
   have:=q5.length
   have:=ziL hfi
   omega
 ·simp only[List.drop_length] at ez
  unfold zb0 at ez
  cases ez
  simp only[List.append_nil] at ez1
  subst ez1
  subst ez2
  have cG:C'.G₀=G1:=by rw[<- hC'];rfl
  have cw:C'.w₀=w1:=by rw[<- hC'];rfl
  have en':zbv G1 H2 w1 G' H' w':=by have:=r5.en;rw[cG,c0,cw] at this;exact this
  have hρlen:Z'.length=X.N.length+m:=by rw[r5.len,hl6]
  refine fin _ _ s' vs G' H' w' IX lo en' ⟨r5.gh,r5.wg,r5.wh,?_,fun i b e=>?_,r1.en.trans en',r1.pin⟩ hD hd5 gd5 wd5 q5
  ·rw[List.length_take,hρlen,r1.len,hlenσ];omega
  ·have hi':i < Z1.length:=by
    by_cases hi':i < Z1.length
    ·exact hi'
    ·rw[List.getElem?_eq_none (by rw[List.length_take];omega)] at e;cases e
   rw[List.getElem?_take_of_lt hi'] at e
   obtain ⟨v,h1,h2⟩:=r5.sl i b e
   refine ⟨v,?_,h2⟩
   have hpi:=r5.pin i (by rw[<- hC'];exact List.mem_range.mpr (by rw[<- hlenσ,<- r1.len];exact hi'))
   rw[h1] at hpi
   rw[<- hC'] at hpi
   have hpi':some (some v)=(Y++List.replicate m none)[i]? := hpi
   rw[List.getElem?_append_left (by rw[<- r1.len];exact hi')] at hpi'
   exact hpi'.symm
theorem zj9{tg iter elt:Expr}{ifs:List Expr}{scope:Scope}{pos:Pos}{N':List Str}{m:Nat}{g:DG}{ft:DT}{fe:De}(hc:X.calm=true)(hb:zgL X.N N' scope.names m=true)
  (hkind:scope.kind=.function) (hcell:Hce scope) (hfr:Hfr X scope)
  (hblk:Hbk X C N' scope tg ifs elt g ft fe)
  {pS:List (Addr×Obj)} {Y:L2.St} {s2:Shared} {cl:List (Str×Addr)} {RR:Value->Addr->Result->Shared->Prop} {E:Value->Shared->Prop}
  (hcl:∀ x c,cl.lookup x=some c->X.env.cells.lookup x=some c) (hcf:∀ y∈scope.names,y.2=.free->∃ c,cl.lookup y.1=some c)
  {it:Addr} {fp:List Addr} {tn:Nat->Heap->Prop} {J:It} {H2:Hp} (I2:L2.Inv X pS Y H2 s2) (T:zoO X.prog X.w X.K tg J fp it tn) (st2:tn 0 s2.heap) (f2:∀ b∈fp,zfj X pS H2 b)
  {ds zs:List Dt} {Z1 ρf:Ev} {G1:Hp} {w1:Wn} (r1:Rel X.K C G1 w1 Z1 Y H2) (it1:znm X.K J G1 ds) (hfi:zdT ds=true) (ec:zb0 g ft fe ds (Z1++List.replicate m none)=.ok (zs,ρf))
  (fin:∀(D L:Addr)(s':Shared)(vs:List V)(G' H':Hp)(w':Wn),L2.Inv X pS Y H' s'->zqu X pS H' L s'->zbv G1 H2 w1 G' H' w'->Rel X.K C G' w' (ρf.take Z1.length) Y H'->H2 D=none->H' D=some (.lst vs)->G' D=none->w' D=none->za1 X.K G' zs vs->RR (.ref D) L (.ok .next) s') :
  wpAny (model X.prog X.w) X.A (newList []) (fun acc s₃=>wpAny (model X.prog X.w) X.A (newFunctionEnv scope X.env.globals cl [] X.env.qual none .none (some X.env)) (fun cenv s₄ =>
   codeAny (model X.prog X.w) X.A (.compStart (.ListComp elt [⟨tg,iter,ifs,0⟩] scope pos) 0 (.ref it) acc { cenv with scope:=relabel scope X.env }) (RR acc cenv.locals) s₄) E s₃) E s2 :=
 zqc hc hb hkind hcell hfr hblk hcl hcf I2 T st2 f2 r1 (fun _=>True) trivial (fun _ _ _ _ _ _ _ _=>⟨trivial,fun _ _ _=>trivial⟩) (fun i Z' G' w' Y' H' r _=>it1 i G' H' r.en.g r.gh) hfi ec fin
theorem zcb{tg iter elt:Expr}{ifs:List Expr}{scope:Scope}{pos:Pos}{N':List Str}{m:Nat}{fi:DA}{g:DG}{ft:DT}{fe:De}(hi:JI X C tg iter fi)(hc:X.calm=true)(hb:zgL X.N N' scope.names m=true)
  (hkind:scope.kind=.function) (hcell:Hce scope) (hfr:Hfr X scope) (hnames:Hnm scope)
  (hblk:Hbk X C N' scope tg ifs elt g ft fe)
  (hs:∀ x,foldedSetIterable iter X.env x=pure x:=by intro _;rfl):JN X C (.ListComp elt [⟨tg,iter,ifs,0⟩] scope pos) (za0 fi g ft fe m):=by
 intro pS s Y H Q I ⟨G,w,Z,r,p⟩
 rw[eval_ListComp]
 obtain ⟨cl,hclos,hcl,hcf⟩:=zgr (scope:=scope) (env:=X.env) fun y hy hf=>I.ok.has y.1 (hfr y hy hf)
 refine wpAny_comprehension_free (use:=none) rfl hs hclos hkind hnames ?_
 refine thn (hi pS s Y H (fun J H2=>∃ ds Z1 G1 w1 zs ρf,Rel X.K C G1 w1 Z1 Y H2/\znm X.K J G1 ds/\zdT ds=true/\zb0 g ft fe ds (Z1++List.replicate m none)=.ok (zs,ρf)/\kN X.K C Y Q G1 H2 w1 (zs,ρf.take Z1.length)) I ?_) fun v s1 h1=>thn h1 fun itv s2 h2=>?_
 ·refine zvv (κ:=fun G H w=>kN X.K C Y Q G H w) zhc r p fun ds Z1 J G1 H1 w1 r1 st1 it1 p1=>?_
  dsimp only at p1
  split at p1
  ·rename_i hfi
   split at p1
   ·rename_i z ez
    exact ⟨ds,Z1,G1,w1,z.1,z.2,r1,it1,hfi,ez,p1⟩
   ·exact p1.elim
  ·exact p1.elim
 obtain ⟨it,fp,tn,J,H2,rfl,I2,T,st2,f2,ds,Z1,G1,w1,zs,ρf,r1,it1,hfi,ec,kk⟩:=h2
 refine zj9 (RR:=fun acc C=>compPost (model X.prog X.w) X.A X.xe none (EP X pS Y Q) acc C) hc hb hkind hcell hfr hblk hcl hcf I2 T st2 f2 r1 it1 hfi ec fun D L s' vs G' H' w' I' lo st rel h0 h1 h2 h3 q=>?_
 obtain ⟨mm,hn⟩:=lo.ns
 refine ⟨mm,hn,fun h' hsb=>⟨.ref D,H',?_,rfl,kk D vs G' H' w' st rel h0 h1 h2 h3 q⟩⟩
 exact I'.turned (t':=s'.toks) (fun b o hb e=>(hsb.2 b hb).trans e) lo.fr lo.nl lo.nw lo.nc lo.np
theorem zlX{tg iter elt:Expr}{ifs:List Expr}{scope:Scope}{pos spos:Pos}{N':List Str}{m i:Nat}{x:Str}{px:Pos}{fi:DA}{g:DG}{ft:DT}{fe:De}{fs:List Dt×Ev->R (Fl×Ev)}(hi:JI X C tg iter fi)(hc:X.calm=true)(hb:zgL X.N N' scope.names m=true)
  (hkind:scope.kind=.function) (hcell:Hce scope) (hfr:Hfr X scope) (hnames:Hnm scope)
  (hblk:Hbk X C N' scope tg ifs elt g ft fe)
  (hN:X.N.Nodup) (hix:X.N[i]? = some x) (hx:Loc X.env.scope x) (hsw:swapsWith (.ListComp elt [⟨tg,iter,ifs,0⟩] scope pos) (some (.Name x px)) spos.line X.env=pure true) (hf:X.fn x=true\/X.env.scope.names.lookup x=some .local)
  (hfs:∀(D:zrv)(G1 H2 G' H':Hp)(w1 w':Wn)(Y:L2.St)(p:Addr)(zs:List Dt)(vs:List V)(ρf:Ev),zcp C.ex (kS X.K C D G1 H2 w1) (fs (zs,ρf))->zbv G1 H2 w1 G' H' w'->Rel X.K C G' w' ρf Y H'->H2 p=none->H' p=some (.lst vs)->G' p=none->w' p=none->za1 X.K G' zs vs->C.H₀ p=none->D.nx (Y.set i (some (.ref p))) H')
  (hs:∀ x,foldedSetIterable iter X.env x=pure x:=by intro _;rfl):JS X C (.Assign [.Name x px] (.ListComp elt [⟨tg,iter,ifs,0⟩] scope pos) spos) (fun Z=>(za0 fi g ft fe m Z).bind fs):=by
 intro pS s Y H D I ⟨G,w,Z,r,p⟩
 obtain ⟨cl,hclos,hcl,hcf⟩:=zgr (scope:=scope) (env:=X.env) fun y hy hf=>I.ok.has y.1 (hfr y hy hf)
 rw[exec_Assign_Name_used _ _ _ _ hsw]
 refine wab (wpAny_standAt (wab ?_))
 show wpAny _ X.A (do let _ <- comprehension (.ListComp elt [⟨tg,iter,ifs,0⟩] scope pos) scope X.env _ (newList []) false (eval iter X.env) (some (assign (.Name x px) X.env))) _ _ s
 refine wab (wpAny_mono (wpAny_comprehension_free (use:=some (assign (.Name x px) X.env)) (Q:=fun _ s'=>SP X pS D .next s') rfl hs hclos hkind hnames ?_) (fun _ s' hq=>wad (wad hq)) fun _ _ e=>e)
 refine thn (hi pS s Y H (fun J H2=>∃ ds Z1 G1 w1 zs ρf,Rel X.K C G1 w1 Z1 Y H2/\znm X.K J G1 ds/\zdT ds=true/\zb0 g ft fe ds (Z1++List.replicate m none)=.ok (zs,ρf)/\zcp C.ex (kS X.K C D G1 H2 w1) (fs (zs,ρf.take Z1.length))) I ?_) fun v s1 h1=>thn h1 fun itv s2 h2=>?_
 ·have p':zcp C.ex (kS X.K C D G H w) ((fi Z).bind fun a=>((if zdT a.1=true then match zb0 g ft fe a.1 (a.2++List.replicate m none) with
   |.ok z=>.ok (z.1,z.2.take a.2.length)
   |_=>.no
   else .no:R (List Dt×Ev))).bind fs):=by
   rw[<- R.bind_assoc]
   exact p
  refine zvv (κ:=fun G H w=>kS X.K C D G H w) zdA r p' fun ds Z1 J G1 H1 w1 r1 st1 it1 p1=>?_
  dsimp only at p1
  split at p1
  ·rename_i hfi
   split at p1
   ·rename_i z ez
    exact ⟨ds,Z1,G1,w1,z.1,z.2,r1,it1,hfi,ez,p1⟩
   ·exact False.elim p1
  ·exact False.elim p1
 obtain ⟨it,fp,tn,J,H2,rfl,I2,T,st2,f2,ds,Z1,G1,w1,zs,ρf,r1,it1,hfi,ec,kk⟩:=h2
 refine zj9 (RR:=fun acc C=>compPost (model X.prog X.w) X.A X.xe (some (assign (.Name x px) X.env)) (fun _ s'=>SP X pS D .next s') acc C) hc hb hkind hcell hfr hblk hcl hcf I2 T st2 f2 r1 it1 hfi ec fun Da L s' vs G' H' w' I' lo st rel h0 h1 h2 h3 q=>?_
 show wpAny _ X.A (assign (.Name x px) X.env (.ref Da)) _ _ _
 refine wpAny_assign_Name (zjG I' hN hix hx (v:=.ref Da) rfl (fun s'' I'' hch=>?_) hf)
 obtain ⟨mm,hn⟩:=lo.ns
 obtain ⟨a,sb,ha⟩:=hch
 have hLa:L≠a:=by
  rcases ha with z|z
  ·rw[z];exact lo.nl
  ·exact fun y=>lo.nc x a z y.symm
 refine ⟨mm,hn.sameBut sb hLa,fun h' hsb=>⟨Y.set i (some (.ref Da)),H',?_,hfs D G1 H2 G' H' w1 w' Y Da zs vs _ kk st rel h0 h1 h2 h3 q (r1.en.k Da h0)⟩⟩
 exact I''.turned (t':=s''.toks) (fun b o hb e=>(hsb.2 b hb).trans e) lo.fr lo.nl lo.nw lo.nc lo.np
theorem zgu{tg iter elt:Expr}{ifs:List Expr}{scope:Scope}{pos spos:Pos}{N':List Str}{m i:Nat}{x:Str}{px:Pos}{fi:DA}{g:DG}{ft:DT}{fe:De}(hN:X.N.Nodup)(hix:X.N[i]? = some x)(hx:Loc X.env.scope x)(hp:i∉C.pp)(hi:JI X C tg iter fi)(hc:X.calm=true)(hb:zgL X.N N' scope.names m=true)
  (hkind:scope.kind=.function) (hcell:Hce scope) (hfr:Hfr X scope) (hnames:Hnm scope)
  (hblk:Hbk X C N' scope tg ifs elt g ft fe)
  (hsw:swapsWith (.ListComp elt [⟨tg,iter,ifs,0⟩] scope pos) (some (.Name x px)) spos.line X.env=pure true:=by rfl) (hf:X.fn x=true\/X.env.scope.names.lookup x=some .local:=by exact xwA)
  (hs:∀ x,foldedSetIterable iter X.env x=pure x:=by intro _;rfl):JS X C (.Assign [.Name x px] (.ListComp elt [⟨tg,iter,ifs,0⟩] scope pos) spos) (zb1 i (dFz (za0 fi g ft fe m))):=by
 have h:=zlX (fs:=fun a=>if i<a.2.length then .ok (.nx,a.2.set i (some (.val (.lst a.1)))) else .no) hi hc hb hkind hcell hfr hnames hblk hN hix hx hsw hf (fun D G1 H2 G' H' w1 w' Y p zs vs ρf po st rel h0 h1 h2 h3 q h4=>?_) hs
 ·refine PS.weak h fun D Y H t=>?_
  obtain ⟨G,w,Z,r,p⟩:=t
  refine ⟨G,w,Z,r,?_⟩
  unfold zb1 dFz at p
  rw[R.bind_assoc] at p
  exact p
 ·by_cases hl:i < ρf.length
  ·simp only[hl,if_true] at po
   obtain ⟨r',s'⟩:=rel.know h1 h2 h3 H2 G1 w1 st h0 (.inl h4)
   have sg:zcq G' (upd G' p (.lst vs)):=fun b u e=>by rw[zah (zak e h2)];exact e
   exact po _ _ _ _ s' (r'.setVal hl hp (by unfold Rep;exact ⟨p,vs,rfl,zan,q.same sg⟩))
  ·simp only[hl,if_false] at po;exact False.elim po
theorem zeS{tg iter elt:Expr}{ifs:List Expr}{scope:Scope}{pos spos:Pos}{N':List Str}{m i:Nat}{x:Str}{px:Pos}{fi:DA}{g:DG}{ft:DT}{fe:De}(hN:X.N.Nodup)(hix:X.N[i]? = some x)(hx:Loc X.env.scope x)(hp:i∉C.pp)(hi:JI X C tg iter fi)(hc:X.calm=true)(hb:zgL X.N N' scope.names m=true)
  (hkind:scope.kind=.function) (hcell:Hce scope) (hfr:Hfr X scope) (hnames:Hnm scope)
  (hblk:Hbk X C N' scope tg ifs elt g ft fe)
  (hsw:swapsWith (.ListComp elt [⟨tg,iter,ifs,0⟩] scope pos) (some (.Name x px)) spos.line X.env=pure true:=by rfl) (hf:X.fn x=true\/X.env.scope.names.lookup x=some .local:=by exact xwA)
  (hs:∀ x,foldedSetIterable iter X.env x=pure x:=by intro _;rfl):JS X C (.Assign [.Name x px] (.ListComp elt [⟨tg,iter,ifs,0⟩] scope pos) spos) (zbF i (za0 fi g ft fe m)):=by
 refine zlX (fs:=fun a=>if i<a.2.length then .ok (.nx,a.2.set i (some (.own a.1))) else .no) hi hc hb hkind hcell hfr hnames hblk hN hix hx hsw hf (fun D G1 H2 G' H' w1 w' Y p zs vs ρf po st rel h0 h1 h2 h3 q h4=>?_) hs
 by_cases hl:i < ρf.length
 ·simp only[hl,if_true] at po
  obtain ⟨r',s'⟩:=rel.setOwn hl hp h1 h2 h3 q st h0 h4
  exact po _ _ _ _ s' r'
 ·simp only[hl,if_false] at po;exact False.elim po
end
section
variable{X:Cx}{C:Cn}{a b c e:Expr}{fa fb fc:De}{pos:Pos}
theorem zmV{r r':R2}{g g':Dt->Dt->R Dt}{Y:L2.St}{H:Hp}{Q:VK}(h2:Op2 X.K r g)(he:zhC g)(h2':Op2 X.K r' g')(he':zhC g')(h:tE X.K C (zgC g g' fa fb fc) Y H Q):zrl r r' (tE X.K C fa) (tE X.K C fb) (tE X.K C fc) Y H Q:=by
 obtain ⟨G,w,Z,rr,p⟩:=h
 refine zdb (κ:=fun G H w=>kE X.K C Y Q G H w) zcc rr p fun d Z1 v G1 H1 w1 r1 s1 q1 p1=>?_
 refine zdb (κ:=fun G H w=>kE X.K C Y Q G H w) zcc r1 p1 fun d2 Z2 v2 G2 H2 w2 r2 s2 q2 p2=>?_
 dsimp only at p2
 cases e:g d d2 with
 |ok z =>
  simp only[e,R.bind_ok] at p2
  refine h2 G2 H2 v v2 d d2 z _ r2.gh (q1.same s2.g) q2 e fun v3 G3 H3 gr q3=>?_
  have p3:=zcp.step (κ:=fun G H w=>kE X.K C Y Q G H w) zcc gr.step (w1:=w2) p2
  have r3:=r2.grow gr
  cases z with
  |bl k =>
   refine ⟨k,zd0 q3,?_⟩
   cases k with
   |false=>exact iteF (p3 _ G3 H3 w2 (.refl _ _ _) r3 (zd6 _))
   |true =>
    refine iteT ?_
    refine zdb (κ:=fun G H w=>kE X.K C Y Q G H w) zcc r3 p3 fun d4 Z4 v4 G4 H4 w4 r4 s4 q4 p4=>?_
    dsimp only at p4
    cases e':g' d2 d4 with
    |ok z' =>
     simp only[e',R.bind_ok] at p4
     exact h2' G4 H4 v2 v4 d2 d4 z' Q r4.gh ((q2.same gr.g).same s4.g) q4 e' fun v5 G5 H5 gr5 q5=>p4 v5 G5 H5 w4 gr5.step (r4.grow gr5) q5
    |er n=>exact absurd e' (he' _ _ _)
    |no=>simp only[e',R.bind_no] at p4;exact p4.elim
  |_=>exact False.elim p3
 |er n=>exact absurd e (he _ _ _)
 |no=>simp only[e,R.bind_no] at p2;exact p2.elim
theorem zly{op op':CmpOp}{r r':R2}{g g':Dt->Dt->R Dt}(ho:OpR X (compareOp op) r)(h2:Op2 X.K r g)(hn:zhC g)(ho':OpR X (compareOp op') r')(h2':Op2 X.K r' g')(hn':zhC g')(ha:JE X C a fa)(hb:JE X C b fb)(hc:JE X C c fc)
  (hm:lastMarks [op,op'] [b,c]=false:=by with_unfolding_all rfl):JE X C (.Compare a [op,op'] [b,c] pos) (zgC g g' fa fb fc):=PE.weak (zrc ho ho' ha hb hc hm) fun Y H Q h=>zmV h2 hn h2' hn' h
def kO(K:W.Frag)(C:Cn)(Y:L2.St)(Q:Option Int->Hp->Prop)(G H:Hp)(w:Wn)(a:Option Int×Ev):Prop :=
 ∀ G' H' w',zbv G H w G' H' w'->Rel K C G' w' a.2 Y H'->Q a.1 H'
abbrev DO:=Ev->R (Option Int×Ev)
def tOd(K:W.Frag)(C:Cn)(f:DO):TO:=fun Y H Q=>∃ G w Z,Rel K C G w Z Y H/\zcp C.ex (kO K C Y Q G H w) (f Z)
abbrev JO(X:Cx)(C:Cn)(e:Option Expr)(f:DO):Prop:=PO X e (tOd X.K C f)
theorem PO.weak{e:Option Expr}{t t':TO}(h:PO X e t)(k:∀ Y H Q,t' Y H Q->t Y H Q):PO X e t':=fun pS s Y H Q I q=>h pS s Y H Q I (k Y H Q q)
def dO0:DO:=fun Z=>.ok (none,Z)
def dO1(fa:De):DO:=fun Z=>(fa Z).bind fun a=>match a.1 with
 |.int i=>.ok (some i,a.2)
 |_=>.no
theorem zvi{K:W.Frag}{Y:L2.St}{Q:Option Int->Hp->Prop}:Stp (fun G H w=>kO K C Y Q G H w):=fun _ _ _ _ _ _ _ s k G' H' w' s'=>k G' H' w' (s.trans s')
theorem zb5:JO X C none dO0:=PO.weak zsR fun Y H Q ⟨G,w,Z,r,p⟩=>p G H w (.refl _ _ _) r
theorem zbg(h:JE X C a fa):JO X C (some a) (dO1 fa):=PO.weak (zsN h) fun Y H Q ⟨G,w,Z,r,p⟩=>by
 refine zdb (κ:=fun G H w=>kO X.K C Y Q G H w) zvi r p fun d Z1 v G1 H1 w1 r1 s1 q1 p1=>?_
 cases d with
 |int i=>exact ⟨i,zas q1,p1 G1 H1 w1 (.refl _ _ _) r1⟩
 |_=>exact p1.elim
theorem zuT{K:W.Frag}{Y:L2.St}{α:Type}{κ:zpE α}(st:Stp κ){G H:Hp}{w:Wn}{Z:Ev}{fa:DO}{g:Option Int×Ev->R α}{Q:Option Int->Hp->Prop}(r:Rel K C G w Z Y H)(p:zcp C.ex (κ G H w) ((fa Z).bind g))
  (k:∀ o Z1 G1 H1 w1,Rel K C G1 w1 Z1 Y H1->zbv G H w G1 H1 w1->zcp C.ex (κ G1 H1 w1) (g (o,Z1))->Q o H1):tOd K C fa Y H Q:=by
 refine ⟨G,w,Z,r,?_⟩
 cases e:fa Z with
 |ok a =>
  rw[e] at p
  intro G' H' w' s' r'
  exact k a.1 a.2 G' H' w' r' s' (zcp.step st s' p)
 |er n=>rw[e] at p;exact p
 |no=>rw[e] at p;exact p
def zcA{α:Type}(xs:List α)(lo hi:Option Int):List α:=(xs.drop (HT.sIx xs.length 0 lo)).take (HT.sIx xs.length xs.length hi-HT.sIx xs.length 0 lo)
theorem zma{K:W.Frag}{G:Hp}{ds:List Dt}{vs:List V}(h:za1 K G ds vs)(lo hi:Option Int):za1 K G (zcA ds lo hi) (znq vs lo hi):=by
 unfold zcA znq
 rw[<- h.length]
 exact (h.drop _).take _
def zp5(fa:De)(fl fh:DO):DN:=fun Z=>(fa Z).bind fun a=>(fl a.2).bind fun l=>(fh l.2).bind fun h=>match a.1 with
 |.lst ds=>.ok (zcA ds l.1 h.1,h.2)
 |_=>.no
theorem zji{K:W.Frag}{Y:L2.St}{G H:Hp}{w:Wn}{Z:Ev}{p:Addr}(r:Rel K C G w Z Y H)(hp:H p=none):w p=none:=by
 cases z:w p with
 |none=>rfl
 |some k=>exact absurd hp (r.wh p (by rw[z];simp))
theorem zrE{lo hi:Option Expr}{fl fh:DO}{p2:Pos}(ha:JE X C a fa)(hl:JO X C lo fl)(hh:JO X C hi fh):JN X C (.Subscript a (.Slice lo hi none p2) pos) (zp5 fa fl fh) :=
 PE.weak (zlR zsK ha hl hh) fun Y H Q ⟨G,w,Z,r,p⟩=>by
  refine zdb (κ:=fun G H w=>kN X.K C Y Q G H w) zhc r p fun d Z1 v G1 H1 w1 r1 s1 q1 p1=>?_
  refine zuT (κ:=fun G H w=>kN X.K C Y Q G H w) zhc r1 p1 fun l Z2 G2 H2 w2 r2 s2 p2=>?_
  refine zuT (κ:=fun G H w=>kN X.K C Y Q G H w) zhc r2 p2 fun h Z3 G3 H3 w3 r3 s3 p3=>?_
  cases d with
  |lst ds =>
   obtain ⟨ad,vs,rfl,h1,h2⟩:=zba (q1.same (s2.g.trans s3.g))
   refine ⟨ad,vs,rfl,SqL.of (r3.gh _ _ h1),fun p hp=>?_⟩
   have gr:zdU G3 H3 G3 (upd H3 p (.lst (znq vs l h))):=.newH r3.gh hp
   exact p3 p _ G3 _ w3 gr.step (r3.grow gr) hp zan (r3.gh.free hp) (zji r3 hp) (zma h2 l h)
  |_=>exact p3.elim
end
structure Dfn(nw:Bool)(P:Program)(w:World)(K:W.Frag)(mg:Str->Option Value)(base:Heap)(CX:CXT)(xv:Nat->Value)(k:Nat)(x:Str)(ks:List Bool)(F:FD):Prop where
 ex:∃(f:Addr)(fd:FuncData)(ps:List Str),zhF P w K mg base CX k f fd ps (zpW nw K xv ks F)/\mg x=some (.ref f)/\W.keepIn K (.ref f)=true/\zgP K fd ps []/\∀ bs,F bs≠.no->zbx bs=ks
theorem Dfn.mono{nw:Bool}{P:Program}{w:World}{K:W.Frag}{mg:Str->Option Value}{base:Heap}{CX:CXT}{xv:Nat->Value}{k k':Nat}{x:Str}{ks:List Bool}{F:FD}(D:Dfn nw P w K mg base CX xv k x ks F)(h:k<=k'):Dfn nw P w K mg base CX xv k' x ks F:=by
 obtain ⟨f,fd,ps,h1,h2⟩:=D.ex
 exact ⟨f,fd,ps,h1.mono h,h2⟩
section
variable{X:Cx}{C:Cn}{CX:CXT}{k k':Nat}{ks:List Bool}{Fd:FD}{x:Str}{p pos:Pos}{e:Expr}{es:List Expr}{far:DAr}
theorem zaE(D:Dfn false X.prog X.w X.K X.mg X.base CX C.xv k x ks Fd)(hr:zcY k' X.A)(hk:k<=k')(hx:zcH CX X (EXc C))(ha:JAr X C (e::es) far)(hg:Gl X x:=by rfl)(hdb:(x == ("__debug__" : Str))=false:=by decide)(he:starEach (e::es) X.env=(false,eval e X.env)::starEach es X.env:=by rfl)
  (hpl:(backTo pos (starEach es X.env)).any (·.1)=false:=by rfl):JE X C (.Call (.Name x p) (e::es) [] pos) (zag Fd far):=by
 obtain ⟨f,fd,ps,h1,h2,h3,h4,h5⟩:=D.ex
 exact zsq h1 (hr.mono hk) hg h2 h3 h4 hx h5 ha hdb he hpl
end
section
variable{X:Cx}{C:Cn}{CX:CXT}{k k':Nat}{ks:List Bool}{Fd:FD}{x:Str}{p pos:Pos}{e:Expr}{es:List Expr}{far:DAr}
theorem zv3(D:Dfn true X.prog X.w X.K X.mg X.base CX C.xv k x ks Fd)(hr:zcY k' X.A)(hk:k<=k')(hx:zcH CX X (EXc C))(ha:JAr X C (e::es) far)(hg:Gl X x:=by rfl)(hdb:(x == ("__debug__" : Str))=false:=by decide)(he:starEach (e::es) X.env=(false,eval e X.env)::starEach es X.env:=by rfl)
  (hpl:(backTo pos (starEach es X.env)).any (·.1)=false:=by rfl):JN X C (.Call (.Name x p) (e::es) [] pos) (zg0 Fd far):=by
 obtain ⟨f,fd,ps,h1,h2,h3,h4,h5⟩:=D.ex
 exact zsW h1 (hr.mono hk) hg h2 h3 h4 hx h5 ha hdb he hpl
end
def dNo:DS:=fun _=>.no
theorem zpS{X:Cx}{C:Cn}{st:Stmt}:JS X C st dNo:=fun _ _ _ _ _ _ ⟨_,_,_,_,p⟩=>p.elim
section
variable{X:Cx}{C:Cn}{a b c e:Expr}{fa fb fc:De}{pos:Pos}
def zfG(fa fb:De):DN:=fun Z=>(fa Z).bind fun a=>(fb a.2).bind fun b=>match a.1,b.1 with
 |.lst x,.lst y=>if x.length+y.length<=16777216 then .ok (x++y,b.2) else .no
 |_,_=>.no
theorem zhg(ha:JE X C a fa)(hb:JE X C b fb):JN X C (.BinOp a .Add b pos) (zfG fa fb):=PE.weak (zu6 zuq ha hb) fun Y H Q ⟨G,w,Z,r,p⟩=>by
 refine zdb (κ:=fun G H w=>kN X.K C Y Q G H w) zhc r p fun d Z1 v G1 H1 w1 r1 s1 q1 p1=>?_
 refine zdb (κ:=fun G H w=>kN X.K C Y Q G H w) zhc r1 p1 fun d2 Z2 v2 G2 H2 w2 r2 s2 q2 p2=>?_
 dsimp only at p2
 split at p2
 ·rename_i x y
  split at p2
  ·rename_i hl
   obtain ⟨ad,vs,rfl,h1,h2⟩:=zba (q1.same s2.g)
   obtain ⟨bd,us,rfl,h3,h4⟩:=zba q2
   refine ⟨ad,bd,vs,us,rfl,rfl,r2.gh _ _ h1,r2.gh _ _ h3,by rw[<- h2.length,<- h4.length,ze8];exact hl,fun p hp=>?_⟩
   have gr:zdU G2 H2 G2 (upd H2 p (.lst (vs++us))):=.newH r2.gh hp
   exact p2 p _ G2 _ w2 gr.step (r2.grow gr) hp zan (r2.gh.free hp) (zji r2 hp) (h2.append h4)
  ·exact p2.elim
 ·exact p2.elim
def ztU(ta:TA):TE:=fun Y H Q=>ta Y H fun vs H1=>∃ j:Int,vs=[.int j]/\∀ p,H1 p=none->Q (.ref p) (upd H1 p (.rng 0 j))
theorem zr2{p:Pos}{ta:TA}(hg:Gl X "range")(hm:X.mg "range"=none)(ha:PA X [e] ta)(hs:starEach [e] X.env=[(false,eval e X.env)]:=by rfl):PE X (.Call (.Name "range" p) [e] [] pos) (ztU ta):=by
 intro pS s Y H Q I h
 refine PyProof.Rows.Call_ (zeA I hg hm PyProof.Rows.boot_range (PyProof.Rows.callWith_type1 (thn (ha pos pS s Y H _ I h) fun us s1 ⟨vs,H1,I1,r1,q1⟩=>?_) hs rfl))
 obtain ⟨j,e1,q⟩:=q1
 subst e1
 obtain ⟨u,rfl,t,rfl⟩:=zgM r1
 exact call_range_1 ⟨.ref s1.heap.objs.size,_,I1.laid (o:=.rng 0 j) (fun b u e=>waa _ e) (wal _) ⟨_,_,_,waj _ rfl⟩,rfl,q _ (I1.hok.fresh (wal _))⟩
theorem zic{lo:Int}:∀(n:Nat)(acc:List Value),acc.length=n->(∀(j:Nat) v,acc[j]? = some v->∃ t,v=Value.int (lo+j) t)->zbc ((List.range n).map fun k=>V.int (lo+(k:Nat))) acc
 |0,[],_,_=>.nil
 |0,_::_,h,_=>by simp at h
 |n+1,[],h,_=>by simp at h
 |n+1,v::r,h,hv=>by
  rw[List.range_succ_eq_map,List.map_cons,List.map_map]
  obtain ⟨t,ht⟩:=hv 0 v rfl
  refine .cons ⟨t,by simpa using ht⟩ ?_
  have:=zic (lo:=lo+1) n r (by simpa using h) fun j v' e=>by
   obtain ⟨t',ht'⟩:=hv (j+1) v' (by simpa using e)
   refine ⟨t',ht'.trans ?_⟩
   congr 1
   omega
  have e:(fun k=>V.int (lo+1+(k:Nat)))=((fun k:Nat=>V.int (lo+(k:Nat))) ∘ Nat.succ):=by
   funext k
   show V.int _=V.int _
   congr 1
   simp only[Nat.succ_eq_add_one]
   omega
  rw[e] at this
  exact this
theorem zix(hc:X.calm=true):zda X (.type "list") (fun xs H Q=>∃(p:Addr)(j:Int),xs=[.ref p]/\H p=some (.rng 0 j)/\0<=j/\j<=16777216/\∀ l,H l=none->Q (.ref l) (upd H l (.lst ((List.range j.toNat).map fun k=>V.int (0+(k:Nat)))))):=by
 intro pS s Y H xs us Q I r h
 obtain ⟨p,j,rfl,hp,j0,j1,q⟩:=h
 obtain ⟨u,rfl,ru⟩:=zgM r
 cases ru
 obtain ⟨t,u,v,e⟩:=(show zbO X.prog X.w H s.heap p (.rng 0 j) from I.hok p _ hp)
 refine call_list_range (n:=j.toNat) (I.ok.hd hc) e (small_one xwo xwo xwo xwo) (by rw[rangeSize_one];split <;> omega) xwo fun h' tk acc' c' hk hS hacc=>?_
 refine ⟨.ref s.heap.objs.size,_,I.laid (t':=tk) hk (wal _) (o:=.lst ((List.range j.toNat).map fun k=>V.int (0+(k:Nat)))) ⟨?_,acc'.toList,c',?_,by simpa using hS⟩,rfl,q _ (I.hok.fresh (wal _))⟩
 ·rw[List.length_map,List.length_range,ze8];omega
 ·refine zic j.toNat acc'.toList (by rw[Array.length_toList];exact hacc.1) fun i v' ev=>?_
  obtain ⟨t',ht'⟩:=hacc.2 i v' (by simpa using ev)
  exact ⟨t',by rw[ht',Int.mul_one]⟩
def zhb(fa:De):DN:=fun Z=>(fa Z).bind fun a=>match a.1 with
 |.int j=>if 0<=j/\j<=16777216 then .ok (za7 0 j.toNat,a.2) else .no
 |_=>.no
theorem zio{K:W.Frag}{G:Hp}{lo:Int}:∀(l:List Nat),za1 K G (l.map fun k=>.int (lo+(k:Nat))) (l.map fun k=>V.int (lo+(k:Nat)))
 |[]=>za1.nil
 |k::r=>za1.cons (za5 _) (zio r)
theorem zpj{p1 p2 pos2:Pos}(hc:X.calm=true)(hg:Gl X "list")(hm:X.mg "list"=none)(hg2:Gl X "range")(hm2:X.mg "range"=none)(ha:JE X C e fa)(hs:starEach [e] X.env=[(false,eval e X.env)]:=by rfl)
  (hs2:starEach [.Call (.Name "range" p2) [e] [] pos2] X.env=(false,eval (.Call (.Name "range" p2) [e] [] pos2) X.env)::starEach [] X.env:=by rfl) (hpl:(backTo pos (starEach [] X.env)).any (·.1)=false:=by rfl) :
  JN X C (.Call (.Name "list" p1) [.Call (.Name "range" p2) [e] [] pos2] [] pos) (zhb fa) :=
 PE.weak (zh6 (zix hc) hg hm PyProof.Rows.boot_list (zbT (zr2 hg2 hm2 (zac ha zap (by rw[hs];rfl)) hs) zep hs2) xwd xwd hs2 hpl) fun Y H Q ⟨G,w,Z,r,p⟩=>by
  unfold zhb at p
  refine ⟨G,w,Z,r,?_⟩
  unfold dA dA0
  cases e:fa Z with
  |ok x =>
   obtain ⟨d,Z1⟩:=x
   rw[e] at p
   intro vs G1 H1 w1 s1 r1 q
   obtain ⟨v,t,rfl,q1,q2⟩:=q.cons_inv
   rw[q2.nil_inv]
   have p1:=zcp.step (κ:=fun G H w=>kN X.K C Y Q G H w) zhc s1 p
   cases d with
   |int j =>
    refine ⟨j,by rw[zas q1],fun p hp=>?_⟩
    have p1:zcp C.ex (kN X.K C Y Q G1 H1 w1) (if 0<=j/\j<=16777216 then .ok (za7 0 j.toNat,Z1) else .no):=p1
    by_cases hj:0<=j/\j<=16777216
    ·rw[if_pos hj] at p1
     refine ⟨p,j,rfl,zan,hj.1,hj.2,fun l hl=>?_⟩
     have gr:zdU G1 H1 G1 (upd H1 p (.rng 0 j)):=.newH r1.gh hp
     have r2:=r1.grow gr
     have gr2:zdU G1 (upd H1 p (.rng 0 j)) G1 (upd (upd H1 p (.rng 0 j)) l (.lst ((List.range j.toNat).map fun k=>V.int (0+(k:Nat))))):=.newH r2.gh hl
     have hl1:H1 l=none:=gr.h.free hl
     exact p1 l _ G1 _ w1 (gr.step.trans gr2.step) (r2.grow gr2) hl1 zan (r1.gh.free hl1) (zji r1 hl1) (zio _)
    ·rw[if_neg hj] at p1;exact p1.elim
   |_=>exact False.elim p1
  |er n=>rw[e] at p;exact p
  |no=>rw[e] at p;exact p
end
section
variable{X:Cx}{C:Cn}{a b c e:Expr}{fa fb fc:De}{pos:Pos}
def zrW(a:Int):List Int->List Int
 |[]=>[a]
 |b::r=>if a<=b then a::b::r else b::zrW a r
def zfv:List Int->List Int
 |[]=>[]
 |a::r=>zrW a (zfv r)
theorem zhu(a:Int):∀ l:List Int,(zrW a l).Perm (a::l)
 |[]=>.refl _
 |b::r=>by
  unfold zrW
  split
  ·exact .refl _
  ·exact ((zhu a r).cons b).trans (.swap a b r)
theorem zcN:∀ l:List Int,(zfv l).Perm l
 |[]=>.refl _
 |a::r=>(zhu a _).trans ((zcN r).cons a)
theorem zmj(a:Int):∀ l:List Int,l.Pairwise (· <= ·)->(zrW a l).Pairwise (· <= ·)
 |[],_=>by simp[zrW]
 |b::r,h=>by
  unfold zrW
  rw[List.pairwise_cons] at h
  split
  ·rename_i z
   refine List.pairwise_cons.mpr ⟨fun x hx=>?_,List.pairwise_cons.mpr h⟩
   rcases wap.mp hx with rfl|hx
   ·exact z
   ·exact Int.le_trans z (h.1 x hx)
  ·rename_i z
   refine List.pairwise_cons.mpr ⟨fun x hx=>?_,zmj a r h.2⟩
   rcases wap.mp ((zhu a r).mem_iff.mp hx) with rfl|hx
   ·omega
   ·exact h.1 x hx
theorem zfp:∀ l:List Int,(zfv l).Pairwise (· <= ·)
 |[]=>.nil
 |a::r=>zmj a _ (zfp r)
theorem zfJ:∀{ns:List Int}{us:List Value},zbc (ns.map V.int) us->PyProof.Rows.IntsAre us ns
 |[],_,.nil=>.nil
 |n::ns,_,.cons ⟨t,h⟩ r=>by subst h;exact .cons n t (zfJ r)
theorem zem:∀{ns:List Int}{us:List Value},PyProof.Rows.IntsAre us ns->zbc (ns.map V.int) us
 |_,_,.nil=>.nil
 |_,_,.cons n t h=>.cons ⟨t,rfl⟩ (zem h)
theorem zng:zda X (.builtin "sorted") (fun xs H Q=>∃(p:Addr)(ns:List Int),xs=[.ref p]/\SqL X.K H p (ns.map V.int)/\ns.length<64/\∀ l,H l=none->Q (.ref l) (upd H l (.lst ((zfv ns).map V.int)))):=by
 intro pS s Y H xs us Q I r h
 obtain ⟨p,ns,rfl,hq,hl,q⟩:=h
 obtain ⟨u,rfl,ru⟩:=zgM r
 cases ru
 obtain ⟨its,rv,pl,hz⟩:=I.list hq
 have hlen:its.length=ns.length:=by rw[<- rv.length];simp
 refine PyProof.Rows.sorted_ints pl.isList (zfJ rv) xwo fun out ns' a1 a2 a3=>?_
 have e:ns'=zfv ns:=W.lks_uniq (a2.trans (zcN ns).symm) a3 (zfp ns)
 subst e
 obtain ⟨c,hc⟩:=PyProof.Rows.sortedAll_at s.heap its out
 refine ⟨.ref (s.heap.objs.size+1),_,I.laid (t':=s.toks) (fun b o=>PyProof.Rows.sortedAll_old) (Nat.le_succ _) (o:=.lst ((zfv ns).map V.int)) ⟨?_,out.toList,c,zem a1,?_⟩,rfl,q _ (I.hok.fresh (Nat.le_succ _))⟩
 ·rw[List.length_map,(zcN ns).length_eq,ze8];omega
 ·simpa using hc
def zdO:List Dt->R (List Dt)
 |[.lst l]=>match zfk l with
  |some ns=>if ns.length<64 then .ok ((zfv ns).map .int) else .no
  |none=>.no
 |_=>.no
theorem zjX{K:W.Frag}{G:Hp}:∀(ns:List Int),za1 K G (ns.map .int) (ns.map V.int)
 |[]=>za1.nil
 |n::r=>za1.cons (za5 n) (zjX r)
theorem zqi{K:W.Frag}:FnN K (fun xs H Q=>∃(p:Addr)(ns:List Int),xs=[.ref p]/\SqL K H p (ns.map V.int)/\ns.length<64/\∀ l,H l=none->Q (.ref l) (upd H l (.lst ((zfv ns).map V.int)))) zdO:=fun G H vs ds z Q gh hr e k=>by
 unfold zdO at e
 split at e
 ·split at e
  ·rename_i ns en
   split at e
   ·rename_i hl
    obtain ⟨v,rfl,h1⟩:=zf0 hr
    obtain ⟨a,us,rfl,h2,h3⟩:=zba h1
    cases e
    rw[zkE h3 en] at h2
    exact ⟨a,ns,rfl,SqL.of (gh _ _ h2),hl,fun l hl=>k l _ hl (zjX _)⟩
   ·cases e
  ·cases e
 ·cases e
theorem zqL:zmf zdO:=fun x n h=>by
 unfold zdO at h
 split at h
 ·split at h
  ·split at h <;> cases h
  ·cases h
 ·cases h
theorem zlO{x:Expr}{p:Pos}(hg:Gl X "sorted")(hm:X.mg "sorted"=none)(ha:JE X C x fa)(hs:starEach [x] X.env=(false,eval x X.env)::starEach [] X.env:=by rfl)(hpl:(backTo pos (starEach [] X.env)).any (·.1)=false:=by rfl) :
  JN X C (.Call (.Name "sorted" p) [x] [] pos) (zgS zdO (dA fa dA0)) :=
 zpR zqi zqL zng hg hm PyProof.Rows.boot_sorted (zac ha zap hs) xwd xwd hs hpl
end
section
variable{prog:Program}{w:World}{A:Around}{E:Value->Shared->Prop}{s:Shared}
end
section
variable{X:Cx}{C:Cn}{a:Expr}{fa:De}{pos:Pos}
end
section
variable{prog:Program}{w:World}{A:Around}{E:Value->Shared->Prop}{s:Shared}
theorem bnd:type_of% @wpAny_bind:=@wpAny_bind
theorem zlA{it t:Addr}{i:Nat}{its:Array Value}{x:Value}{Q:Value->Shared->Prop}(k1:s.heap.IsTupleIter it t i)(k2:s.heap.IsTuple t its)(kx:its[i]? = some x)
  (kQ:∀ h',h'.IsTupleIter it t (i+1)->Heap.SameBut it s.heap h'->Q x { s with heap:=h' }):wpAny (model prog w) A (Builtin.SmallTypes.nextOf (.ref it)) Q E s:=by
 obtain ⟨o,e1,e2,e3⟩:=id k1
 obtain ⟨o',e4,_,n',e5⟩:=k2
 unfold Builtin.SmallTypes.nextOf
 refine bnd (wpAny_callSpecial?_slot (name:=Str.ofString "__next__") k1.typeIs F.slot_tuple_iterator_next (wpAny_call_entry F.slot_tuple_iterator_next k1.typeIs F.entry_tuple_iterator_next ?_ (F.args_tuple_iterator_next_1 _)))
 show wpAny _ _ (field (.ref it) 0 >>= _) _ _ _
 refine bnd (wpAny_field e1 e3 (x:=.ref t) rfl ?_)
 show wpAny _ _ (if (Value.ref t == Value.none)=true then _ else _) _ _ _
 have nn:¬ ((Value.ref t == Value.none)=true):=Bool.false_ne_true
 rw[if_neg nn]
 show wpAny _ _ (field (.ref it) 1 >>= _) _ _ _
 refine bnd (wpAny_field e1 e3 (x:=.int i 0) rfl ?_)
 show wpAny _ _ (seqItems? (.ref t) >>= _) _ _ _
 refine bnd (wpAny_seqItems e4 e5 ?_)
 simp only[Int.toNat_natCast,kx]
 refine bnd (wpAny_setField e1 e3 xws (wad ⟨x,rfl,wad (kQ _ ⟨_,Heap.get?_update_self _ e1 (Obj.isFreed_of_fields (Obj.data_mapFields e3 _)),(Obj.cls_mapFields ..).trans e2,?_⟩ (Heap.SameBut.update ..))⟩))
 rw[Obj.data_mapFields e3];simp[rawInt]
theorem zk4{it t:Addr}{i:Nat}{its:Array Value}{Q:Value->Shared->Prop}(hh:A.handled=none)(k1:s.heap.IsTupleIter it t i)(k2:s.heap.IsTuple t its)(kx:its[i]? = none)
  (kE:∀ h' e,Heap.ExtBut it s.heap h'->(∃ o,h'.get? e=some o/\o.cls=.type "StopIteration")->E (.ref e) { s with heap:=h' }):wpAny (model prog w) A (Builtin.SmallTypes.nextOf (.ref it)) Q E s:=by
 obtain ⟨o,e1,e2,e3⟩:=id k1
 obtain ⟨o',e4,_,n',e5⟩:=k2
 unfold Builtin.SmallTypes.nextOf
 refine bnd (wpAny_callSpecial?_slot (name:=Str.ofString "__next__") k1.typeIs F.slot_tuple_iterator_next (wpAny_call_entry F.slot_tuple_iterator_next k1.typeIs F.entry_tuple_iterator_next ?_ (F.args_tuple_iterator_next_1 _)))
 show wpAny _ _ (field (.ref it) 0 >>= _) _ _ _
 refine bnd (wpAny_field e1 e3 (x:=.ref t) rfl ?_)
 show wpAny _ _ (if (Value.ref t == Value.none)=true then _ else _) _ _ _
 have nn:¬ ((Value.ref t == Value.none)=true):=Bool.false_ne_true
 rw[if_neg nn]
 show wpAny _ _ (field (.ref it) 1 >>= _) _ _ _
 refine bnd (wpAny_field e1 e3 (x:=.int i 0) rfl ?_)
 show wpAny _ _ (seqItems? (.ref t) >>= _) _ _ _
 refine bnd (wpAny_seqItems e4 e5 ?_)
 simp only[Int.toNat_natCast,kx]
 refine bnd (wpAny_rule (wab (wpAny_setField e1 e3 xws ?_)))
 show wpAny _ _ (newExc (.type "StopIteration") [] >>= _) _ _ _
 refine bnd ?_
 simp only[newExc,newTuple]
 refine bnd (wpAny_newObj_type ?_ (by size_fits))
 refine (wab (m:=firstArgMember _ _)) (wpAny_of_eq (a:=Value.none) (by first|rfl|(simp only[firstArgMember];rfl)) ?_)
 refine wpAny_newObj_type ?_ (by size_fits);simp only[raiseNew]
 refine bnd (wpAny_handled ?_)
 first|rw[show A.in1.handled=none from hh]|rw[hh]
 refine bnd (wad (wpAny_throw ?_))
 exact kE _ _ (((Heap.SameBut.update ..).extBut.push _).push _) ⟨_,waj _ rfl,rfl⟩
structure Zp(h:Heap)(z TI TO i1 i2 l1 l2:Addr)(f0:Value)(k:Nat):Prop where
 z:IsZip h z TI TO f0
 ti:IsPair h TI (.ref i1) (.ref i2)
 to:∃ a b,IsPair h TO a b
 a1:h.IsTupleIter i1 l1 k
 a2:h.IsTupleIter i2 l2 k
structure ZpD(z TI TO i1 i2:Addr):Prop where
 d1:TI≠z
 d2:TO≠z
 d3:i1≠z
 d4:i2≠z
 d5:TI≠TO
 d6:TI≠i1
 d7:TI≠i2
 d8:TO≠i1
 d9:TO≠i2
 d0:i1≠i2
theorem Zp.keep{h h':Heap}{z TI TO i1 i2 l1 l2:Addr}{f0:Value}{k:Nat}(p:Zp h z TI TO i1 i2 l1 l2 f0 k)(e:∀ b∈[z,TI,TO,i1,i2],∀ o,h.get? b=some o->h'.get? b=some o):Zp h' z TI TO i1 i2 l1 l2 f0 k :=
 ⟨e z xws _ p.z,e TI xws _ p.ti,let ⟨a,b,q⟩:=p.to;⟨a,b,e TO xws _ q⟩,p.a1.at fun o q=>e i1 xws o q,p.a2.at fun o q=>e i2 xws o q⟩
variable{z TI TO i1 i2 l1 l2:Addr}{k:Nat}{xs ys:Array Value}
end
section
variable{X:Cx}{pS:List (Addr×Obj)}{Y:L2.St}{H:Hp}{s:Shared}
theorem zo4{a b:Addr}{xs:List V}(I:L2.Inv X pS Y H s)(hf:zfj X pS H b)(hs:SqT X.K H a xs):b≠a:=by
 rintro rfl
 rcases hs with (h|⟨o,h⟩)|⟨o,its,n,h,_⟩
 ·rw[hf.1] at h;cases h
 ·rw[hf.1] at h;cases h
 ·have hb:=I.mod.kin b o h
  rcases hf.2.2.2.1 with z|z
  ·exact I.ok.noex b o hb z
  ·exact absurd (was (wai hb) (Nat.le_trans I.ok.bsz z)) (Nat.lt_irrefl _)
theorem zeW{fp:List Addr}{h':Heap}{o:HO}{a:Addr}{t':Nat}(I:L2.Inv X pS Y H s)(hf:∀ b∈fp,zfj X pS H b)(k:∀ b ob,b∉fp->s.heap.get? b=some ob->h'.get? b=some ob)(hp:s.heap.objs.size<=a)(ht:∀ b ob,s.heap.get? b=some ob->∃ ob',h'.get? b=some ob')
  (new:zbO X.prog X.w (upd H a o) h' a o):L2.Inv X pS Y (upd H a o) { s with heap:=h',toks:=t' }:=by
 have hn:=I.hok.fresh hp
 have nf:∀ b u,H b=some u->b∉fp:=fun b u e z=>by rw[(hf b z).1] at e;cases e
 refine I.call (g':=s.gens) (d':=s.drawn) (ch:=fp) ⟨fun b u q _ _ hx=>k b u hx q,fun b u q _ _ hx=>⟨u.slots,k b u hx q⟩,fun b u q n _=>?_,fun b u q hx=>⟨u,k b u hx q⟩,fun b xs q=>?_,fun b u xs q=>?_,fun b ps q=>⟨#[],?_⟩⟩ (fun b u e=>?_) I.bare
  fun b hb=>⟨(hf b hb).2.2.2.1,(hf b hb).2.1,(hf b hb).2.2.2.2.1,(hf b hb).2.2.2.2.2⟩
 ·rw[zah (Nat.ne_of_lt (Nat.lt_of_lt_of_le (Heap.lt_size q) hp))];exact n
 ·rw[zah (zak q hn)];exact q
 ·rw[zah (zak q hn)];exact q
 ·rw[zah (zak q hn),q];simp
 ·by_cases hb:b=a
  ·subst hb;rw[zan] at e;cases e;exact new
  ·rw[zah hb] at e
   refine (I.hok b u e).stay (fun c v hc q=>k c v ?_ q) (fun c q=>by rw[zah (zak q hn)];exact q) fun c xs q=>by rw[zah (zak q hn)];exact q
   rcases hc with z|z
   ·rw[z];exact nf b u e
   ·exact nf c _ z
theorem zca{fp:List Addr}{h':Heap}{t':Nat}(I:L2.Inv X pS Y H s)(hf:∀ b∈fp,zfj X pS H b)(k:∀ b ob,b∉fp->s.heap.get? b=some ob->h'.get? b=some ob):L2.Inv X pS Y H { s with heap:=h',toks:=t' }:=by
 have nf:∀ b u,H b=some u->b∉fp:=fun b u e z=>by rw[(hf b z).1] at e;cases e
 refine I.call (g':=s.gens) (d':=s.drawn) (ch:=fp) ⟨fun b u q _ _ hx=>k b u hx q,fun b u q _ _ hx=>⟨u.slots,k b u hx q⟩,fun b u q n _=>n,fun b u q hx=>⟨u,k b u hx q⟩,fun b xs q=>q,fun b u xs q=>q,fun b ps q=>⟨#[],by rw[q];simp⟩⟩ (fun b u e=>?_) I.bare
  fun b hb=>⟨(hf b hb).2.2.2.1,(hf b hb).2.1,(hf b hb).2.2.2.2.1,(hf b hb).2.2.2.2.2⟩
 refine (I.hok b u e).stay (fun c v hc q=>k c v ?_ q) (fun _ q=>q) fun _ _ q=>q
 rcases hc with z|z
 ·rw[z];exact nf b u e
 ·exact nf c _ z
end
section
variable{prog:Program}{w:World}{A:Around}{E:Value->Shared->Prop}{s:Shared}
end
theorem ztG(n:Nat):ZpD (n+4) (n+2) (n+3) n (n+1):=by
 constructor <;> (intro h;have h:(_:Nat)=(_:Nat):=h;omega)
section
variable{X:Cx}{C:Cn}{elts:List Expr}{x1:Nat}{pt:Pos}{a b:Expr}{fa fb:De}{p pos:Pos}
end
section
variable{X:Cx}{pS:List (Addr×Obj)}{Y:L2.St}{H:Hp}{s:Shared}
theorem ztD{A':Around}{xe':Value->Shared->Prop}(I:L2.Inv X pS Y H s)(h1:A'.frames=X.A.frames)(h2:A'.handled=X.A.handled):L2.Inv { X with A:=A',xe:=xe' } pS Y H s :=
 ⟨⟨I.ok.mod,I.ok.kind,I.ok.glob,I.ok.blt,I.ok.above,I.ok.inj,I.ok.has,I.ok.cab,fun z=>h2.trans (I.ok.hd z),h1.trans I.ok.frames,I.ok.stk,I.ok.exf,I.ok.bs,I.ok.bsz,I.ok.noex,I.ok.exfs,I.ok.funs,I.ok.frf⟩,I.os,I.bare,I.base,I.loc,I.cell,I.free,I.freeC,I.pin,I.hok,I.len⟩
theorem zsB{A':Around}{xe':Value->Shared->Prop}(I:L2.Inv { X with A:=A',xe:=xe' } pS Y H s)(h1:A'.frames=X.A.frames)(h2:A'.handled=X.A.handled):L2.Inv X pS Y H s :=
 ⟨⟨I.ok.mod,I.ok.kind,I.ok.glob,I.ok.blt,I.ok.above,I.ok.inj,I.ok.has,I.ok.cab,fun z=>h2.symm.trans (I.ok.hd z),h1.symm.trans I.ok.frames,I.ok.stk,I.ok.exf,I.ok.bs,I.ok.bsz,I.ok.noex,I.ok.exfs,I.ok.funs,I.ok.frf⟩,I.os,I.bare,I.base,I.loc,I.cell,I.free,I.freeC,I.pin,I.hok,I.len⟩
end
end PV
end
section
namespace PV
open PySem PySem.Spec L2 PyProof.Rows
section
variable{X:Cx}{pS:List (Addr×Obj)}{Y:L2.St}{H:Hp}{s:Shared}
theorem zvj{kS:Addr}{o o':Obj}{zaL:List (Addr×Obj)}{h':Heap}{t':Nat}(J:L2.Inv X (pS++(kS,o)::zaL) Y H s)(hf:zfj X (pS++zaL) H kS)(hs:∀ b ob,b≠kS->s.heap.get? b=some ob->h'.get? b=some ob)(ho:h'.get? kS=some o')(hd:∀ v,o'.data≠.cell v) :
  L2.Inv X (pS++(kS,o')::zaL) Y H { s with heap:=h',toks:=t' }:=by
 have J1:L2.Inv X (pS++zaL) Y H s:=J.pins_of fun p hp=>by
  refine J.pin p (waA _ ?_)
  rcases wax.mp hp with z|z
  ·exact List.mem_append_left _ z
  ·exact waA _ (wah _ z)
 have J2:L2.Inv X (pS++zaL) Y H { s with heap:=h',toks:=t' }:=zca (fp:=[kS]) J1 (fun b hb=>by rw[List.mem_singleton.mp hb];exact hf) fun b ob nb e=>hs b ob (fun z=>nb (by simp[z])) e
 refine J2.pins_of fun p hp=>?_
 rcases wax.mp hp with z|z
 ·exact J2.pin p (waA _ (List.mem_append_left _ z))
 ·rcases wap.mp z with rfl|z
  ·exact ⟨ho,hf.1,hf.2.1,hf.2.2.1,hd⟩
  ·exact J2.pin p (waA _ (waA _ z))
theorem zuO{pS pins':List (Addr×Obj)}{H':Hp}{b:Addr}(h:zfj X pS H b)(hn:H' b=none)(hp:∀ p∈pins',p∈pS\/p.1≠b):zfj X pins' H' b :=
 ⟨hn,h.2.1,h.2.2.1,h.2.2.2.1,h.2.2.2.2.1,fun p q=>by
  rcases wax.mp q with z|z
  ·exact h.2.2.2.2.2 p (List.mem_append_left _ z)
  ·rcases hp p z with y|y
   ·exact h.2.2.2.2.2 p (waA _ y)
   ·exact y⟩
variable{kS a:Addr}{kz:List Int}{vs:List Value}{xs:List V}{Θ : Hp->Prop}{e1:Nat}{A:Around}{E:Value->Shared->Prop}{P:PySem.Fin->Shared->Prop}
abbrev lo(ys:Array Value)(n:Nat):Obj:=seqObj "list" ys n
end
section
variable{X:Cx}{pS:List (Addr×Obj)}{Y:L2.St}{H:Hp}{s:Shared}
end
theorem zrm{d:Dt}{bs:List B}:∀{Z:Ev}{k:Nat},ze5 [.d d] bs k Z = Z
 |[],_=>rfl
 |o::r,k=>by
  show (match zco [.d d] k with|some j=>bs[j]?|none=>o)::ze5 [.d d] bs (k+1) r=_
  rw[zrm (Z:=r)];rfl
section
variable{X:Cx}{C:Cn}{CX:CXT}{k k':Nat}{Fd:FD}{x:Str}{p pf kp pos:Pos}{a:Expr}{fa:De}
end
end PV
end
section
namespace PV
open PySem PySem.Spec L2
def zr4(K:W.Frag)(H0:Hp)(D:Addr)(G H:Hp)(w:Wn)(dss:List (List Dt))(as:List Addr):Prop :=
 (D::as).Nodup/\Paired (fun b ds=>H0 b=none/\G b=none/\w b=none/\∃ us,H b=some (.lst us)/\za1 K G ds us) as dss
theorem zr4.step{K:W.Frag}{H0 G H G' H':Hp}{w w':Wn}{D:Addr}{dss:List (List Dt)}{as:List Addr}(q:zr4 K H0 D G H w dss as)(s:zbv G H w G' H' w'):zr4 K H0 D G' H' w' dss as :=
 ⟨q.1,zeu (fun b ds ⟨h1,h2,h3,us,h4,h5⟩=>by
  obtain ⟨k1,k2,k3⟩:=s.keep h2 h3 h4
  exact ⟨h1,k1,k2,us,k3,h5.same s.g⟩) q.2⟩
theorem zim{α β:Type}{F:α->β->Prop}:∀{l:List α}{r:List β},Paired F l r->l.length=r.length
 |_,_,.nil=>rfl
 |_,_,.cons _ t=>by simp[zim t]
theorem zhA{α β:Type}{F:α->β->Prop}{a:α}{b:β}(h:F a b):∀{l:List α}{r:List β},Paired F l r->Paired F (l++[a]) (r++[b])
 |_,_,.nil=>.cons h .nil
 |_,_,.cons x t=>.cons x (zhA h t)
theorem zr4.len{K:W.Frag}{H0 G H:Hp}{w:Wn}{D:Addr}{dss:List (List Dt)}{as:List Addr}(q:zr4 K H0 D G H w dss as):as.length=dss.length:=zim q.2
theorem zr4.snoc{K:W.Frag}{H0 G H:Hp}{w:Wn}{D p:Addr}{dss:List (List Dt)}{ds:List Dt}{us:List V}{as:List Addr}(q:zr4 K H0 D G H w dss as)(nD:p≠D)(nA:p∉as)(h0:H0 p=none)(hg:G p=none)(hw:w p=none)(hp:H p=some (.lst us))(hr:za1 K G ds us):zr4 K H0 D G H w (dss++[ds]) (as++[p]):=by
 refine ⟨?_,zhA ⟨h0,hg,hw,us,hp,hr⟩ q.2⟩
 have h:=q.1
 rw[List.nodup_cons] at h ⊢
 refine ⟨fun z=>?_,?_⟩
 ·rcases wax.mp z with z|z
  ·exact h.1 z
  ·exact nD (List.mem_singleton.mp z).symm
 ·rw[List.nodup_append]
  exact ⟨h.2,xws,fun x hx y hy=>by rw[List.mem_singleton.mp hy];exact fun z=>nA (z ▸ hx)⟩
section
variable{X:Cx}{C:Cn}
end
section
variable{X:Cx}{C:Cn}{k:Expr}{fk:De}{pos ps py sp apos:Pos}{x y:Str}
end
theorem ztN:bootBuiltins "len"=some (.builtin "len"):=PySem.boot_len
theorem zuE:bootBuiltins "max"=some (.builtin "max"):=PyProof.Rows.boot_max
theorem zt4:bootBuiltins "min"=some (.builtin "min"):=PyProof.Rows.boot_min
theorem zuA:bootBuiltins "all"=some (.builtin "all"):=PyProof.Rows.boot_all
theorem zd5:bootBuiltins "isinstance"=some (.builtin "isinstance"):=PyProof.Rows.boot_isinstance
theorem zdj:bootBuiltins "tuple"=some (.type "tuple"):=by decide +kernel
theorem zoY:bootBuiltins "list"=some (.type "list"):=by decide +kernel
theorem zr1:bootBuiltins "int"=some (.type "int"):=by decide +kernel
theorem zkQ:bootBuiltins "bool"=some (.type "bool"):=by decide +kernel
section
variable{X:Cx}{C:Cn}{a b e:Expr}{fa fb:De}{p pos:Pos}
theorem zcJ(hm:X.mg "len"=none)(ha:JE X C e fa)(hg:Gl X "len":=by rfl)(hs:starEach [e] X.env=(false,eval e X.env)::starEach [] X.env:=by rfl)(hpl:(backTo pos (starEach [] X.env)).any (·.1)=false:=by rfl):JE X C (.Call (.Name "len" p) [e] [] pos) (dFn zbz (dA fa dA0)) :=
 zf4 ztp zuv (zg6.or zjH) hg hm ztN (zac ha zap hs) xwd xwd hs hpl
theorem ztv(hc:X.calm=true)(hm:X.mg "max"=none)(ha:JE X C a fa)(hb:JE X C b fb)(hg:Gl X "max":=by rfl)(hs:starEach [a,b] X.env=(false,eval a X.env)::starEach [b] X.env:=by rfl)(hs2:starEach [b] X.env=(false,eval b X.env)::starEach [] X.env:=by rfl)(hpl:(backTo pos (starEach [b] X.env)).any (·.1)=false:=by rfl):JE X C (.Call (.Name "max" p) [a,b] [] pos) (dFn ziz (dA fa (dA fb dA0))) :=
 zf4 zth zsX (zpe hc) hg hm zuE (zac ha (zac hb zap hs2) hs) xwd xwd hs hpl
theorem zu8(hc:X.calm=true)(hm:X.mg "min"=none)(ha:JE X C a fa)(hb:JE X C b fb)(hg:Gl X "min":=by rfl)(hs:starEach [a,b] X.env=(false,eval a X.env)::starEach [b] X.env:=by rfl)(hs2:starEach [b] X.env=(false,eval b X.env)::starEach [] X.env:=by rfl)(hpl:(backTo pos (starEach [b] X.env)).any (·.1)=false:=by rfl):JE X C (.Call (.Name "min" p) [a,b] [] pos) (dFn zjd (dA fa (dA fb dA0))) :=
 zf4 zte zsC (zoA hc) hg hm zt4 (zac ha (zac hb zap hs2) hs) xwd xwd hs hpl
theorem zjZ(hc:X.calm=true)(hm:X.mg "all"=none)(ha:JE X C e fa)(hg:Gl X "all":=by rfl)(hs:starEach [e] X.env=(false,eval e X.env)::starEach [] X.env:=by rfl)(hpl:(backTo pos (starEach [] X.env)).any (·.1)=false:=by rfl):JE X C (.Call (.Name "all" p) [e] [] pos) (dFn zjl (dA fa dA0)) :=
 zf4 ztF ztV (zoQ hc) hg hm zuA (zac ha zap hs) xwd xwd hs hpl
theorem ziv(hm:X.mg "tuple"=none)(ha:JE X C e fa)(hg:Gl X "tuple":=by rfl)(hs:starEach [e] X.env=(false,eval e X.env)::starEach [] X.env:=by rfl)(hpl:(backTo pos (starEach [] X.env)).any (·.1)=false:=by rfl):JE X C (.Call (.Name "tuple" p) [e] [] pos) (dFn zdu (dA fa dA0)) :=
 znM zqe zqH ziP hg hm zdj (zac ha zap hs) xwd xwd hs hpl
theorem zl5(hm:X.mg "list"=none)(ha:JE X C e fa)(hg:Gl X "list":=by rfl)(hs:starEach [e] X.env=(false,eval e X.env)::starEach [] X.env:=by rfl)(hpl:(backTo pos (starEach [] X.env)).any (·.1)=false:=by rfl):JN X C (.Call (.Name "list" p) [e] [] pos) (zgS zfd (dA fa dA0)) :=
 znF zrY zrP zjt hg hm zoY (zac ha zap hs) xwd xwd hs hpl
end
theorem zhh{k:Nat}{A:Around}(hr:zcY k A):A.units+64<cLine:=by have:=hr.un;omega
theorem zqW{k:Nat}{A:Around}(hr:zcY k A):A.units+65<cLine:=by have:=hr.un;omega
theorem zaI{names:List (Str×NameKind)}(h:(names.all fun y=>y.2 != .cell)=true):∀ y∈names,y.2≠.cell:=fun y hy z=>by
 rw[List.all_eq_true] at h
 have:=h y hy
 rw[z] at this;simp at this
theorem zbs{names:List (Str×NameKind)}(h:(names.all fun y=>y.2 != .local || (names.lookup y.1 == some .local))=true):∀ y∈names,y.2=.local->names.lookup y.1=some .local:=fun y hy z=>by
 rw[List.all_eq_true] at h
 have:=h y hy
 rw[z] at this;simpa using this
theorem zbj{names:List (Str×NameKind)}{env:Env}(h:(names.all fun y=>y.2 != .free || (env.kindOf y.1 == some .cell || env.kindOf y.1 == some .free))=true):∀ y∈names,y.2=.free->env.kindOf y.1=some .cell\/env.kindOf y.1=some .free:=fun y hy z=>by
 rw[List.all_eq_true] at h
 have:=h y hy
 rw[z] at this;simpa using this
end PV
end
section
namespace PV
open PySem PySem.Spec L2 PyProof.Rows
theorem zoM{P:Program}{w:World}{H:Hp}{h h':Heap}(x:HOk P w H h)(k:∀ b u o,H b=some u->h.get? b=some o->h'.get? b=some o):HOk P w H h':=fun a o e =>
 (x a o e).stay (fun b u hb q=>by
  rcases hb with rfl|hb
  ·exact k _ _ _ e q
  ·exact k _ _ _ hb q) (fun _ z=>z) fun _ _ z=>z
theorem zuG{P:Program}{w:World}{H:Hp}{h:Heap}{a:Addr}{o:HO}(x:zbO P w H h a o):∃ u,h.get? a=some u:=by
 induction o with
 |lst xs=>obtain ⟨_,_,_,_,e⟩:=x;exact ⟨_,e⟩
 |tup xs=>obtain ⟨_,_,_,_,e⟩:=x;exact ⟨_,e⟩
 |dK kvs=>obtain ⟨_,_,_,_,_,_,_,e,_⟩:=x;exact ⟨_,e⟩
 |dT kvs=>obtain ⟨_,_,_,_,_,_,_,e,_⟩:=x;exact ⟨_,e⟩
 |set S n=>obtain ⟨_,_,_,_,e,_⟩:=x;exact ⟨_,e⟩
 |ins C dx fs=>obtain ⟨_,_,_,e,_⟩:=x;exact ⟨_,e⟩
 |own y=>exact x
 |xd fs=>obtain ⟨_,⟨_,_,_,e,_⟩,_⟩:=x;exact ⟨_,e⟩
 |met f y=>exact ⟨_,x⟩
 |rng lo hi=>obtain ⟨_,_,_,e⟩:=x;exact ⟨_,e⟩
 |frz ob u ih=>exact ⟨_,x.1⟩
 |tbl ps=>exact ⟨_,x⟩
 |ext φ => exact x.2.1
def CXf(P:Program)(w:World):CXT:=fun outer H s E e s' =>
 ∃(l:Addr)(cls a0:Value)(B:Heap)(H':Hp),e=.ref l/\s'.os=s.os/\AllBare s'.gens/\Un (frs outer) [] H H' s.heap s'.heap/\HOk P w H' s'.heap/\Heap.FlyingW B outer l cls a0 s'.heap /\
  (∀ b o,s.heap.get? b=some o->b∉frs outer->∃ u,B.get? b=some u)/\(∀ b u,H' b=some u->∃ o,B.get? b=some o)/\s.heap.get? l=none/\E cls none H'
def CXm:CXT:=fun _ H s E e s'=>∃(l:Addr)(cls:Value)(args:List Value)(h':Heap),e=.ref l/\s'={ s with heap:=h' }/\Heap.MadeExcOf s.heap h' l cls args/\E cls none H
def CXe(P:Program)(w:World):CXT:=fun outer H s E e s'=>CXf P w outer H s E e s'\/CXm outer H s E e s'
theorem CXf.imp{P:Program}{w:World}{outer:List Env}{H:Hp}{s s':Shared}{E E':XK}{e:Value}(h:CXf P w outer H s E e s')(k:∀ u a H',E u a H'->E' u a H'):CXf P w outer H s E' e s':=by
 obtain ⟨l,cls,a0,B,H',h1,h2,h3,h4,h5,h6,h7,h8,h9,h10⟩:=h
 exact ⟨l,cls,a0,B,H',h1,h2,h3,h4,h5,h6,h7,h8,h9,k _ _ _ h10⟩
theorem CXe.none{P:Program}{w:World}{outer:List Env}{H:Hp}{s s':Shared}{e:Value}(h:CXe P w outer H s (fun _ _ _=>False) e s'):False:=by
 rcases h with ⟨_,_,_,_,_,_,_,_,_,_,_,_,_,_,z⟩|⟨_,_,_,_,_,_,_,z⟩ <;> exact z
theorem zl2{env:Env}{outer:List Env}{L:Addr}(h:env.frame=some L):frs (env::outer)=L::frs outer:=by
 unfold frs;rw[List.filterMap_cons,h]
theorem zjN{P:Program}{w:World}{base:Heap}{A:Around}{env:Env}{outer:List Env}{s0 s1 s2:Shared}{H0 H1:Hp}{E E':XK}{e:Value}
  (hf:env.frame=some env.locals) (hfr:A.frames=some (env::outer)) (hL:s0.heap.objs.size<=env.locals) (os1:s1.os=s0.os) (bare1:AllBare s1.gens) (u01:Un (frs outer) [] H0 H1 s0.heap s1.heap) (frf:∀ b∈frs outer,H0 b=none)
  (fun1:s1.heap.FunFrames base (env::outer)) (hok1:HOk P w H1 s1.heap) (fr1:∀ b∈frs (env::outer),H1 b=none) (hx:CXe P w (env::outer) H1 s1 E' e s2) (hE:∀ u a H',E' u a H'->E u a H') {M:Model} {EE:Value->Shared->Prop} :
  wpAny M A (leaving env e) (fun _ s3=>CXf P w outer H0 s0 E e s3) EE s2:=by
 have inS:∀{b:Addr}{o:Obj},s0.heap.get? b=some o->b∉frs outer->b∉frs (env::outer):=fun {b o} e1 h1 h2=>by
  rw[zl2 hf] at h2
  rcases wap.mp h2 with z|z
  ·have:=wai e1
   rw[z] at this
   exact absurd (was this hL) (Nat.lt_irrefl _)
  ·exact h1 z
 have newS:∀{b:Addr},s1.heap.get? b=none->s0.heap.get? b=none:=fun {b} e1=>by
  cases q:s0.heap.get? b with
  |none=>rfl
  |some o=>obtain ⟨o',e2⟩:=u01.there b o q xws;rw[e1] at e2;cases e2
 have outS:∀{b:Addr},b∈frs outer->b∈frs (env::outer):=fun {b} h=>by rw[zl2 hf];exact wah _ h
 rcases hx with ⟨l,cls,a0,B,H',rfl,os,bare,un,hok,fl,hb1,hb2,hnw,he⟩|⟨l,cls,args,h',rfl,rfl,hm,he⟩
 ·refine wpAny_leaves_onW (base:=B) hfr hf fl fun h3 fl3 up=>?_
  have at3:∀{b:Addr}{u:Obj},B.get? b=some u->s2.heap.get? b=some u/\h3.get? b=some u:=fun {b u} e=>⟨fl.1 b u e,fl3.1 b u e⟩
  have slot:∀ b o,s0.heap.get? b=some o->b∈frs outer->∃ sl,h3.get? b=some { o with slots:=sl }:=fun b o e1 hb=>by
   obtain ⟨sl1,e2⟩:=u01.slot b o e1 (frf b hb) hb xws
   obtain ⟨sl2,e3⟩:=un.slot b _ e2 (u01.free b o e1 (frf b hb) xws) (outS hb) xws
   obtain ⟨_,o4,e4,d4⟩:=fl.2.2.1.mem (b:=b) (outS hb)
   rw[e3] at e4;cases e4
   obtain ⟨sl3,e5⟩:=up b _ e3 d4
   exact ⟨sl3,e5⟩
  have hb1':∀ b o,s0.heap.get? b=some o->b∉frs outer->∃ u,B.get? b=some u:=fun b o e1 hb=>by
   obtain ⟨o1,e2⟩:=u01.there b o e1 xws
   exact hb1 b o1 e2 (inS e1 hb)
  refine ⟨l,cls,a0,B,H',rfl,os.trans os1,bare,⟨fun b o e1 n hb _=>?_,fun b o e1 n hb _=>slot b o e1 hb,fun b o e1 n _=>?_,fun b o e1 _=>?_,fun b xs q=>un.tups b xs (u01.tups b xs q),fun b o u q=>un.frzs b o u (u01.frzs b o u q),fun b ps q=>?_⟩,zoM hok fun b u o q1 q2=>?_,fl3,hb1',hb2,newS hnw,hE _ _ _ he⟩
  ·have e2:=u01.keep b o e1 n hb xws
   have n2:=u01.free b o e1 n xws
   have e3:=un.keep b o e2 n2 (inS e1 hb) xws
   obtain ⟨u,hu⟩:=hb1' b o e1 hb
   obtain ⟨q1,q2⟩:=at3 hu
   rw[e3] at q1;cases q1;exact q2
  ·obtain ⟨o1,e2⟩:=u01.there b o e1 xws
   exact un.free b o1 e2 (u01.free b o e1 n xws) xws
  ·by_cases hb:b∈frs outer
   ·obtain ⟨sl,e2⟩:=slot b o e1 hb;exact ⟨_,e2⟩
   ·obtain ⟨u,hu⟩:=hb1' b o e1 hb;exact ⟨u,(at3 hu).2⟩
  ·obtain ⟨m1,e1⟩:=u01.tbls b ps q
   obtain ⟨m2,e2⟩:=un.tbls b _ e1
   exact ⟨m1++m2,by rw[e2,Array.append_assoc]⟩
  ·obtain ⟨o',ho'⟩:=hb2 b u q1
   obtain ⟨z1,z2⟩:=at3 ho'
   rw[q2] at z1;cases z1;exact z2
 ·
  let fs:=frs (env::outer)
  have hin:∀ x∈env::outer,∀ a,x.frame=some a->a∈fs:=fun x hx a ha=>List.mem_filterMap.mpr ⟨x,hx,ha⟩
  refine wpAny_leaves_madeW (base:=W.hideAll s1.heap fs) (h:=s1.heap) hfr hf (fun b o q=>W.of_hideAll _ q) (W.funFrames_hide fun1 hin) hm fun h3 t fl3 _ _ up=>?_
  have at3:∀{b:Addr}{u:Obj},s1.heap.get? b=some u->b∉fs->h3.get? b=some u:=fun {b u} e n=>fl3.1 b u (W.hideAll_get _ e n)
  have slot:∀ b o,s0.heap.get? b=some o->b∈frs outer->∃ sl,h3.get? b=some { o with slots:=sl }:=fun b o e1 hb=>by
   obtain ⟨sl1,e2⟩:=u01.slot b o e1 (frf b hb) hb xws
   obtain ⟨_,o4,e4,d4⟩:=fun1.mem (b:=b) (outS hb)
   rw[e2] at e4;cases e4
   obtain ⟨sl3,e5⟩:=up b _ (hm.keeps _ _ e2) d4
   exact ⟨sl3,e5⟩
  have hb1':∀ b o,s0.heap.get? b=some o->b∉frs outer->∃ u,(W.hideAll s1.heap fs).get? b=some u:=fun b o e1 hb=>by
   obtain ⟨o1,e2⟩:=u01.there b o e1 xws
   exact ⟨o1,W.hideAll_get _ e2 (inS e1 hb)⟩
  have tr:∀ b u,H1 b=some u->b∉fs:=fun b u e z=>by rw[fr1 b z] at e;cases e
  refine ⟨l,cls,.ref t,W.hideAll s1.heap fs,H1,rfl,os1,bare1,⟨fun b o e1 n hb _=>at3 (u01.keep b o e1 n hb xws) (inS e1 hb),fun b o e1 n hb _=>slot b o e1 hb,fun b o e1 n _=>u01.free b o e1 n xws,fun b o e1 _=>?_,u01.tups,u01.frzs,u01.tbls⟩,zoM hok1 fun b u o q1 q2=>at3 q2 (tr b u q1),fl3,hb1',fun b u q=>?_,newS hm.new,hE _ _ _ he⟩
  ·by_cases hb:b∈frs outer
   ·obtain ⟨sl,e2⟩:=slot b o e1 hb;exact ⟨_,e2⟩
   ·obtain ⟨u,hu⟩:=hb1' b o e1 hb;exact ⟨u,fl3.1 b u hu⟩
  ·obtain ⟨o,ho⟩:=zuG (hok1 b u q)
   exact ⟨o,W.hideAll_get _ ho (tr b u q)⟩
theorem zaC{P:Program}{w:World}{K:W.Frag}{mg:Str->Option Value}{base:Heap}:zrg (CXe P w) P w K mg base:=fun N qual scope f cdv A outer s H E E' hk hE pS Y H1 s1 e s2 I hx=>by
 have I':=I
 refine wpAny_mono (zjN (base:=base) (s0:=s) (H0:=H) (E:=E) rfl I.ok.frames (wal _) I.os I.bare I.base I.ok.frf I.stack I.hok I.stkFree hx hE) (fun _ s3 h=>.inl h) fun _ _ h=>h
def zin(n:Nat)(f:DA):DS:=fun Z=>(f Z).bind fun a=>if zdT a.1=true then .er n else .no
structure Xcls(K:W.Frag)(C:Addr):Prop where
 ex:∃ bm N nm q bs hdct sn sub ab col dd k0 k1 k2 k3 k5,K.lookup C=some (excClassObj nm q C N bs bm hdct sn sub ab col dd k0 k1 k2 k3 k5 "ValueError.__new__")/\(∀ h:Heap,K.In h->∃ mN,h.Ns N mN/\mN "__init__"=none)/\(∀ h:Heap,K.In h->OwnTail h [.type "ValueError",.type "Exception",.type "BaseException",.type "object"] bm)
section
variable{X:Cx}{C:Cn}{x:Str}{Cc:Addr}{np cpos pos:Pos}{e:Expr}{es:List Expr}{fa:DA}{n:Nat}{P:Program}{w:World}
theorem zlN(hx:zcH (CXe P w) X (EXc C))(hc:X.calm=true)(hcl:Xcls X.K Cc)(hm:X.mg x=some (.ref Cc))(hxv:C.xv n=.ref Cc)(ha:JA X C (e::es) fa)(hg:Gl X x:=by rfl)(hd:(x == ("__debug__" : Str))=false:=by decide)
  (he:starEach (e::es) X.env=(false,eval e X.env)::starEach es X.env:=by rfl) (hpl:(backTo cpos (starEach es X.env)).any (·.1)=false:=by rfl):JS X C (.Raise (some (.Call (.Name x np) (e::es) [] cpos)) none pos) (zin n fa):=by
 intro pS s Y H D I ⟨G,w1,Z,r,p⟩
 obtain ⟨tl,N,nm,q,bs,hdct,sn,sub,ab,col,dd,k0,k1,k2,k3,k5,lk,hN,hT⟩:=hcl.ex
 obtain ⟨mN,hNs,hni⟩:=hN _ I.mod.kin
 refine wpAny_Raise_call_subT (C:=Cc) (nm:=nm) (q:=q) (N:=N) (bs:=bs) (bm:=tl) (hdct:=hdct) (sn:=sn) (sub:=sub) (ab:=ab) (col:=col) (dd:=dd) (k0:=k0) (k1:=k1) (k2:=k2) (k3:=k3) (k5:=k5)
  F.excBase_ValueError (mN:=mN) ((hT _ I.kIn).hasType F.excBase_ValueError.hasBase) (I.ok.hd hc) (by rw[he];show (false || (backTo cpos (starEach es X.env)).any (·.1))=false;rw[hpl];rfl) hni (zhe I hg hm ⟨rfl,?_⟩ hd)
 suffices hh:wpAny (model X.prog X.w) X.A (spliced (backTo cpos (starEach (e::es) X.env))) (fun vs s₂=>([]:List (Str×Value))=[]/\vs.length<=sizeLine/\s₂.heap.get? Cc=some (excClassObj nm q Cc N bs tl hdct sn sub ab col dd k0 k1 k2 k3 k5 "ValueError.__new__")/\s₂.heap.Ns N mN/\OwnTail s₂.heap [.type "ValueError",.type "Exception",.type "BaseException",.type "object"] tl /\
   ∀ h' a,Heap.MadeExcOf s₂.heap h' a (.ref Cc) vs->X.xe (.ref a) { s₂ with heap:=h' }) X.xe s by
  rw[he] at hh ⊢
  exact Calls.evalArgs_plain hh
 refine thn (ha cpos pS s Y H (fun vs H2=>vs.length<=sizeLine/\EXc C (.ref Cc) none H2) I ?_) fun us s2 ⟨vs,H2,I2,rv,hz,hE⟩=>⟨rfl,by rw[<- rv.length];exact hz,I2.kIn _ _ lk,hNs.keeps I2.bk,hT _ I2.kIn,fun h' a hm'=>?_⟩
 ·refine ⟨G,w1,Z,r,?_⟩
  have p':zcp C.ex (kS X.K C D G H w1) ((fa Z).bind fun a=>if zdT a.1=true then R.er n else .no):=p
  cases ef:fa Z with
  |ok z =>
   rw[ef,R.bind_ok] at p'
   intro vs G' H' w' st rel q1
   by_cases hf:zdT z.1=true
   ·rw[if_pos hf] at p'
    exact ⟨by rw[<- q1.length];exact ziL hf,rfl,n,hxv.symm,p',G',w',r.en.trans st⟩
   ·rw[if_neg hf] at p';exact p'.elim
  |er m=>rw[ef] at p';exact p'
  |no=>rw[ef] at p';exact p'.elim
 ·exact hx pS Y H2 s2 (.ref a) _ I2 (.inr ⟨a,.ref Cc,us,h',rfl,rfl,hm',hE⟩)
end
abbrev bmV:List Value:=[.type "ValueError",.type "Exception",.type "BaseException",.type "object"]
structure Xin(K:W.Frag)(D:Addr):Prop where
 exc:W.excIn K D bmV "ValueError.__new__"=true
 ga:W.findIn K (.ref D) "__getattribute__"=some (some (.builtin "BaseException.__getattribute__"))
 gh:W.findIn K (.ref D) "__getattr__"=some none
 gc:W.findIn K (.ref D) "__class__"=some (some (.builtin "object.__class__"))
 mb:W.subIn K (.ref D) (.type "BaseException")=some true
theorem zec{K:W.Frag}{C:Addr}(q:W.excIn K C bmV "ValueError.__new__"=true):∃ bm N nm qn bs hd sn sub ab col dd k0 k1 k2 k3 k5,
  K.lookup C=some (excClassObj nm qn C N bs bm hd sn sub ab col dd k0 k1 k2 k3 k5 "ValueError.__new__")/\W.tailIn K bmV bm=true/\W.nsOkIn K N=true/\W.nsIn K N "__init__"=some none:=by
 unfold W.excIn at q
 split at q
 ·rename_i dd cd sl lk
  split at q
  ·rename_i C2 bm k0 k1 k2 k3 mk k5 em es
   simp only[wae,beq_iff_eq,Bool.not_eq_true'] at q
   obtain ⟨⟨⟨⟨⟨e1,e2⟩,e3⟩,e4⟩,e5⟩,e6⟩:=q
   subst e1 e2
   obtain ⟨nm,bs,mro,ns,qn,hd,sn,sub,ab,col,del⟩:=cd
   obtain ⟨sll⟩:=sl
   dsimp only at em es e3 e5 e6
   subst em e3 es
   exact ⟨bm,ns,nm,qn,bs,hd,sn,sub,ab,col,dd,k0,k1,k2,k3,k5,lk,e4,e5,e6⟩
  ·cases q
 ·cases q
theorem Xin.cls{K:W.Frag}{C:Addr}(x:Xin K C):Xcls K C:=by
 obtain ⟨bm,N,nm,qn,bs,hd,sn,sub,ab,col,dd,k0,k1,k2,k3,k5,lk,e4,e5,e6⟩:=zec x.exc
 exact ⟨bm,N,nm,qn,bs,hd,sn,sub,ab,col,dd,k0,k1,k2,k3,k5,lk,fun h X=>⟨_,.of_isNs (W.isNs_of_in X e5),W.nsMap_none_of_in X e5 e6⟩,fun h X=>W.tail_of_in X e4⟩
section
variable{prog:Program}{w:World}{A:Around}{E:Value->Shared->Prop}{hh:Heap}{gg:Array GenState}{dr:Drawn}{tt:Nat}{os:OsState}{l C:Addr}{ob:Obj}{K:W.Frag}
theorem zu1{R:Result->Shared->Prop}(x:Xin K C)(X:K.In hh)(hl:hh.get? l=some ob)(hcl:ob.cls=.ref C)(hR:R (.ok (.ret (.ref C))) ⟨hh,gg,dr,tt,os⟩) :
  codeAny (model prog w) A (.call (.builtin "getset_descriptor.__get__") ⟨[.builtin "object.__class__",.ref l,.ref C],[]⟩) R ⟨hh,gg,dr,tt,os⟩:=by
 obtain ⟨bm,N,nm,qn,bs,hd,sn,sub,ab,col,dd,k0,k1,k2,k3,k5,lk,e4,e5,e6⟩:=zec x.exc
 have hCl:=X _ _ lk
 have TL:=W.tail_of_in X e4
 have ty5:(⟨hh,gg,dr,tt,os⟩ : Shared).TypeIs (.builtin "object.__class__") "getset_descriptor":=F.typeOf_object_class
 have inO:(Value.ref C::bm).contains (.type (".".intercalate ("object.__class__".cutAt '.').dropLast))=true:=by
  rw[F.owner_object_class,List.contains_cons,TL.hasType (b:=true) xwd];rfl
 refine codeAny_call_builtin F.slot_gs_get.plain F.entry_gs_get (F.slot_gs_get.check _ _ _ _ _ _ _ _ ty5 (F.args_gs_get _ _ _) ?_)
 repeat (any_goals (first|(with_reducible refine wpAny_loadPart_at hl ?_;rw[hcl])|(with_reducible refine wpAny_isSubtype_exc hCl ?_;rw[inO])|assumption|wp_step))
 refine ⟨Code.quiet_builtin _ xwD,codeAny_builtin F.entry_object_class ?_⟩
 repeat (any_goals (first|(with_reducible refine wpAny_loadPart_at hl ?_;rw[hcl])|assumption|wp_step))
theorem zq3{tk:Tok}{Q:Fin->Shared->Prop}(x:Xin K C)(X:K.In hh)(hl:hh.get? l=some ob)(hcl:ob.cls=.ref C)(hQ:Q (.done (.ret (.ref C))) ⟨hh,gg,dr,tt,os⟩) :
  wpAny (model prog w) A (Builtin.«object.__getattribute__» ⟨[.ref l,.str "__class__" tk],[]⟩) Q E ⟨hh,gg,dr,tt,os⟩:=by
 have ty5:(⟨hh,gg,dr,tt,os⟩ : Shared).TypeIs (.builtin "object.__class__") "getset_descriptor":=F.typeOf_object_class
 have to5:=F.typeOf_object_class
 have lk6:=F.slot_gs_get.lookup
 have lk7:=F.slot_gs_set.lookup
 have L1:=W.looks_findIn (M:=model prog w) X x.gc
 repeat (any_goals (first|(with_reducible refine wpAny_loadPart_at hl ?_;rw[hcl])|(with_reducible refine L1.at ?_)|assumption|wp_step))
 refine zu1 x X hl hcl ?_
 repeat (any_goals (first|assumption|wp_step))
theorem znO{M:Model}(hl:hh.get? l=some ob)(hcl:ob.cls=.ref C):W.Looks M hh (typeOf (.ref l)) (.ref C):=hcl ▸ (W.Looks.ld hl).andThen .now
theorem zqJ{M:Model}{nameV:Value}{Q:Unit->Shared->Prop}(x:Xin K C)(X:K.In hh)(hl:hh.get? l=some ob)(hcl:ob.cls=.ref C)(hQ:Q () ⟨hh,gg,dr,tt,os⟩) :
  wpAny M A (checkBuiltinCall "BaseException.__getattribute__" ⟨[.ref l,nameV],[]⟩) Q E ⟨hh,gg,dr,tt,os⟩:=by
 have e1:builtinKind "BaseException.__getattribute__"=some .slot:=by decide +kernel
 have e2:splitId "BaseException.__getattribute__"=some ("BaseException","__getattribute__"):=by decide +kernel
 have e3:=F.args_bexc_ga (.ref l) nameV
 have e4:W.Looks M hh (isInstance (.ref l) (.type "BaseException")) true:=by
  unfold isInstance
  exact (znO hl hcl).andThen (W.looks_subIn X x.mb)
 simp only[checkBuiltinCall,e1,e2]
 refine wab (W.Looks.at e4 ?_)
 repeat (first|exact hQ|wp_step)
theorem zvo{tk:Tok}{Q:Value->Shared->Prop}(x:Xin K C)(X:K.In hh)(hl:hh.get? l=some ob)(hcl:ob.cls=.ref C)(hQ:Q (.ref C) ⟨hh,gg,dr,tt,os⟩) :
  wpAny (model prog w) A (getAttrBy (.ref l) (.str "__class__" tk) false false) Q E ⟨hh,gg,dr,tt,os⟩:=by
 have fb:=F.attrBase_ValueError.ga.bind (.ref l)
 have n0:(false && onTheHeap (Value.builtin "BaseException.__getattribute__"))=false:=rfl
 have n2:(Value.builtin "BaseException.__getattribute__" == Value.builtin "object.__getattribute__")=false:=by decide +kernel
 have n1:(onTheHeap (Value.ref C) && Value.builtin "BaseException.__getattribute__" == Value.builtin "object.__getattribute__")=false:=by rw[n2];rfl
 have L1:=W.looks_findIn (M:=model prog w) X x.ga
 have L2:=W.looks_findIn (M:=model prog w) X x.gh
 repeat (any_goals (first|(with_reducible refine wpAny_loadPart_at hl ?_;rw[hcl])|(with_reducible refine W.Looks.at L1 ?_)|(with_reducible refine W.Looks.at L2 ?_)|assumption|wp_step))
 refine codeAny_call_builtin F.attrBase_ValueError.ga.plain F.entry_bexc_ga (zqJ x X hl hcl (zq3 x X hl hcl ?_))
 repeat (any_goals (first|assumption|wp_step))
theorem zsn{Q:Option Value->Shared->Prop}(x:Xin K C)(X:K.In hh)(hl:hh.get? l=some ob)(hcl:ob.cls=.ref C)(hQ:Q (some (.ref C)) ⟨hh,gg,dr,tt+1,os⟩) :
  wpAny (model prog w) A (getAttr? (.ref l) "__class__") Q E ⟨hh,gg,dr,tt,os⟩:=by
 unfold getAttr? getAttrBy?
 repeat (any_goals (first|(with_reducible apply zvo x X hl hcl)|assumption|wp_step))
end
def XAt(l C:Addr)(h:Heap):Prop:=∃ o vs,h.get? l=some o/\o.cls=.ref C/\o.data=.fields vs
theorem zql{K:W.Frag}{l C:Addr}(x:Xin K C):W.KitX K (.ref l) (.ref C) (XAt l C) where
 ty:=fun M h X ⟨o,vs,h1,h2,h3⟩=>znO h1 h2
 it:=fun M h X _=>by
  obtain ⟨bm,N,nm,qn,bs,hd,sn,sub,ab,col,dd,k0,k1,k2,k3,k5,lk,e4,e5,e6⟩:=zec x.exc
  intro A' Q' E' s' k q
  unfold isType loadHead
  exact wab (wpAny_loadPart (k _ _ (X _ _ lk)) (wad q))
 ne:=fun h tp dd its n sl X htp=>by
  obtain ⟨bm,N,nm,qn,bs,hd,sn,sub,ab,col,dd',k0,k1,k2,k3,k5,lk,e4,e5,e6⟩:=zec x.exc
  refine Bool.eq_false_iff.mpr fun q=>?_
  obtain rfl:C=tp:=Value.ref.inj (beq_iff_eq.mp q)
  have z:=congrArg Obj.cls (waB ((X _ _ lk).symm.trans htp))
  simp[excClassObj] at z
 ca:=fun {prog w A E Q s} X ⟨o,vs,h1,h2,h3⟩ k=>by
  obtain ⟨hh,gg,dr,tt,os⟩:=s
  exact zsn x X h1 h2 k
def zhS(i:Nat)(C:Addr)(b:Bool):De:=fun Z=>match Z[i]? with
 |some (some (.exc C'))=>if C'=C then .ok (.bl b,Z) else .no
 |_=>.no
section
variable{X:Cx}{C:Cn}{i:Nat}{Cc C2:Addr}{b:Bool}{x x2:Str}{p px p2 pos:Pos}
theorem zl3{v2:V}{u2:Value}(hxi:Xin X.K Cc)(hu:∀ u,zbo v2 u->u=u2)(hq:W.kitOne X.K (.ref Cc) u2=some b):zda X (.builtin "isinstance") (fun xs H Q=>∃ l,xs=[.ref l,v2]/\H l=some (xHO l Cc)/\Q (.bl b) H):=by
 intro pS s Y H xs us Q I r h
 obtain ⟨l,rfl,hl,q⟩:=h
 obtain ⟨u,u',rfl,r1,r2⟩:=zmX r
 cases r1
 obtain rfl:=hu u' r2
 have ok:zbO X.prog X.w H s.heap l (xHO l Cc):=I.hok l _ hl
 exact W.kia_one (zql hxi) I.kIn ok.1 hq xws fun tk=>⟨.bl b,H,I.tok tk,rfl,q⟩
theorem zmg{Y:L2.St}{H:Hp}{Q:VK}{v2:V}(h:tE X.K C (zhS i Cc b) Y H Q):∃ v,Y[i]? = some (some v)/\∃ l,v=.ref l/\H l=some (xHO l Cc)/\Q (.bl b) H:=by
 obtain ⟨G,w,Z,r,p⟩:=h
 unfold zhS at p
 split at p
 ·rename_i C' e
  split at p
  ·rename_i hC
   subst hC
   obtain ⟨v,h1,l,h2,h3⟩:=r.sl i _ e
   exact ⟨v,h1,l,h2,r.gh _ _ h3,p _ G H w (.refl _ _ _) r (zd6 _)⟩
  ·exact p.elim
 ·exact p.elim
theorem zg1(i:Nat)(hxi:Xin X.K Cc)(hq:W.kitOne X.K (.ref Cc) (.ref C2)=some b)(hg:Gl X "isinstance")(hm:X.mg "isinstance"=none)(hg2:Gl X x2)(hm2:X.mg x2=some (.ref C2))(hN:X.N[i]? = some x:=by rfl)(hvs:Vis X.env.scope x:=by exact xwV)
  (hd:(x == ("__debug__" : Str))=false:=by decide) (hcd:(x == ("__classdict__" : Str))=false:=by decide) (hv:bootBuiltins "isinstance"=some (.builtin "isinstance"):=by rfl) (hn:("isinstance" : Str)≠"__name__":=by decide) (hdb:(("isinstance" : Str) == ("__debug__" : Str))=false:=by decide) (hdb2:(x2 == ("__debug__" : Str))=false:=by decide)
  (hs:starEach [.Name x px,.Name x2 p2] X.env=(false,eval (.Name x px) X.env)::starEach [.Name x2 p2] X.env:=by rfl) (hs2:starEach [.Name x2 p2] X.env=(false,eval (.Name x2 p2) X.env)::starEach [] X.env:=by rfl) (hpl:(backTo pos (starEach [.Name x2 p2] X.env)).any (·.1)=false:=by rfl) :
  JE X C (.Call (.Name "isinstance" p) [.Name x px,.Name x2 p2] [] pos) (zhS i Cc b) :=
 PE.weak (zez (zl3 (v2:=.ref C2) hxi (fun u h=>h) hq) hg hm hv (zbT (zcm hN hvs hd hcd) (zbT (znH (v:=.ref C2) hg2 hm2 rfl hdb2) zep hs2) hs) hn hdb hs hpl) fun Y H Q h=>by
  obtain ⟨v,h1,l,rfl,h2,h3⟩:=zmg (v2:=.ref C2) h
  exact ⟨_,h1,l,rfl,h2,h3⟩
theorem zrU{T:String}(i:Nat)(hxi:Xin X.K Cc)(hq:W.kitOne X.K (.ref Cc) (.type T)=some b)(hg:Gl X "isinstance")(hm:X.mg "isinstance"=none)(hg2:Gl X x2)(hm2:X.mg x2=none)(hv2:bootBuiltins x2=some (.type T))(hN:X.N[i]? = some x:=by rfl)(hvs:Vis X.env.scope x:=by exact xwV)
  (hd:(x == ("__debug__" : Str))=false:=by decide) (hcd:(x == ("__classdict__" : Str))=false:=by decide) (hv:bootBuiltins "isinstance"=some (.builtin "isinstance"):=by rfl) (hn:("isinstance" : Str)≠"__name__":=by decide) (hdb:(("isinstance" : Str) == ("__debug__" : Str))=false:=by decide) (hn2:x2≠"__name__":=by decide) (hdb2:(x2 == ("__debug__" : Str))=false:=by decide)
  (hs:starEach [.Name x px,.Name x2 p2] X.env=(false,eval (.Name x px) X.env)::starEach [.Name x2 p2] X.env:=by rfl) (hs2:starEach [.Name x2 p2] X.env=(false,eval (.Name x2 p2) X.env)::starEach [] X.env:=by rfl) (hpl:(backTo pos (starEach [.Name x2 p2] X.env)).any (·.1)=false:=by rfl) :
  JE X C (.Call (.Name "isinstance" p) [.Name x px,.Name x2 p2] [] pos) (zhS i Cc b) :=
 PE.weak (zez (zl3 (v2:=.ty T) hxi (fun u h=>h) hq) hg hm hv (zbT (zcm hN hvs hd hcd) (zbT (znY (v:=.ty T) hg2 hm2 hv2 rfl hn2 hdb2) zep hs2) hs) hn hdb hs hpl) fun Y H Q h=>by
  obtain ⟨v,h1,l,rfl,h2,h3⟩:=zmg (v2:=.ty T) h
  exact ⟨_,h1,l,rfl,h2,h3⟩
end
def zjh(XR:Cx)(N:List Str)(scope:Scope)(cl:List (Str×Addr))(qual:Str)(Fa:Addr)(cdv:Value)(s:Shared)(H:Hp)(E:XK):Cx where
 prog:=XR.prog
 w:=XR.w
 K:=XR.K
 mg:=XR.mg
 base:=XR.base
 A:=XR.A.deeper (W.envX qual scope s.heap.objs.size Fa cdv cl)
 N:=N
 s₀:=s
 H₀:=H
 env:=W.envX qual scope s.heap.objs.size Fa cdv cl
 outer:=XR.stack
 stack:=W.envX qual scope s.heap.objs.size Fa cdv cl::XR.stack
 ex:=[]
 fn:=fun _=>false
 calm:=true
 pn:=[]
 xe:=fun e s'=>wpAny (model XR.prog XR.w) (XR.A.deeper (W.envX qual scope s.heap.objs.size Fa cdv cl)) (leaving (W.envX qual scope s.heap.objs.size Fa cdv cl) e) (fun _ s''=>CXf XR.prog XR.w XR.stack H s E e s'') (fun _ _=>False) s'
def zoG(names:List (Str×NameKind)):Bool:=names.all fun y=>match y.2 with
 |.free=>true
 |.globalImplicit=>true
 |_=>false
theorem zgi{names:List (Str×NameKind)}(h:zoG names=true){x:Str}{k:NameKind}(e:names.lookup x=some k):k=.free\/k=.globalImplicit:=by
 have q:=List.all_eq_true.mp h (x,k) (zbu e)
 cases k <;> simp at q <;> simp
structure ziJ(N:List Str)(names:List (Str×NameKind))(cl:List (Str×Addr))(Y:L2.St)(H:Hp)(h:Heap):Prop where
 inj:∀ x y c,cl.lookup x=some c->cl.lookup y=some c->x=y
 has:∀ x,names.lookup x=some .free->∃ c,cl.lookup x=some c
 is:∀ x c,cl.lookup x=some c->(∃ v,h.IsCell c v)/\H c=none
 val:∀(i:Nat)(x:Str)(v:V),N[i]? = some x->Y[i]? = some (some v)->names.lookup x=some .free->∃ u c,zbo v u/\cl.lookup x=some c/\h.IsCell c (some u)
section
variable{XR:Cx}{pS:List (Addr×Obj)}{σR Y:L2.St}{H:Hp}{s:Shared}{N:List Str}{scope:Scope}{cl:List (Str×Addr)}{qual name:Str}{Fa c':Addr}{params:Arguments}{body:Expr}{pm ctv:Value}{E:XK}
theorem znw{cdv:Value}{h₁:Heap}{tk:Nat}{mm:Str->Option Value}(J:L2.Inv XR pS σR H s)(hc:XR.calm=true)(hk:scope.kind=.function)(ho:zoG scope.names=true)(L:ziJ N scope.names cl Y H s.heap)(hl:Y.length=N.length)
  (hns:h₁.Ns s.heap.objs.size mm) (hkp:∀ b o,s.heap.get? b=some o->h₁.get? b=some o):L2.Inv (zjh XR N scope cl qual Fa cdv s H E) [] Y H { s with heap:=h₁,toks:=tk }:=by
 have cellK:∀ c v,s.heap.IsCell c v->h₁.IsCell c v:=fun c v ⟨o,e1,e2⟩=>⟨o,hkp c o e1,e2⟩
 refine ⟨⟨J.ok.mod,hk,rfl,rfl,wal _,L.inj,fun x hx=>?_,fun x c h _=>absurd h (by simp[zjh]),fun _=>J.ok.hd hc,Around.frames_deeper J.ok.frames,.inr ⟨rfl,rfl⟩,fun b hb=>absurd hb (by simp[zjh]),J.bs,Nat.le_trans J.ok.bsz J.sz,fun b o e z=>absurd z (by simp[zjh]),fun b z=>absurd z (by simp[zjh]),J.stack,J.stkFree⟩,
  rfl,J.bare,Un.kept hkp,⟨mm,hns,fun i x v e1 e2 e3=>?_⟩,fun x c e=>?_,J.hok.fresh (wal _),fun x c e=>(L.is x c e).2,fun p hp=>absurd hp (by simp[zjh]),J.hok.kept hkp,hl⟩
 ·have hx':scope.names.lookup x=some .cell\/scope.names.lookup x=some .free:=hx
  rcases hx' with z|z
  ·rcases zgi ho z with q|q <;> cases q
  ·exact L.has x z
 ·have e3':scope.names.lookup x=some .local\/scope.names.lookup x=some .cell\/scope.names.lookup x=some .free:=e3
  rcases e3' with z|z|z
  ·rcases zgi ho z with q|q <;> cases q
  ·rcases zgi ho z with q|q <;> cases q
  ·obtain ⟨u,c,r,hcl,ic⟩:=L.val i x v e1 e2 z
   exact ⟨u,r,.inr ⟨.inr z,c,hcl,cellK _ _ ic⟩⟩
 ·obtain ⟨⟨v,ic⟩,_⟩:=L.is x c e
  exact ⟨v,cellK _ _ ic⟩
theorem zre{t:TE}(J:L2.Inv XR pS σR H s)(hc:XR.calm=true)(hroom:XR.A.depth<recursionLimit)(hk:scope.kind=.function)(ho:zoG scope.names=true)(L:ziJ N scope.names cl Y H s.heap)(hl:Y.length=N.length)
  (hF:s.heap.get? Fa=some (W.kla_obj name qual params body scope cl pm c' ctv)) (hcd:s.heap.CodeRec (.ref c') qual) (hbind:bindArgs (W.kla_fn name qual params body scope cl pm (.ref c') ctv) ⟨[],[]⟩=pure [])
  (hco:scope.isCoroutine=false) (hgen:scope.isGenerator=false) (hE:PE (zjh XR N scope cl qual Fa (.ref c') s H E) body t) (ht:t Y H fun _ _=>False) :
  codeAny (model XR.prog XR.w) XR.A (.call (.ref Fa) ⟨[],[]⟩) (fun r s'=>∃ e,r=.error e/\CXf XR.prog XR.w XR.stack H s E e s') s:=by
 have hcell:∀ y∈scope.names,y.2≠.cell:=fun y hy z=>by
  have q:=List.all_eq_true.mp ho y hy
  rw[z] at q;simp at q
 refine W.kla_callFunE hroom hF rfl hco hgen rfl hcd ?_
 rw[hbind]
 refine wad (wpAny_newFunctionEnv hcell (by intro y hy;simp at hy) (fun h₁ hns hsb=>?_) hk)
 have hkp:∀ b o,s.heap.get? b=some o->h₁.get? b=some o:=fun b o e=>(hsb.2 b (Nat.ne_of_lt (wai e))).trans (waa _ e)
 refine ⟨J.nolimit.keeps hkp,?_⟩
 show codeAny _ _ (.expr body (W.envX qual scope s.heap.objs.size Fa (.ref c') cl)) _ _
 refine W.kla_codeExpr (wpAny_mono (hE [] _ Y H (fun _ _=>False) (znw (tk:=s.toks+([]:List (Str×Value)).length) J hc hk ho L hl hns hkp) ht) (fun v s' ⟨_,_,_,_,z⟩=>z.elim) fun e s' h=>?_)
 exact wpAny_mono h (fun _ s'' q=>⟨e,rfl,q⟩) fun _ _ z=>z.elim
theorem zmu{cdv:Value}{C:Cn}(hE:∀ u a H',EXc C u a H'->E u a H'):zcH (CXe XR.prog XR.w) (zjh XR N scope cl qual Fa cdv s H E) (EXc C):=fun pS Y H1 s1 e s2 I hx =>
 zjN (base:=XR.base) (s0:=s) (H0:=H) rfl I.ok.frames (wal _) I.os I.bare I.base I.ok.frf I.stack I.hok I.stkFree hx hE
end
def zcB(Z:Ev):Ev:=Z.map fun o=>match o with
 |some (.val d)=>some (.val d)
 |_=>none
theorem zpK{prog:Program}{w:World}{A:Around}{E:Value->Shared->Prop}{s:Shared}{K:W.Frag}{l C Cs:Addr}{Q:Bool->Shared->Prop}(X:K.In s.heap)(hx:XAt l C s.heap)(xs:Xin K Cs)(hsub:W.subIn K (.ref C) (.ref Cs)=some true)(hQ:Q true s) :
  wpAny (model prog w) A (excMatches (.ref l) (.ref Cs)) Q E s:=by
 obtain ⟨hh,gg,dr,tt,os⟩:=s
 obtain ⟨ob,vs,h1,h2,h3⟩:=hx
 obtain ⟨bm,N,nm,qn,bs,hd,sn,sub,ab,col,dd,k0,k1,k2,k3,k5,lk,e4,e5,e6⟩:=zec xs.exc
 have hCs:=X _ _ lk
 have inB:(Value.ref Cs::bm).contains (.type "BaseException")=true:=by
  rw[List.contains_cons,(W.tail_of_in X e4).hasType (b:=true) xwd];rfl
 have nt:=tc_notTuple
 have L1:=W.looks_subIn (M:=model prog w) X hsub
 unfold excMatches
 repeat (first|(with_reducible refine wpAny_loadPart_at h1 ?_;rw[h2])|(with_reducible refine W.Looks.at L1 ?_)|with_reducible refine wpAny_loadPart_at hCs ?_|(with_reducible refine wpAny_isSubtype_exc hCs ?_;rw[inB])|wp_step)
 exact hQ
section
variable{X:Cx}{pS:List (Addr×Obj)}{Y:L2.St}{H:Hp}{s:Shared}
theorem zmw{x:Str}{i:Nat}{h':Heap}{tk:Nat}{v:Option Value}(I:L2.Inv X pS Y H s)(hN:X.N.Nodup)(hi:X.N[i]? = some x)
  (hn:∀ m,s.heap.Ns X.env.locals m->h'.Ns X.env.locals (fun y=>if y=x then v else m y)) (hs:Heap.SameBut X.env.locals s.heap h'):L2.Inv X pS (Y.set i none) H { s with heap:=h',toks:=tk }:=by
 obtain ⟨m,hm,hl⟩:=id I.loc
 have cne:=I.cne
 have tr:HOk X.prog X.w H h':=zoM I.hok fun b u o e q=>(hs.2 b fun z=>by subst z;rw[I.free] at e;cases e).trans q
 refine ⟨I.ok,I.os,I.bare,⟨fun b o e n hb hx=>?_,fun b o e n hb hx=>?_,I.base.free,fun b o e hx=>?_,I.base.tups,I.base.frzs,I.base.tbls⟩,⟨_,hn m hm,fun j y v' e1 e2 e3=>?_⟩,fun y c e=>?_,I.free,I.freeC,fun p hp=>?_,tr,by simpa using I.len⟩
 ·exact (hs.2 b (Nat.ne_of_lt (was (wai e) I.ok.above))).trans (I.base.keep b o e n hb hx)
 ·obtain ⟨sl,e1⟩:=I.base.slot b o e n hb hx
  exact ⟨sl,(hs.2 b (Nat.ne_of_lt (was (wai e) I.ok.above))).trans e1⟩
 ·obtain ⟨o',e1⟩:=I.base.there b o e hx
  exact ⟨o',(hs.2 b (Nat.ne_of_lt (was (wai e) I.ok.above))).trans e1⟩
 ·by_cases hj:j=i
  ·subst hj
   have hlt:j < Y.length:=by rw[I.len];exact (wam.mp hi).1
   rw[List.getElem?_set_self hlt] at e2
   cases e2
  ·rw[List.getElem?_set_ne (Ne.symm hj)] at e2
   obtain ⟨u',r',q⟩:=hl j y v' e1 e2 e3
   refine ⟨u',r',?_⟩
   rcases q with ⟨k,e⟩|⟨k,c,e,z⟩
   ·refine .inl ⟨k,?_⟩
    have:y≠x:=fun e=>hj (zi3 hN e1 (e ▸ hi))
    simp[this,e]
   ·exact .inr ⟨k,c,e,z.sameBut hs (cne y c e)⟩
 ·obtain ⟨w',z⟩:=I.cell y c e
  exact ⟨w',z.sameBut hs (cne y c e)⟩
 ·obtain ⟨e,n,ne,nf,d⟩:=I.pin p hp
  exact ⟨(hs.2 p.1 ne).trans e,n,ne,nf,d⟩
theorem zia{s1:Shared}{h:Heap}{l C:Addr}{a0:Value}{B:Heap}{H':Hp}(I:L2.Inv X pS Y H s)(os:s1.os=s.os)(bare:AllBare s1.gens)(un:Un (frs X.stack) [] H H' s.heap s1.heap)(hok:HOk X.prog X.w H' s1.heap)
  (fl:Heap.FlyingW B X.stack l (.ref C) a0 s1.heap) (hb1:∀ b o,s.heap.get? b=some o->b∉frs X.stack->∃ u,B.get? b=some u) (hb2:∀ b u,H' b=some u->∃ o,B.get? b=some o) (hnw:s.heap.get? l=none)
  (fl3:Heap.FlyingW B X.stack l (.ref C) a0 h) (up:s1.heap.UpToSlots h):H' l=none/\L2.Inv X pS Y (upd H' l (xHO l C)) { s1 with heap:=h }:=by
 have hl:H' l=none:=by
  cases q:H' l with
  |none=>rfl
  |some u=>obtain ⟨o,e⟩:=hb2 l u q;rw[fl.2.1] at e;cases e
 have at3:∀{b:Addr}{u:Obj},B.get? b=some u->s1.heap.get? b=some u/\h.get? b=some u:=fun {b u} e=>⟨fl.1 b u e,fl3.1 b u e⟩
 have slot:∀ b o,s.heap.get? b=some o->b∈frs X.stack->∃ sl,h.get? b=some { o with slots:=sl }:=fun b o e1 hb=>by
  obtain ⟨sl2,e3⟩:=un.slot b o e1 (I.stkFree b hb) hb xws
  obtain ⟨_,o4,e4,d4⟩:=fl.2.2.1.mem (b:=b) hb
  rw[e3] at e4;cases e4
  obtain ⟨sl3,e5⟩:=up b _ e3 d4
  exact ⟨sl3,e5⟩
 refine ⟨hl,I.call' (s':={ s1 with heap:=h }) (ch:=[]) os ⟨fun b o e1 n hb _=>?_,fun b o e1 n hb _=>slot b o e1 hb,fun b o e1 n _=>?_,fun b o e1 _=>?_,fun b xs q=>?_,fun b o u q=>?_,fun b ps q=>?_⟩ (fun b u e=>?_) bare fun b hb=>absurd hb xws⟩
 ·have e3:=un.keep b o e1 n hb xws
  obtain ⟨u,hu⟩:=hb1 b o e1 hb
  obtain ⟨q1,q2⟩:=at3 hu
  rw[e3] at q1;cases q1;exact q2
 ·rw[zah (fun z=>by subst z;rw[hnw] at e1;cases e1)];exact un.free b o e1 n xws
 ·by_cases hb:b∈frs X.stack
  ·obtain ⟨sl,e2⟩:=slot b o e1 hb;exact ⟨_,e2⟩
  ·obtain ⟨u,hu⟩:=hb1 b o e1 hb;exact ⟨u,(at3 hu).2⟩
 ·have:=un.tups b xs q
  rw[zah (zak this hl)];exact this
 ·have:=un.frzs b o u q
  rw[zah (zak this hl)];exact this
 ·obtain ⟨m,e⟩:=un.tbls b ps q
  exact ⟨m,by rw[zah (zak e hl)];exact e⟩
 ·by_cases hb:b=l
  ·subst hb
   rw[zan] at e;cases e
   obtain ⟨oe,vs,e1,e2,e3,_⟩:=fl3.first
   exact ⟨⟨oe,vs,e1,e2,e3⟩,⟨oe,e1⟩,fun h1 h2 ⟨o,ws,q1,q2,q3⟩ k=>⟨o,ws,k o q1,q2,q3⟩⟩
  ·rw[zah hb] at e
   refine (hok b u e).stay (fun c o hc q=>?_) (fun c z=>?_) fun c xs z=>?_
   ·have hcu:∃ u',H' c=some u':=by
     rcases hc with rfl|hc
     ·exact ⟨_,e⟩
     ·exact ⟨_,hc⟩
    obtain ⟨u',hu'⟩:=hcu
    obtain ⟨o',ho'⟩:=hb2 c u' hu'
    obtain ⟨q1,q2⟩:=at3 ho'
    rw[q] at q1;cases q1;exact q2
   ·rw[zah (zak z hl)];exact z
   ·rw[zah (zak z hl)];exact z
end
def znz(X:Cx)(e:Value)(E:Value->Shared->Prop):Cx:={ X with A:=X.A.mark (some e),calm:=false,xe:=E }
theorem zoH{X:Cx}{pS:List (Addr×Obj)}{Y:L2.St}{H:Hp}{s:Shared}{e:Value}{E:Value->Shared->Prop}(I:L2.Inv X pS Y H s):L2.Inv (znz X e E) pS Y H s:=by
 have ok:=I.ok
 exact ⟨⟨ok.mod,ok.kind,ok.glob,ok.blt,ok.above,ok.inj,ok.has,ok.cab,fun h=>absurd h (by simp[znz]),ok.frames,ok.stk,ok.exf,ok.bs,ok.bsz,ok.noex,ok.exfs,ok.funs,ok.frf⟩,I.os,I.bare,I.base,I.loc,I.cell,I.free,I.freeC,I.pin,I.hok,I.len⟩
theorem znt{X:Cx}{pS:List (Addr×Obj)}{Y:L2.St}{H:Hp}{s:Shared}{e:Value}{E:Value->Shared->Prop}(hok:X.Ok)(I:L2.Inv (znz X e E) pS Y H s):L2.Inv X pS Y H s :=
 ⟨hok,I.os,I.bare,I.base,I.loc,I.cell,I.free,I.freeC,I.pin,I.hok,I.len⟩
def EL(Cc:Addr)(H:Hp):XK:=fun u _ H'=>u=.ref Cc/\zcq H H'
section
variable{X:Cx}{p1 p2 p3 p4 p5 p6 p7 p8 p9:Pos}{Cc Cs Fa:Addr}{H0:Hp}{iF ierr ie:Nat}{xF xerr xe xS:Str}
theorem znR(hc:X.calm=true)(hN:X.N.Nodup)(hst:X.stack=X.env::X.outer)(hfrm:X.env.frame=some X.env.locals)
  (hF:∀ pS Y H s,L2.Inv X pS Y H s->zcq H0 H->codeAny (model X.prog X.w) X.A (.call (.ref Fa) ⟨[],[]⟩) (fun r s'=>∃ e,r=.error e/\CXf X.prog X.w X.stack H s (EL Cc H) e s') s)
  (hFn:∀ pS Y H s,L2.Inv X pS Y H s->zcq H0 H->W.FnAt Fa s.heap)
  (xs:Xin X.K Cs) (hsub:W.subIn X.K (.ref Cc) (.ref Cs)=some true) (hmS:X.mg xS=some (.ref Cs)) (hgS:Gl X xS)
  (hNF:X.N[iF]? = some xF) (hNerr:X.N[ierr]? = some xerr) (hNe:X.N[ie]? = some xe) (hie:ie≠ierr) (kF:X.env.scope.names.lookup xF=some .local) (kerr:X.env.scope.names.lookup xerr=some .local) (ke:X.env.scope.names.lookup xe=some .local)
  (hd1:(xF == ("__debug__" : Str))=false:=by decide) (hd2:(xF == ("__classdict__" : Str))=false:=by decide) (hd3:(xS == ("__debug__" : Str))=false:=by decide) (hd4:(xe == ("__debug__" : Str))=false:=by decide) (hd5:(xe == ("__classdict__" : Str))=false:=by decide)
  (hsw:swapsWith (.Call (.Name xF p1) [] [] p2) none p3.line X.env=pure false:=by rfl) (hsw2:swapsWith (.Name xe p6) (some (.Name xerr p5)) p7.line X.env=pure false:=by rfl) :
  PS X (.Try [.Expr (.Call (.Name xF p1) [] [] p2) p3] [.ExceptHandler (some (.Name xS p4)) (some xe) [.Assign [.Name xerr p5] (.Name xe p6) p7] p8] [] [] p9)
   (fun D Y H=>Y[iF]? = some (some (.ref Fa))/\zcq H0 H/\∀ l H',zcq H H'->H' l=none->D.nx (((Y.set ie (some (.ref l))).set ierr (some (.ref l))).set ie none) (upd H' l (xHO l Cc))):=by
 intro pS s Y H D I ⟨h0,eH,hD⟩
 refine wpAny_Try_except ?_
 refine wpAny_execs_cons ?_
 have hv:∀ EE:Value->Shared->Prop,wpAny (model X.prog X.w) X.A (eval (.Name xF p1) X.env) (EP (X.wish EE) pS Y fun v H'=>v=.ref Fa/\H'=H) EE s:=fun EE =>
  zcm (X:=X.wish EE) (pos:=p1) hNF (.inl kF) hd1 hd2 pS s Y H (fun v H'=>v=.ref Fa/\H'=H) (I.wish EE) ⟨_,h0,rfl,rfl⟩
 refine wpAny_Expr_any (wpAny_Call_Name_kw (wpAny_mono (hv _) (fun u s1 ⟨v,H1,I1,r,e1,e2⟩=>?_) fun _ _ z=>z)) I.quiet hsw
 subst e1 e2
 cases r
 have I1:=I1.unwish
 refine W.callWith_F0 (hFn _ _ _ _ I1 eH) (wpAny_call (codeAny_mono (hF _ _ _ _ I1 eH) fun r s2 ⟨e,er,hx⟩=>?_))
 subst er
 obtain ⟨l,cls,a0,B,H',rfl,os,bare,un,hok,fl,hb1,hb2,hnw,ecls,same⟩:=hx
 subst ecls
 show wpAny _ _ (noteFrame (.ref l) X.env) _ _ s2
 rw[hst] at fl
 refine wpAny_looks_onW (by rw[I1.ok.frames,hst]) hfrm fl fun h3 held3 up3=>?_
 refine wpAny_landsW held3 fun h4 fl4 up4=>?_
 rw[<- hst] at fl fl4
 obtain ⟨hl,I4⟩:=zia I1 os bare un hok fl hb1 hb2 hnw fl4 (up3.trans up4)
 refine wpAny_handleBy_cons (codeAny_handlers_test ?_) (by intro q;cases q)
 refine zhe (X:=znz X (.ref l) fun _ _=>True) (zoH I4) hgS hmS ?_ hd3
 have xat:XAt l Cc h4:=by obtain ⟨oe,vs,q1,q2,q3,_⟩:=fl4.first;exact ⟨oe,vs,q1,q2,q3⟩
 refine zpK (K:=X.K) I4.kIn xat xs hsub ?_
 refine codeAny_handlers_suite_as ?_
 refine lands_againW fl4 fun h5 fl5 up5=>?_
 obtain ⟨_,I5⟩:=zia I1 os bare un hok fl hb1 hb2 hnw fl5 ((up3.trans up4).trans up5)
 refine ziM I5 hN hNe (.inl ke) (v:=.ref l) rfl (fun s6 I6=>?_) (.inr ke)
 have hsuite:=fun EE:Value->Shared->Prop=>znW (X:=znz X (.ref l) EE) (zlI (pos:=p7) (pos':=p5) hN hNerr (.inl kerr) (zcm (pos:=p6) hNe (.inl ke) hd4 hd5) hsw2 (.inr kerr)) pS s6 (Y.set ie (some (.ref l))) (upd H' l (xHO l Cc)) { nx:=fun Y' H''=>Y'=(Y.set ie (some (.ref l))).set ierr (some (.ref l))/\H''=upd H' l (xHO l Cc),rt:=fun _ _=>False } (zoH I6) ⟨.ref l,by
  rw[List.getElem?_set_self (by rw[I5.len];exact (wam.mp hNe).1)],rfl,rfl⟩
 refine wpAny_mono (hsuite _) (fun f s7 h7=>?_) fun _ _ z=>z
 cases f with
 |next =>
  obtain ⟨Y',H'',I7,e1,e2⟩:=h7
  subst e1 e2
  have I7:=znt I4.ok I7
  obtain ⟨m7,hm7,_⟩:=I7.loc
  refine wpAny_nameGoes_keeps (env:=X.env) ke hm7 (by rw[I7.ok.kind];rfl) fun h8 v hn8 hs8=>?_
  refine ⟨_,_,zmw (x:=xe) (i:=ie) (v:=v) I7 hN hNe (fun m hm=>?_) hs8,hD l H' same hl⟩
  obtain ⟨o,es,ep,ho,hd,hk,hmm⟩:=hn8
  obtain ⟨o',es',ep',ho',hd',hk',hm'⟩:=hm
  obtain ⟨o7,es7,ep7,ho7,hd7,hk7,hm7'⟩:=hm7
  rw[ho'] at ho7;cases ho7
  rw[hd'] at hd7;cases hd7
  exact ⟨o,es,ep,ho,hd,hk,fun x=>by rw[hmm x];show (if x=xe then v else m7 x)=if x=xe then v else m x;rw[<- hm7' x,hm' x]⟩
 |brk=>obtain ⟨_,_,_,z⟩:=h7;exact z.elim
 |cont=>obtain ⟨_,_,_,z⟩:=h7;exact z.elim
 |ret u=>obtain ⟨_,_,_,_,_,z⟩:=h7;exact z.elim
end
def fHO(a:Addr)(ob:Obj):HO:=.ext fun h=>h.get? a=some ob
structure zeZ(X:Cx)(P:Addr):Prop where
 code:∃ c,X.env.code=.ref c/\W.CodeHd X.base c P
 blt:X.base.BuiltinsAt X.mg P
theorem zjY{P:Program}{w:World}{H:Hp}{h:Heap}{a:Addr}{φ : Heap->Prop}{o:Obj}(h1:φ h)(h2:h.get? a=some o)(h3:∀ x y:Heap,φ x->(∀ o,x.get? a=some o->y.get? a=some o)->φ y):zbO P w H h a (.ext φ):=⟨h1,⟨o,h2⟩,h3⟩
theorem zlg{c:Addr}{q:Str}(x y:Heap)(h:x.CodeRec (.ref c) q)(k:∀ o,x.get? c=some o->y.get? c=some o):y.CodeRec (.ref c) q:=by
 obtain ⟨c',o,vs,t,e,h1,h2,h3⟩:=h
 cases e
 exact ⟨c,o,vs,t,rfl,k o h1,h2,h3⟩
structure zpu(P:Addr)(q:Str)(G H:Hp)(ps:Array Value):Prop where
 at_:H P=some (.tbl ps)
 tri:TriplesOk ps.toList
 cod:∀ pos cv,codeAmong pos ps.toList=some cv->∃ c,cv=.ref c/\G c=some (cHO c q)
section
variable{X:Cx}{pS:List (Addr×Obj)}{Y:L2.St}{H:Hp}{s:Shared}{P:Addr}{q:Str}{params:Arguments}{body:Expr}{scope:Scope}{pos:Pos}{cl:List (Str×Addr)}{ps:Array Value}{Q:VK}
theorem zts(LB:zeZ X P)(I:L2.Inv X pS Y H s)(hdef:defaultsOf params X.env=([],[]))(hcl:closureFor scope X.env=pure cl)(T:zpu P (X.env.qual++"<lambda>") H H ps)
  (hA:∀ c Fa ctv,codeAmong pos ps.toList=none->H c=none->H Fa=none->c≠Fa->Q (.ref Fa) (upd (upd (upd H P (.tbl (ps++#[rawInt pos.line,rawInt pos.col,.ref c]))) c (cHO c (X.env.qual++"<lambda>"))) Fa (fHO Fa (W.kla_obj "<lambda>" (X.env.qual++"<lambda>") params body scope cl ((X.mg "__name__").getD .none) c ctv))))
  (hB:∀ c Fa ctv,codeAmong pos ps.toList=some (.ref c)->H Fa=none->Q (.ref Fa) (upd H Fa (fHO Fa (W.kla_obj "<lambda>" (X.env.qual++"<lambda>") params body scope cl ((X.mg "__name__").getD .none) c ctv)))) :
  wpAny (model X.prog X.w) X.A (eval (.Lambda params body scope pos) X.env) (EP X pS Y Q) X.xe s:=by
 obtain ⟨c0,hc0,C0⟩:=LB.code
 have C0':=C0.keeps I.bk
 have hg:=I.mod.glob.keeps I.bk
 have oP:s.heap.get? P=some (W.tabObj ps):=I.hok P _ T.at_
 have nP:∀ b o,X.base.get? b=some o->b≠P:=fun b o e z=>by
  have:=(I.bs b o e).2
  rw[z,T.at_] at this;cases this
 have hgP:mainGlobals≠P:=by
  obtain ⟨o,es,ep,e,_⟩:=I.mod.glob
  exact nP _ _ e
 have hbl:s.heap.BuiltinsAt X.mg P:=by
  obtain ⟨bm,o,b1,b2,b3,b4,b5,b6⟩:=LB.blt
  exact ⟨bm,o,b1,b2,b3,b4,I.bk _ _ b5,b6⟩
 refine W.kla_eval hdef ?_
 cases hk:codeAmong pos ps.toList with
 |none =>
  refine W.kla_makeFunction (mg:=X.mg) hcl I.ok.glob hg hc0 C0' oP T.tri hk hgP hbl fun c' ctv h' tk hx hge hlt hrec htb=>?_
  have hcn:H c'=none:=I.hok.fresh hge
  have hFn:H h'.objs.size=none:=I.hok.fresh (Nat.le_trans hge (Nat.le_of_lt hlt))
  have hne:c'≠h'.objs.size:=Nat.ne_of_lt hlt
  have cP:c'≠P:=fun z=>by rw[z,T.at_] at hcn;cases hcn
  have fP:h'.objs.size≠P:=fun z=>by rw[z,T.at_] at hFn;cases hFn
  have kp:∀ b o,b≠P->s.heap.get? b=some o->(h'.push (W.kla_obj "<lambda>" (X.env.qual++"<lambda>") params body scope cl ((X.mg "__name__").getD .none) c' ctv)).get? b=some o:=fun b o hb e=>waa _ (hx b o hb e)
  have hq:=hA c' h'.objs.size ctv hk hcn hFn hne
  refine ⟨.ref h'.objs.size,_,I.call' (s':={ s with heap:=h'.push (W.kla_obj "<lambda>" (X.env.qual++"<lambda>") params body scope cl ((X.mg "__name__").getD .none) c' ctv),toks:=tk }) (ch:=[]) rfl ⟨fun b o e n _ _=>?_,fun b o e n _ _=>?_,fun b o e n _=>?_,fun b o e _=>?_,fun b xs z=>?_,fun b o u z=>?_,fun b pz z=>?_⟩ (fun b u e=>?_) I.bare fun b hb=>absurd hb xws,rfl,hq⟩
  ·exact kp b o (fun z=>by rw[z,T.at_] at n;cases n) e
  ·exact ⟨o.slots,kp b o (fun z=>by rw[z,T.at_] at n;cases n) e⟩
  ·have l1:=wai e
   rw[zah (Nat.ne_of_lt (Nat.lt_trans (Nat.lt_of_lt_of_le l1 hge) hlt)),zah (Nat.ne_of_lt (Nat.lt_of_lt_of_le l1 hge)),zah (fun z=>by rw[z,T.at_] at n;cases n)]
   exact n
  ·by_cases hb:b=P
   ·subst hb;exact ⟨_,waa _ htb⟩
   ·exact ⟨o,kp b o hb e⟩
  ·rw[zah (zak z hFn),zah (zak z hcn),zah (fun y=>by rw[y,T.at_] at z;cases z)];exact z
  ·rw[zah (zak z hFn),zah (zak z hcn),zah (fun y=>by rw[y,T.at_] at z;cases z)];exact z
  ·by_cases hb:b=P
   ·subst hb
    rw[T.at_] at z;cases z
    exact ⟨_,by rw[zah (Ne.symm fP),zah (Ne.symm cP),zan]⟩
   ·exact ⟨#[],by rw[zah (zak z hFn),zah (zak z hcn),zah hb,z];simp⟩
  ·by_cases hbF:b=h'.objs.size
   ·rw[hbF,zan] at e;cases e
    rw[hbF]
    exact zjY (waj _ rfl) (waj _ rfl) fun x y h k=>k _ h
   ·rw[zah hbF] at e
    by_cases hbc:b=c'
    ·rw[hbc,zan] at e;cases e
     rw[hbc]
     have hr:=hrec.push (W.kla_obj "<lambda>" (X.env.qual++"<lambda>") params body scope cl ((X.mg "__name__").getD .none) c' ctv)
     obtain ⟨c2,o2,_,_,e2,h2,_⟩:=id hr
     cases e2
     exact zjY hr h2 zlg
    ·rw[zah hbc] at e
     by_cases hbP:b=P
     ·rw[hbP,zan] at e;cases e
      rw[hbP]
      exact waa _ htb
     ·rw[zah hbP] at e
      refine (I.hok b u e).stay (fun d o hd z=>?_) (fun d z=>?_) fun d xs z=>?_
      ·refine kp d o (fun y=>?_) z
       rcases hd with hd|hd
       ·exact hbP (hd.symm.trans y)
       ·rw[y,T.at_] at hd;cases hd
      ·rw[zah (zak z hFn),zah (zak z hcn),zah (fun y=>by rw[y,T.at_] at z;cases z)];exact z
      ·rw[zah (zak z hFn),zah (zak z hcn),zah (fun y=>by rw[y,T.at_] at z;cases z)];exact z
 |some cv =>
  obtain ⟨c,rfl,hcG⟩:=T.cod pos cv hk
  refine W.kla_makeFunctionHit (mg:=X.mg) hcl I.ok.glob hg hc0 C0' oP T.tri hk hbl fun ctv h' tk hkp hsz=>?_
  have hFn:H h'.objs.size=none:=I.hok.fresh hsz
  exact ⟨.ref h'.objs.size,_,I.laid (t':=tk) (fun b u e=>waa _ (hkp b u e)) hsz (zjY (waj _ rfl) (waj _ rfl) fun x y h k=>k _ h),rfl,hB c h'.objs.size ctv hk hFn⟩
end
def znI(iF ierr ie:Nat)(Cc:Addr):DS:=fun Z=>match Z[iF]? with
 |some (some .opq)=>if ierr < Z.length/\ie < Z.length then .ok (.nx,(Z.set ierr (some (.exc Cc))).set ie none) else .no
 |_=>.no
section
variable{X:Cx}{C:Cn}{p1 p2 p3 p4 p5 p6 p7 p8 p9:Pos}{Cc Cs Fa:Addr}{iF ierr ie:Nat}{xF xerr xe xS:Str}
theorem zpa(hc:X.calm=true)(hN:X.N.Nodup)(hst:X.stack=X.env::X.outer)(hfrm:X.env.frame=some X.env.locals)(hw0:C.w₀=fun _=>none)(hpp:C.pp=[iF])(hσ0:C.σ₀[iF]? = some (some (.ref Fa)))
  (hF:∀ pS Y H s,L2.Inv X pS Y H s->zcq C.H₀ H->codeAny (model X.prog X.w) X.A (.call (.ref Fa) ⟨[],[]⟩) (fun r s'=>∃ e,r=.error e/\CXf X.prog X.w X.stack H s (EL Cc H) e s') s)
  (hFn:∀ pS Y H s,L2.Inv X pS Y H s->zcq C.H₀ H->W.FnAt Fa s.heap)
  (xs:Xin X.K Cs) (hsub:W.subIn X.K (.ref Cc) (.ref Cs)=some true) (hmS:X.mg xS=some (.ref Cs)) (hgS:Gl X xS)
  (hNF:X.N[iF]? = some xF) (hNerr:X.N[ierr]? = some xerr) (hNe:X.N[ie]? = some xe) (hie:ie≠ierr) (hF1:ierr≠iF) (hF2:ie≠iF) (kF:X.env.scope.names.lookup xF=some .local) (kerr:X.env.scope.names.lookup xerr=some .local) (ke:X.env.scope.names.lookup xe=some .local)
  (hd1:(xF == ("__debug__" : Str))=false:=by decide) (hd2:(xF == ("__classdict__" : Str))=false:=by decide) (hd3:(xS == ("__debug__" : Str))=false:=by decide) (hd4:(xe == ("__debug__" : Str))=false:=by decide) (hd5:(xe == ("__classdict__" : Str))=false:=by decide)
  (hsw:swapsWith (.Call (.Name xF p1) [] [] p2) none p3.line X.env=pure false:=by rfl) (hsw2:swapsWith (.Name xe p6) (some (.Name xerr p5)) p7.line X.env=pure false:=by rfl) :
  JS X C (.Try [.Expr (.Call (.Name xF p1) [] [] p2) p3] [.ExceptHandler (some (.Name xS p4)) (some xe) [.Assign [.Name xerr p5] (.Name xe p6) p7] p8] [] [] p9) (znI iF ierr ie Cc) :=
 PS.weak (znR hc hN hst hfrm hF hFn xs hsub hmS hgS hNF hNerr hNe hie kF kerr ke hd1 hd2 hd3 hd4 hd5 hsw hsw2) fun D Y H ⟨G,w,Z,r,p⟩=>by
  unfold znI at p
  split at p
  ·split at p
   ·rename_i hlen
    have sm:zcq C.H₀ H:=fun b o e=>r.en.h b o e (by rw[hw0])
    refine ⟨by rw[r.pin iF (by rw[hpp];simp)];exact hσ0,sm,fun l H' same hl=>?_⟩
    have hHl:H l=none:=by
     cases q:H l with
     |none=>rfl
     |some u=>rw[same l u q] at hl;cases hl
    have hGl:G l=none:=by
     cases q:G l with
     |none=>rfl
     |some u=>rw[r.gh l u q] at hHl;cases hHl
    have wl:∀ b,w b≠none->b≠l:=fun b e z=>by subst z;exact r.wh b e hHl
    have sG:zcq G (upd G l (xHO l Cc)):=fun b u e=>by rw[zah (zak e hGl)];exact e
    have sH:zcq H (upd H' l (xHO l Cc)):=fun b u e=>by rw[zah (zak e hHl)];exact same b u e
    have st:zbv G H w (upd G l (xHO l Cc)) (upd H' l (xHO l Cc)) w:=by
     refine ⟨sG,fun b o e=>?_,fun b o e _=>sH b o e,fun b e=>.inl e,fun b e=>?_⟩
     ·by_cases hb:b=l
      ·subst hb;exact .inr (.inl hHl)
      ·rw[zah hb] at e;exact .inl (by rw[e];simp)
     ·cases q:H b with
      |none=>rfl
      |some u=>rw[sH b u q] at e;cases e
    refine p _ _ _ _ st ⟨fun b u e=>?_,fun b e=>?_,fun b e z=>?_,by simpa using r.len,fun i b e=>?_,r.en.trans st,fun i hi=>?_⟩
    ·by_cases hb:b=l
     ·subst hb;rw[zan] at e ⊢;exact e
     ·rw[zah hb] at e ⊢;exact same b u (r.gh b u e)
    ·rw[zah (wl b e)];exact r.wg b e
    ·cases q:H b with
     |none=>exact r.wh b e q
     |some u=>rw[sH b u q] at z;cases z
    ·by_cases h2:i=ie
     ·subst h2;rw[List.getElem?_set_self (by simpa using hlen.2)] at e;cases e
     ·rw[List.getElem?_set_ne (Ne.symm h2)] at e ⊢
      by_cases h1:i=ierr
      ·subst h1
       rw[List.getElem?_set_self hlen.1] at e;cases e
       refine ⟨.ref l,?_,l,rfl,zan⟩
       rw[List.getElem?_set_self (by rw[List.length_set,<- r.len];exact hlen.1)]
      ·rw[List.getElem?_set_ne (Ne.symm h1)] at e ⊢
       rw[List.getElem?_set_ne (Ne.symm h2)]
       obtain ⟨v,q1,q2⟩:=r.sl i b e
       exact ⟨v,q1,q2.grow sG fun a o e1 e2=>⟨sH a o e2,e1⟩⟩
    ·rw[hpp] at hi
     have:i=iF:=by simpa using hi
     subst this
     rw[List.getElem?_set_ne hF2,List.getElem?_set_ne hF1,List.getElem?_set_ne hF2]
     exact r.pin i (by rw[hpp];simp)
   ·exact p.elim
  ·exact p.elim
end
theorem zv7{CX:CXT}{P:Program}{w:World}{K:W.Frag}{mg:Str->Option Value}{base:Heap}{k:Nat}{f:Addr}{name qual:Str}{params:Arguments}{body:List Stmt}{scope:Scope}{dV kV doc pm cdv ct oc:Value}{an od:Option Addr}
  {osl:Array (Option Value)} {N ps:List Str} {A:Around} {outer:List Env} {s:Shared} {H:Hp} {args:Args} {us:List Value} {vs:List V} {Q:VK} {E:XK} (lk:K.lookup f=some ⟨oc,od,.func (W.fnOf name qual params body scope dV kV doc pm an cdv ct),osl⟩) (hcd:W.codeIn K cdv qual=true) (S:zax N ps scope)
  (hr:zcY (k+1) A) (e0:zp2 P w K mg base A outer s H) (hb:BindsTo s (W.fnOf name qual params body scope dV kV doc pm an cdv ct) args (ps.zip us)) (r:zbc vs us) (hl:vs.length=ps.length)
  (hbody:∃ t,PSs (ziN CX P w K mg base N qual scope f cdv A outer s H E) body t/\t { nx:=fun _ H'=>Q .non H',rt:=Q } (start N vs) H) :
  codeAny (model P w) A (.call (.ref f) args) (CR CX outer P w H s Q E) s:=by
 have hin:K.In s.heap:=e0.mod.kin.keeps fun b o e=>(e0.bs b o e).1
 have nolim:s.heap.NoLimit:=e0.mod.nolimit.keeps fun b o e=>(e0.bs b o e).1
 have zbx:∀ y∈ps.zip us,scope.names.lookup y.1=some .local\/(scope.names.lookup y.1=some .cell/\((cellsFrom (s.heap.objs.size+1) scope.names []).lookup y.1).isSome=true):=fun ⟨n,v⟩ hy=>by
  rcases S.par n (List.of_mem_zip hy).1 with q|q
  ·exact .inl q
  ·exact .inr ⟨q,W.cellsFrom_some _ _ _ (.inl q)⟩
 have dp:A.depth<recursionLimit:=by have:=hr.dp;omega
 refine codeAny_call_function dp (hin _ _ lk) rfl S.co S.gen rfl (W.codeRec_of hin hcd) (hb _ _ _ _ ?_)
 refine wpAny_newFunctionEnv_cells S.kind zbx fun env he s1 x=>?_
 subst he
 refine ⟨nolim.keeps x.toInCall.keep,codeAny_func ?_⟩
 obtain ⟨t,ht,hq⟩:=hbody
 have I:=zh3 (CX:=CX) (K:=K) (mg:=mg) (base:=base) (E:=E) (qual:=qual) (f:=f) (cd:=cdv) S hr.hd e0 hl r x
 refine wpAny_mono (ht [] s1 (start N vs) H _ I hq) (fun fl s' hs=>?_) fun e s' hs=>hs
 cases fl with
 |ret u=>obtain ⟨v,Y',H',J,rv,q⟩:=hs;exact ⟨v,H',J.os,J.bare,J.base,J.hok,rv,q⟩
 |next=>obtain ⟨Y',H',J,q⟩:=hs;exact ⟨V.non,H',J.os,J.bare,J.base,J.hok,rfl,q⟩
 |brk=>obtain ⟨_,_,_,q⟩:=hs;exact q.elim
 |cont=>obtain ⟨_,_,_,q⟩:=hs;exact q.elim
theorem zjW{a b:Int}{t u:Tok}{c:Value}:∀{l:List Value},TriplesOk l->TriplesOk (l++[.int a t,.int b u,c]):=by
 intro l h
 fun_induction TriplesOk l with
 |case1=>simp[TriplesOk]
 |case2 x1 x2 x3 x4 x5 zaL ih=>simpa [TriplesOk] using ih h
 |case3=>exact h.elim
theorem zmk{p:Pos}{a b:Int}{t u:Tok}{c cv:Value}:∀{l:List Value},TriplesOk l->codeAmong p (l++[.int a t,.int b u,c])=some cv->codeAmong p l=some cv\/cv=c:=by
 intro l h e
 fun_induction TriplesOk l with
 |case1 =>
  simp only[List.nil_append,codeAmong] at e
  split at e
  ·exact .inr (waB e).symm
  ·cases e
 |case2 x1 x2 x3 x4 x5 zaL ih =>
  simp only[List.cons_append,codeAmong] at e ⊢
  split at e
  ·rename_i hh;rw[if_pos hh];exact .inl e
  ·rename_i hh;rw[if_neg hh];exact ih h e
 |case3=>exact h.elim
section
variable{K:W.Frag}{C:Cn}{G H:Hp}{w:Wn}{Z:Ev}{Y:L2.St}{j:Nat}{q:Str}{P c Fa:Addr}{ps:Array Value}{a b:Int}{t u:Tok}{ob:Obj}
theorem Rel.lamA(r:Rel K C G w Z Y H)(hj:Z[j]? = some (some (.tab q)))(hσ:Y[j]? = some (some (.ref P)))(hw:w P=some j)(T:zpu P q G H ps)(hc:H c=none)(hF:H Fa=none)(hne:c≠Fa) :
  Rel K C (upd (upd G c (cHO c q)) Fa (fHO Fa ob)) w Z Y (upd (upd (upd H P (.tbl (ps++#[.int a t,.int b u,.ref c]))) c (cHO c q)) Fa (fHO Fa ob)) /\
   zbv G H w (upd (upd G c (cHO c q)) Fa (fHO Fa ob)) (upd (upd (upd H P (.tbl (ps++#[.int a t,.int b u,.ref c]))) c (cHO c q)) Fa (fHO Fa ob)) w:=by
 have gf:∀{x:Addr},H x=none->G x=none:=fun {x} e=>r.gh.free e
 have cP:c≠P:=fun z=>by rw[z,T.at_] at hc;cases hc
 have fP:Fa≠P:=fun z=>by rw[z,T.at_] at hF;cases hF
 have gP:G P=none:=r.wg P (by rw[hw];simp)
 have sG:zcq G (upd (upd G c (cHO c q)) Fa (fHO Fa ob)):=fun x o e=>by rw[zah (zak e (gf hF)),zah (zak e (gf hc))];exact e
 have oth:∀{x:Addr}{o:HO},x≠P->H x=some o->upd (upd (upd H P (.tbl (ps++#[.int a t,.int b u,.ref c]))) c (cHO c q)) Fa (fHO Fa ob) x=some o:=fun {x o} hx e=>by
  rw[zah (zak e hF),zah (zak e hc),zah hx];exact e
 have dom:∀ x,upd (upd (upd H P (.tbl (ps++#[.int a t,.int b u,.ref c]))) c (cHO c q)) Fa (fHO Fa ob) x=none->H x=none:=fun x e=>by
  by_cases h1:x=Fa
  ·rw[h1,zan] at e;cases e
  ·rw[zah h1] at e
   by_cases h2:x=c
   ·rw[h2,zan] at e;cases e
   ·rw[zah h2] at e
    by_cases h3:x=P
    ·rw[h3,zan] at e;cases e
    ·rw[zah h3] at e;exact e
 have st:zbv G H w (upd (upd G c (cHO c q)) Fa (fHO Fa ob)) (upd (upd (upd H P (.tbl (ps++#[.int a t,.int b u,.ref c]))) c (cHO c q)) Fa (fHO Fa ob)) w:=by
  refine ⟨sG,fun x o e=>?_,fun x o e z=>oth (fun y=>by rw[y,hw] at z;cases z) e,fun x e=>.inl e,dom⟩
  by_cases h1:x=Fa
  ·rw[h1];exact .inr (.inl hF)
  ·rw[zah h1] at e
   by_cases h2:x=c
   ·rw[h2];exact .inr (.inl hc)
   ·rw[zah h2] at e;exact .inl (by rw[e];simp)
 refine ⟨⟨fun x o e=>?_,fun x e=>?_,fun x e z=>r.wh x e (dom x z),r.len,fun i bb e=>?_,r.en.trans st,r.pin⟩,st⟩
 ·by_cases h1:x=Fa
  ·rw[h1,zan] at e ⊢;exact e
  ·rw[zah h1] at e ⊢
   by_cases h2:x=c
   ·rw[h2,zan] at e ⊢;exact e
   ·rw[zah h2] at e ⊢
    rw[zah (fun y=>by rw[y,gP] at e;cases e)]
    exact r.gh x o e
 ·have:=r.wh x e
  rw[zah (fun y=>this (by rw[y];exact hF)),zah (fun y=>this (by rw[y];exact hc))]
  exact r.wg x e
 ·obtain ⟨v,e1,e2⟩:=r.sl i bb e
  by_cases hi:i=j
  ·subst hi
   rw[hj] at e;cases e
   rw[hσ] at e1;cases e1
   refine ⟨_,hσ,P,ps++#[.int a t,.int b u,.ref c],rfl,hw,?_,?_,fun p cv hcv=>?_⟩
   ·rw[zah (Ne.symm fP),zah (Ne.symm cP),zan]
   ·rw[Array.toList_append];exact zjW T.tri
   ·rw[Array.toList_append] at hcv
    rcases zmk T.tri hcv with z|z
    ·obtain ⟨c2,q1,q2⟩:=T.cod p cv z
     exact ⟨c2,q1,sG _ _ q2⟩
    ·exact ⟨c,z,by rw[zah hne,zan]⟩
  ·refine ⟨v,e1,e2.grow sG fun x o z1 z2=>⟨oth (fun y=>?_) z2,z1⟩⟩
   rw[y,hw] at z1
   exact hi (waB z1).symm
theorem Rel.lamB(r:Rel K C G w Z Y H)(hF:H Fa=none):Rel K C (upd G Fa (fHO Fa ob)) w Z Y (upd H Fa (fHO Fa ob))/\zbv G H w (upd G Fa (fHO Fa ob)) (upd H Fa (fHO Fa ob)) w :=
 let gr:zdU G H (upd G Fa (fHO Fa ob)) (upd H Fa (fHO Fa ob)):=.new r.gh hF
 ⟨r.grow gr,gr.step⟩
theorem zje{bs:List B}:∀{Z:Ev}{k:Nat},ze5 [] bs k Z = Z
 |[],_=>rfl
 |o::r,k=>by unfold ze5;rw[zje (Z:=r)];rfl
end
def zp6(j:Nat)(q:Str)(fE:De):DN:=fun Z=>match Z[j]? with
 |some (some (.tab q'))=>if q'=q then match fE (zcB Z) with
   |.er n=>if n<8 then .ok ([.int n],Z) else .no
   |_=>.no
  else .no
 |_=>.no
def zqx(C:Cn)(G H:Hp)(Y:L2.St):Cn:=⟨G,H,fun _=>none,[0],Y,fun _=>False,C.xv,true⟩
def zrI(C:Cn)(G H:Hp)(Y:L2.St)(n:Nat):Cn:=⟨G,H,fun _=>none,[],Y,fun m=>m=n,C.xv,false⟩
abbrev HB(X:Cx)(C:Cn)(xr:Str)(st:Stmt)(f:Addr)(NR:List Str)(k:Nat)(cls:Nat->Addr)(dB:Nat->Addr->DS):Prop:=∀(XR:Cx)(CR:Cn)(n:Nat)(Fa:Addr),n<8->(∃ cdv A outer s H E,XR=ziN (CXe X.prog X.w) X.prog X.w X.K X.mg X.base NR xr (zaj st) f cdv A outer s H E)->(∃ G H,CR=zqx C G H (start NR [.ref Fa]))->zcY (k+1) XR.A ->
   (∀ pS Y H s,L2.Inv XR pS Y H s->zcq CR.H₀ H->codeAny (model XR.prog XR.w) XR.A (.call (.ref Fa) ⟨[],[]⟩) (fun r s'=>∃ e,r=.error e/\CXf XR.prog XR.w XR.stack H s (EL (cls n) H) e s') s) ->
   (∀ pS Y H s,L2.Inv XR pS Y H s->zcq CR.H₀ H->W.FnAt Fa s.heap)->JSs XR CR (zcj st) (dB n (cls n))
abbrev HD(m:Nat)(dB:Nat->Addr->DS):Prop:=∀ n C',n<8->∃ Z',dB n C' (some .opq::List.replicate m none)=.ok (.rt (.lst [.int n]),Z')
abbrev HL(X:Cx)(xv:Nat->Value)(k:Nat)(body:Expr)(scope:Scope)(fE:De):Prop:=∀(XL:Cx)(CL:Cn),(∃ XR cl Fa cdv s H E,XR.prog=X.prog/\XR.w=X.w/\XR.K=X.K/\XR.mg=X.mg/\XR.base=X.base/\XL=zjh XR X.N scope cl (X.env.qual++"<lambda>") Fa cdv s H E)->CL.xv=xv->zcY k XL.A->zcH (CXe X.prog X.w) XL (EXc CL)->JE XL CL body fE
abbrev HA(X:Cx)(params:Arguments)(body:Expr)(scope:Scope):Prop:=∀ cl pm cdv ctv,bindArgs (W.kla_fn "<lambda>" (X.env.qual++"<lambda>") params body scope cl pm cdv ctv) ⟨[],[]⟩=pure []
abbrev kLo(X:Cx)(params:Arguments)(body:Expr)(scope:Scope)(cl:List (Str×Addr))(c:Addr)(ctv:Value):Obj:=W.kla_obj "<lambda>" (X.env.qual++"<lambda>") params body scope cl ((X.mg "__name__").getD .none) c ctv
structure zuJ(X:Cx)(xv:Nat->Value)(k:Nat)(params:Arguments)(body:Expr)(scope:Scope)(fE:De):Prop where
 hE:HL X xv k body scope fE
 hfr:Hfr X scope
 hbind:HA X params body scope
 hdef:defaultsOf params X.env=([],[]):=by rfl
 hk:scope.kind=.function:=by rfl
 ho:zoG scope.names=true:=by rfl
 hco:scope.isCoroutine=false:=by rfl
 hgen:scope.isGenerator=false:=by rfl
structure zpn(X:Cx)(xv:Nat->Value)(k n:Nat)(Z:Ev)(G:Hp)(Fa:Addr):Prop where
 ex:∃ params body scope cl c ctv fE,zuJ X xv k params body scope fE/\(∀ x cc,cl.lookup x=some cc->X.env.cells.lookup x=some cc)/\(∀ y∈scope.names,y.2=.free->∃ c,cl.lookup y.1=some c) /\
  G Fa=some (fHO Fa (kLo X params body scope cl c ctv))/\G c=some (cHO c (X.env.qual++"<lambda>"))/\fE (zcB Z)=.er n
theorem zpn.same{X:Cx}{xv:Nat->Value}{k n:Nat}{Z:Ev}{G G':Hp}{Fa:Addr}(L:zpn X xv k n Z G Fa)(e:zcq G G'):zpn X xv k n Z G' Fa:=by
 obtain ⟨params,body,scope,cl,c,ctv,fE,h1,h2,h3,h4,h5,h6⟩:=L.ex
 exact ⟨params,body,scope,cl,c,ctv,fE,h1,h2,h3,e _ _ h4,e _ _ h5,h6⟩
def tLam(X:Cx)(P:Addr)(params:Arguments)(body:Expr)(scope:Scope)(lpos:Pos)(cl:List (Str×Addr)):TE:=fun Y H Q=>∃ ps:Array Value,zpu P (X.env.qual++"<lambda>") H H ps /\
 (∀ c Fa ctv,codeAmong lpos ps.toList=none->H c=none->H Fa=none->c≠Fa->Q (.ref Fa) (upd (upd (upd H P (.tbl (ps++#[rawInt lpos.line,rawInt lpos.col,.ref c]))) c (cHO c (X.env.qual++"<lambda>"))) Fa (fHO Fa (kLo X params body scope cl c ctv)))) /\
 ∀ c Fa ctv,codeAmong lpos ps.toList=some (.ref c)->H Fa=none->Q (.ref Fa) (upd H Fa (fHO Fa (kLo X params body scope cl c ctv)))
section
variable{X:Cx}{C:Cn}{P:Addr}{params:Arguments}{body:Expr}{scope:Scope}{lpos:Pos}{cl:List (Str×Addr)}
theorem zrr(LB:zeZ X P)(hdef:defaultsOf params X.env=([],[]))(hcl:closureFor scope X.env=pure cl):PE X (.Lambda params body scope lpos) (tLam X P params body scope lpos cl):=fun pS s Y H Q I ⟨ps,T,hA,hB⟩=>zts LB I hdef hcl T hA hB
theorem zlF{G H:Hp}{w:Wn}{Z:Ev}{Y:L2.St}{j:Nat}{Q:VK}(r:Rel X.K C G w Z Y H)(hj:Z[j]? = some (some (.tab (X.env.qual++"<lambda>"))))(hσj:Y[j]? = some (some (.ref P)))
  (k:∀ Fa c ctv G1 H1,Rel X.K C G1 w Z Y H1->zbv G H w G1 H1 w->G1 Fa=some (fHO Fa (kLo X params body scope cl c ctv))->G1 c=some (cHO c (X.env.qual++"<lambda>"))->Q (.ref Fa) H1):tLam X P params body scope lpos cl Y H Q:=by
 obtain ⟨vP,eP1,P',ps,rfl,hwP,hHP,htri,hcod⟩:=r.sl j _ hj
 rw[hσj] at eP1
 obtain rfl:P=P':=by injection eP1 with e1;injection e1 with e2;injection e2
 have T:zpu P (X.env.qual++"<lambda>") G H ps:=⟨hHP,htri,hcod⟩
 have TH:zpu P (X.env.qual++"<lambda>") H H ps:=⟨hHP,htri,fun q cv z=>let ⟨c,z1,z2⟩:=hcod q cv z;⟨c,z1,r.gh _ _ z2⟩⟩
 refine ⟨ps,TH,fun c Fa ctv _ hc hF hne=>?_,fun c Fa ctv hk' hF=>?_⟩
 ·obtain ⟨rel1,st1⟩:=r.lamA (ob:=W.kla_obj "<lambda>" (X.env.qual++"<lambda>") params body scope cl ((X.mg "__name__").getD .none) c ctv) (a:=lpos.line) (b:=lpos.col) (t:=_) (u:=_) hj hσj hwP T hc hF hne
  exact k Fa c ctv _ _ rel1 st1 zan (by rw[zah hne,zan])
 ·obtain ⟨rel1,st1⟩:=r.lamB (ob:=W.kla_obj "<lambda>" (X.env.qual++"<lambda>") params body scope cl ((X.mg "__name__").getD .none) c ctv) hF
  obtain ⟨c2,e1,e2⟩:=hcod _ _ hk'
  cases e1
  have hcH:=r.gh _ _ e2
  exact k Fa c ctv _ _ rel1 st1 zan (by rw[zah (zak hcH hF)];exact e2)
end
section
variable{X:Cx}{C CY:Cn}{f:Addr}{fd:FuncData}{st:Stmt}{xq xr:Str}{NR:List Str}{m k n:Nat}{dB:Nat->Addr->DS}
theorem zq6(cls:Nat->Addr)(hxv:∀ n,n<8->C.xv n=.ref (cls n))(hfn:X.fn=fun _=>true)
  (Fu:Fun X.K xq xr st f fd) (S:zax NR ["call"] (zaj st)) (hNR:NR.length=m+1) (hb:zgP X.K fd ["call"] []) (hr:zcY (k+2) X.A)
  (hB:HB X C xr st f NR k cls dB)
  (hden:HD m dB) (hn8:n<8)
  {pS:List (Addr×Obj)} {Y σY:L2.St} {H1:Hp} {s1:Shared} (I1:L2.Inv X pS Y H1 s1) (e0:zp2 X.prog X.w X.K X.mg X.base X.A X.stack s1 H1)
  {G1:Hp} {w:Wn} {ρY Z:Ev} {Fa:Addr} (rel1:Rel X.K CY G1 w ρY σY H1) (hval:∀(i:Nat)(d:Dt),Z[i]? = some (some (.val d))->∃ v,Y[i]? = some (some v)/\Rep X.K G1 d v) (hlen:Z.length = Y.length) (L:zpn X C.xv k n Z G1 Fa) {Q:VK} (kn:kN X.K CY σY Q G1 H1 w ([.int n],ρY)) :
  codeAny (model X.prog X.w) X.A (.call (.ref f) ⟨[.ref Fa],[]⟩) (L2.CR (CXe X.prog X.w) X.stack X.prog X.w H1 s1 Q (fun _ _ _=>False)) s1:=by
 obtain ⟨params,body,scope,cl,c,ctv,fE,A,hcl,hcf,gF,gc,hfE⟩:=L.ex
 have hHF:=rel1.gh _ _ gF
 have hHc:=rel1.gh _ _ gc
 obtain ⟨oc,od,kV,doc,pm,an,cdv,ct,osl,rfl,lk,hcd⟩:=Fu.ex
 refine zv7 (CX:=CXe X.prog X.w) (k:=k+1) (E:=fun _ _ _=>False) (us:=[.ref Fa]) (vs:=[.ref Fa]) (N:=NR) (Q:=Q) lk hcd S hr e0 (by simpa using hb s1 [.ref Fa] I1.kIn rfl) (.cons rfl .nil) rfl ?_
 let XR:=ziN (CXe X.prog X.w) X.prog X.w X.K X.mg X.base NR xr (zaj st) f cdv X.A X.stack s1 H1 (fun _ _ _=>False)
 let CRR:=zqx C G1 H1 (start NR [.ref Fa])
 have frs0:∀ x cc,cl.lookup x=some cc->cc∉frs X.stack:=fun x cc e hmem=>by
  rcases wap.mp (I1.stkSub cc hmem) with z|z
  ·exact I1.cne x cc (hcl x cc e) z
  ·obtain ⟨_,o,ho',_⟩:=I1.ok.funs.mem z
   exact absurd (wai ho') (Nat.not_lt.mpr (I1.ok.cab x cc (by rw[hfn]) (hcl x cc e)))
 have cells:∀ pinsR σR H2 s2,L2.Inv XR pinsR σR H2 s2->ziJ X.N scope.names cl Y H2 s2.heap:=fun pinsR σR H2 s2 J=>by
  have mv:∀ x cc v,cl.lookup x=some cc->s1.heap.IsCell cc v->s2.heap.IsCell cc v:=fun x cc v e ⟨o,e1,e2⟩ =>
   ⟨o,J.base.keep cc o e1 (I1.freeC x cc (hcl x cc e)) (frs0 x cc e) (by show cc∉([]:List Addr);simp),e2⟩
  refine ⟨fun x y cc h1 h2=>I1.ok.inj x y cc (hcl x cc h1) (hcl y cc h2),fun x e=>hcf _ (zbu e) rfl,fun x cc e=>?_,fun i x v e1 e2 e3=>?_⟩
  ·obtain ⟨v,ic⟩:=I1.cell x cc (hcl x cc e)
   obtain ⟨o,e1,_⟩:=id ic
   exact ⟨⟨v,mv x cc v e ic⟩,J.base.free cc o e1 (I1.freeC x cc (hcl x cc e)) (by show cc∉([]:List Addr);simp)⟩
  ·have hmem:=zbu e3
   have kc:=A.hfr _ hmem rfl
   obtain ⟨m0,hn0,hl0⟩:=I1.loc
   obtain ⟨u,ru,lk'⟩:=hl0 i x v e1 e2 (kc.elim (fun z=>.inr (.inl z)) fun z=>.inr (.inr z))
   obtain ⟨cc,hcc⟩:=hcf _ hmem rfl
   refine ⟨u,cc,ru,hcc,?_⟩
   rcases lk' with ⟨z,_⟩|⟨_,c',e',ic⟩
   ·rcases kc with y|y <;> (rw[y] at z;cases z)
   ·rw[hcl _ _ hcc] at e';cases e'
    exact mv x cc _ hcc ic
 have objs:∀ pinsR σR H2 s2,L2.Inv XR pinsR σR H2 s2->zcq H1 H2->s2.heap.get? Fa=some (kLo X params body scope cl c ctv)/\s2.heap.CodeRec (.ref c) (X.env.qual++"<lambda>"):=fun pinsR σR H2 s2 J sm=>by
  have o1:zbO XR.prog XR.w H2 s2.heap Fa (fHO Fa _):=J.hok Fa _ (sm _ _ hHF)
  have o2:zbO XR.prog XR.w H2 s2.heap c (cHO c _):=J.hok c _ (sm _ _ hHc)
  exact ⟨o1.1,o2.1⟩
 have hrR:zcY (k+1) XR.A:=hr.deeper _
 have hjs:=hB XR CRR n Fa hn8 ⟨cdv,X.A,X.stack,s1,H1,fun _ _ _=>False,rfl⟩ ⟨G1,H1,rfl⟩ hrR (fun pinsR σR H2 s2 J sm=>?_) fun pinsR σR H2 s2 J sm=>?_
 ·refine ⟨_,hjs,G1,fun _=>none,some .opq::List.replicate m none,?_,?_⟩
  ·refine ⟨rel1.gh,fun b e=>absurd rfl e,fun b e=>absurd rfl e,?_,fun i b e=>?_,.refl _ _ _,fun i _=>rfl⟩
   ·unfold L2.start;simp[hNR]
   ·cases i with
    |zero =>
     simp at e;subst e
     exact ⟨.ref Fa,rfl,trivial⟩
    |succ i =>
     rw[List.getElem?_cons_succ,List.getElem?_replicate] at e
     split at e <;> cases e
  ·obtain ⟨Z',e⟩:=hden n (cls n) hn8
   rw[e]
   intro v Y' G' H' w' st' rel' rt
   obtain ⟨l,pp,us,e1,rfl,e3,e4,e5,e6,e7⟩:=rt
   injection e1 with e1
   subst e1
   have win:wIn w []=fun _=>none:=by
    funext b;unfold wIn;cases w b <;> rfl
   obtain ⟨r2,st2⟩:=rel1.back (as:=[]) (vs:=[]) (bs:=[]) (bs':=[]) (ks:=[]) rfl rfl rfl rfl (by rw[win];exact st') ⟨rel'.gh,rel'.wg,rel'.wh,fun j' v' z=>by simp at z⟩
   rw[zje] at r2
   have w1p:w pp=none:=by
    cases zz:w pp with
    |none=>rfl
    |some kk=>exact absurd e3 (rel1.wh pp (by rw[zz];simp))
   exact kn pp us G' H' _ st2 r2 e3 e4 e5 (by unfold zp4;rw[e6,w1p];rfl) e7
 ·
  obtain ⟨o1,o2⟩:=objs _ _ _ _ J sm
  refine zre (Y:=Y) (N:=X.N) (t:=tE X.K (zrI C G1 H2 Y n) fE) J rfl (by have:=hrR.dp;omega) A.hk A.ho (cells _ _ _ _ J) I1.len o1 o2 (A.hbind _ _ _ _) A.hco A.hgen ?_ ?_
  ·refine A.hE _ (zrI C G1 H2 Y n) ⟨XR,cl,Fa,.ref c,s2,H2,EL (cls n) H2,rfl,rfl,rfl,rfl,rfl,rfl⟩ rfl (hrR.deeper _) (zmu fun u a H' ⟨ea,n',eu,en,G',w',s'⟩=>?_)
   have en':n'=n:=en
   subst en'
   exact ⟨eu.trans (hxv n' hn8),fun b o e=>s'.h b o e rfl⟩
  ·refine ⟨G1,fun _=>none,zcB Z,⟨rel1.gh.trans sm,fun b e=>absurd rfl e,fun b e=>absurd rfl e,by unfold zcB;rw[List.length_map];exact hlen,fun i b e=>?_,.refl _ _ _,fun i hi=>by simp[zrI] at hi⟩,?_⟩
   ·unfold zcB at e
    rw[List.getElem?_map] at e
    cases q:Z[i]? with
    |none=>rw[q] at e;cases e
    |some o =>
     rw[q] at e
     simp only[Option.map_some,Option.some.injEq] at e
     split at e
     ·cases e
      obtain ⟨v,e1,e2⟩:=hval i _ q
      exact ⟨v,e1,e2⟩
     ·cases e
   ·rw[hfE]
    rfl
 ·obtain ⟨o1,_⟩:=objs _ _ _ _ J sm
  exact ⟨_,_,_,_,o1⟩
end
theorem zsG{Yq:Cx}{pS:List (Addr×Obj)}{Y:L2.St}{H:Hp}{s s2:Shared}{Q:VK}{rr:Result}(I:L2.Inv Yq pS Y H s)(hq:L2.CR (CXe Yq.prog Yq.w) Yq.stack Yq.prog Yq.w H s Q (fun _ _ _=>False) rr s2){E:Value->Shared->Prop}:(match (generalizing:=false) rr with|.ok (.ret v)=>EP Yq pS Y Q v s2|.ok _=>False|.error e=>E e s2):=by
 cases rr with
 |error e=>exact (CXe.none hq).elim
 |ok fl =>
  cases fl with
  |ret u=>exact I.after hq
  |next=>exact False.elim hq
  |brk=>exact False.elim hq
  |cont=>exact False.elim hq
section
variable{X:Cx}{C:Cn}{P f:Addr}{fd:FuncData}{st:Stmt}{xq xr:Str}{NR:List Str}{m k j:Nat}{p pos lpos:Pos}{params:Arguments}{body:Expr}{scope:Scope}{fE:De}{dB:Nat->Addr->DS}
theorem zry(LB:zeZ X P)(hfn:X.fn=fun _=>true)(hpp:j∈C.pp)(hσ0:C.σ₀[j]? = some (some (.ref P)))(cls:Nat->Addr)(hxv:∀ n,n<8->C.xv n=.ref (cls n))
  (Fu:Fun X.K xq xr st f fd) (S:zax NR ["call"] (zaj st)) (hNR:NR.length=m+1) (hb:zgP X.K fd ["call"] []) (hm:X.mg xr=some (.ref f)) (hr:zcY (k+2) X.A)
  (hB:HB X C xr st f NR k cls dB)
  (hden:HD m dB)
  (hE:HL X C.xv k body scope fE)
  (hdef:defaultsOf params X.env=([],[]):=by rfl) (hk:scope.kind=.function:=by rfl) (ho:zoG scope.names=true:=by rfl) (hfr:Hfr X scope)
  (hbind:HA X params body scope) (hco:scope.isCoroutine=false:=by rfl) (hgen:scope.isGenerator=false:=by rfl)
  (hg:Gl X xr:=by rfl) (hdb:(xr == ("__debug__" : Str))=false:=by decide) (he:starEach [.Lambda params body scope lpos] X.env=(false,eval (.Lambda params body scope lpos) X.env)::starEach [] X.env:=by rfl) (hpl:(backTo pos (starEach [] X.env)).any (·.1)=false:=by rfl) :
  JN X C (.Call (.Name xr p) [.Lambda params body scope lpos] [] pos) (zp6 j (X.env.qual++"<lambda>") fE):=by
 intro pS s Y H Q I ⟨G,w,Z,r,pst⟩
 unfold zp6 at pst
 split at pst
 case h_2=>exact pst.elim
 rename_i q' hj
 split at pst
 case isFalse=>exact pst.elim
 rename_i hq'
 subst hq'
 split at pst
 case h_2=>exact pst.elim
 rename_i n hfE
 split at pst
 case isFalse=>exact pst.elim
 rename_i hn8
 have kn:kN X.K C Y Q G H w ([.int n],Z):=pst
 obtain ⟨cl,hclos,hcl,hcf⟩:=zgr (scope:=scope) (env:=X.env) fun y hy hf=>I.ok.has y.1 (hfr y hy hf)
 have hσj:Y[j]? = some (some (.ref P)):=by rw[r.pin j hpp];exact hσ0
 refine wpAny_Call_Name_kw (zhe I hg hm ?_ hdb)
 refine W.callWith_K (h₀:=X.base) I.ok.mod.kin Fu.kp ?_ he hpl
 rw[he]
 refine Calls.spliced_cons (thn (zrr LB hdef hclos pS s Y H (fun v H1=>∃ Fa c ctv G1,v=.ref Fa/\Rel X.K C G1 w Z Y H1/\zbv G H w G1 H1 w/\G1 Fa=some (fHO Fa (kLo X params body scope cl c ctv))/\G1 c=some (cHO c (X.env.qual++"<lambda>"))) I (zlF r hj hσj fun Fa c ctv G1 H1 a1 a2 a3 a4=>⟨Fa,c,ctv,G1,rfl,a1,a2,a3,a4⟩)) fun u s1 hEP=>?_)
 obtain ⟨v,H1,I1,rv,Fa,c,ctv,G1,rfl,rel1,st1,gF,gc⟩:=hEP
 cases rv
 show wpAny _ _ (spliced []) _ _ s1
 refine Calls.spliced_nil ⟨I1.kIn,wpAny_call (codeAny_mono (zq6 cls hxv hfn Fu S hNR hb hr hB hden hn8 I1 I1.env0 rel1 (fun i d e=>rel1.sl i _ e) rel1.len ⟨_,_,_,cl,c,ctv,fE,⟨hE,hfr,hbind,hdef,hk,ho,hco,hgen⟩,hcl,hcf,gF,gc,hfE⟩ (zhc _ _ _ _ _ _ _ st1 kn)) fun rr s2 hq=>zsG I1 hq)⟩
end
theorem zh1{X:Cx}{pS:List (Addr×Obj)}{Y:L2.St}{H:Hp}{s:Shared}{j:Nat}{x:Str}{o:Option V}(I:L2.Inv X pS Y H s)(hj:X.N[j]? = some x)(hv:¬ Vis X.env.scope x):L2.Inv X pS (Y.set j o) H s:=by
 refine ⟨I.ok,I.os,I.bare,I.base,?_,I.cell,I.free,I.freeC,I.pin,I.hok,by simpa using I.len⟩
 obtain ⟨m,hn,hl⟩:=I.loc
 refine ⟨m,hn,fun i y v e1 e2 e3=>?_⟩
 by_cases hi:i=j
 ·subst hi
  rw[hj] at e1;cases e1
  exact absurd e3 hv
 ·rw[List.getElem?_set_ne (Ne.symm hi)] at e2
  exact hl i y v e1 e2 e3
theorem zjz{P:Program}{w:World}{X:Cx}{C:Cn}(h:∀ n,¬ C.ex n):zcH (CXe P w) X (EXc C):=fun _ _ _ _ _ _ _ hx=>by
 rcases hx with ⟨_,_,_,_,_,_,_,_,_,_,_,_,_,_,_,n,_,z,_⟩|⟨_,_,_,_,_,_,_,_,n,_,z,_⟩ <;> exact (h n z).elim
section
variable{X:Cx}{C:Cn}{a b:Expr}{fa fb:De}{pos:Pos}
def zbm:Dt->Dt->R Dt
 |.tup x,.tup y=>if x.length+y.length<=16777216 then .ok (.tup (x++y)) else .no
 |_,_=>.no
def ztq(K:W.Frag):R2:=fun x y H Q=>∃ a b xs ys,x=.ref a/\y=.ref b/\SqT K H a xs/\SqT K H b ys/\xs.length+ys.length<=sizeLine /\
 (xs=[]->Q (.ref b) H)/\(xs≠[]->ys=[]->Q (.ref a) H)/\(xs≠[]->ys≠[]->∀ p,H p=none->Q (.ref p) (upd H p (.tup (xs++ys))))
theorem zpB{prog:Program}{w:World}{A:Around}{E:Value->Shared->Prop}{s:Shared}{t b:Addr}{ws:List Value}{Q:Value->Shared->Prop}(ht:IsTup s.heap t ([]:List Value).toArray)(hb:IsTup s.heap b ws.toArray)(h:Q (.ref b) s) :
  wpAny (model prog w) A (binaryOp .Add (.ref t) (.ref b)) Q E s:=by
 obtain ⟨⟨c1,d1,dt1,sl1⟩,e1,q1,n1,r1⟩:=id ht
 obtain ⟨⟨c2,d2,dt2,sl2⟩,e2,q2,n2,r2⟩:=id hb
 simp only at q1 r1 q2 r2
 subst q1 r1 q2 r2
 exact concat_meets ⟨_,e1,rfl⟩ ⟨_,e2,rfl⟩ noFill_tuple_add seq_tuple_add F.slot_tuple_add F.entry_tuple_add (F.args_tuple_add_2 _ _) (tuple_addW0 t b ([]:List Value).toArray ws.toArray n1 n2 d1 d2 sl1 sl2 rfl) ⟨e1,e2,h⟩
theorem zrQ:OpR X (binaryOp .Add) (ztq X.K):=by
 intro pS s Y H x y v u Q I rx ry h
 obtain ⟨a,b,xs,ys,rfl,rfl,ha,hb,hz,q0,q1,q2⟩:=h
 by_cases hx:xs=[]
 ·subst hx
  cases rx
  cases ry
  obtain ⟨its,r1,p1,_⟩:=I.tuple ha
  obtain ⟨its2,r2,p2,_⟩:=I.tuple hb
  obtain rfl:its=[]:=by cases r1;rfl
  exact zpB p1 p2 ⟨.ref b,H,I,rfl,q0 rfl⟩
 ·exact zsQ pS s Y H _ _ v u Q I rx ry ⟨a,b,xs,ys,rfl,rfl,ha,hb,hx,hz,q1 hx,q2 hx⟩
theorem zqz:Op2 X.K (ztq X.K) zbm:=fun G H x y dx dy z Q sm hx hy e k=>by
 unfold zbm at e
 split at e
 ·rename_i l l'
  split at e
  ·rename_i hl
   cases e
   obtain ⟨a,vs,rfl,h1,h2⟩:=zbK hx
   obtain ⟨b,us,rfl,h3,h4⟩:=zbK hy
   have nil_of:∀{m:List Dt}{ws:List V},za1 X.K G m ws->ws=[]->m=[]:=fun {m ws} r z=>by
    have:=r.length;rw[z] at this;exact List.length_eq_zero_iff.mp this
   refine ⟨a,b,vs,us,rfl,rfl,zaD sm h1,zaD sm h3,by rw[<- h2.length,<- h4.length,ze8];exact hl,fun z=>?_,fun _ z=>?_,fun _ _ p hp=>?_⟩
   ·rw[nil_of h2 z] at k;exact k _ G H (.refl sm) hy
   ·rw[nil_of h4 z,List.append_nil] at k;exact k _ G H (.refl sm) hx
   ·have gr:zdU G H (upd G p (.tup (vs++us))) (upd H p (.tup (vs++us))):=.new sm hp
    exact k _ _ _ gr (by unfold Rep;exact ⟨p,_,rfl,zhM.of zan,(h2.same gr.g).append (h4.same gr.g)⟩)
  ·cases e
 ·cases e
theorem zoq:zhC zbm:=fun x y n h=>by
 unfold zbm at h
 split at h
 ·split at h <;> cases h
 ·cases h
theorem zbI(ha:JE X C a fa)(hb:JE X C b fb):JE X C (.BinOp a .Add b pos) (dOp zbm fa fb):=zks zrQ zqz zoq ha hb
theorem zoT{p:Pos}:JE X C (.Dict [] [] p) (dC .dct):=fun pS s Y H Q I ⟨G,w,Z,r,q⟩=>by
 have big:sysModules<s.heap.objs.size:=Nat.lt_trans xwd (I.mod.glob.keeps I.bk).lt
 have hf:H s.heap.objs.size=none:=I.hok.fresh (wal _)
 have ok:zbO X.prog X.w (upd H s.heap.objs.size (.dK [])) (s.heap.push { cls:=.type "dict",data:=.dict #[] }) s.heap.objs.size (.dK []):=⟨Nat.zero_le _,beq_eq_false_iff_ne.mpr (Ne.symm (Nat.ne_of_lt big)),[],.nil,Heap.DictOf.new s.heap⟩
 refine wpAny_Dict_empty ⟨.ref s.heap.objs.size,_,I.laid (t':=s.toks) (fun _ _ z=>waa _ z) (wal _) ok,rfl,?_⟩
 have gr:zdU G H (upd G s.heap.objs.size (.dK [])) (upd H s.heap.objs.size (.dK [])):=.new r.gh hf
 exact q _ _ _ w gr.step (r.grow gr) (by unfold Rep;exact ⟨_,rfl,zan⟩)
end
def dAC(ds:List Dt):DA:=fun Z=>.ok (ds,Z)
mutual
def zkl:Nat->Expr->Option Dt
 |0,_=>none
 |k+1,e=>match e with
  |.Constant (.int i) _ _=>some (.int i)
  |.Constant (.bool b) _ _=>some (.bl b)
  |.Constant .none _ _=>some .non
  |.Constant (.str x) _ _=>some (.str x)
  |.UnaryOp .USub (.Constant (.int i) _ _) _=>some (.int (-i))
  |.Tuple es _ _=>(zeP k es).bind fun ds=>if zdT ds=true then some (.tup ds) else none
  |.List es _=>(zeP k es).bind fun ds=>if zdT ds=true then some (.lst ds) else none
  |.Dict [] [] _=>some .dct
  |_=>none
def zeP:Nat->List Expr->Option (List Dt)
 |_,[]=>some []
 |0,_::_=>none
 |k+1,e::es=>(zkl k e).bind fun d=>(zeP k es).bind fun ds=>some (d::ds)
end
section
variable{X:Cx}{C:Cn}
theorem JE.eq{e:Expr}{f g:De}(h:JE X C e f)(q:f=g):JE X C e g:=q ▸ h
theorem JA.eq{e:List Expr}{f g:DA}(h:JA X C e f)(q:f=g):JA X C e g:=q ▸ h
mutual
theorem zny:∀(k:Nat){e:Expr}{d:Dt},zkl k e=some d->JE X C e (dC d)/\∀ es,starEach (e::es) X.env=(false,eval e X.env)::starEach es X.env
 |0,e,d,h=>by simp[zkl] at h
 |k+1,e,d,h=>by
  unfold zkl at h
  split at h
  ·cases h;exact ⟨zai,fun _=>rfl⟩
  ·cases h;exact ⟨zcR,fun _=>rfl⟩
  ·cases h;exact ⟨zfz,fun _=>rfl⟩
  ·cases h;exact ⟨zpg,fun _=>rfl⟩
  ·cases h;exact ⟨(zik zai).eq rfl,fun _=>rfl⟩
  ·rename_i es x1 pos
   obtain ⟨ds,hds,h⟩:=Option.bind_eq_some_iff.mp h
   split at h
   ·rename_i hf
    cases h
    refine ⟨(zaX (zkA k hds)).eq ?_,fun _=>rfl⟩
    funext Z
    show (if zdT ds=true then _ else _)=_
    rw[if_pos hf];rfl
   ·cases h
  ·rename_i es pos
   obtain ⟨ds,hds,h⟩:=Option.bind_eq_some_iff.mp h
   split at h
   ·rename_i hf
    cases h
    refine ⟨(za6 (zb3 (zkA k hds))).eq ?_,fun _=>rfl⟩
    funext Z
    show (R.bind (if zdT ds=true then _ else _) _)=_
    rw[if_pos hf];rfl
   ·cases h
  ·cases h;exact ⟨zoT,fun _=>rfl⟩
  ·cases h
theorem zkA:∀(k:Nat){es:List Expr}{ds:List Dt},zeP k es=some ds->JA X C es (dAC ds)
 |k,[],ds,h=>by
  unfold zeP at h
  cases h
  exact zap
 |0,_::_,ds,h=>by simp[zeP] at h
 |k+1,e::es,ds,h=>by
  unfold zeP at h
  obtain ⟨d,h1,h⟩:=Option.bind_eq_some_iff.mp h
  obtain ⟨ds',h2,h⟩:=Option.bind_eq_some_iff.mp h
  cases h
  obtain ⟨j1,j2⟩:=zny k h1
  exact (zac j1 (zkA k h2) (j2 es)).eq rfl
end
theorem jd(k:Nat){e:Expr}{d:Dt}(h:zkl k e=some d):JE X C e (dC d):=(zny k h).1
end
section
variable{X:Cx}{C:Cn}{a b:Expr}{fa fb:De}{pos:Pos}
end
end PV
end
section
namespace PV
open PySem PySem.Spec L2
open AutoSeq1 (wpAny_loadPart')
section
variable{X:Cx}{C:Cn}{a b o e:Expr}{es:List Expr}{fa fb:De}{pos apos cpos:Pos}{name:Str}{id:String}{to:TE}{t:TA}{r:V->List V->Hp->VK->Prop}
end
section
variable{X:Cx}{C:Cn}{e1 e2:Expr}{fk fv:De}{pos ps apos:Pos}{x:Str}
def zsM:V->List V->Hp->VK->Prop:=fun x vs H Q=>∃ l xs k y,x=.ref l/\vs=[.int k,y]/\H l=some (.lst xs)/\0<=k/\k.toNat<=xs.length/\xs.length<sizeLine/\Q .non (upd H l (.lst (xs.take k.toNat++y::xs.drop k.toNat)))
theorem zmX{y1 y2:V}{us:List Value}(h:zbc [y1,y2] us):∃ u1 u2,us=[u1,u2]/\zbo y1 u1/\zbo y2 u2:=by
 cases h with
 |cons h1 t=>cases t with
  |cons h2 t2=>cases t2;exact ⟨_,_,rfl,h1,h2⟩
theorem zjq:∀(k:Nat){xs:List V}{us:List Value},zbc xs us->zbc (xs.take k) (us.take k)
 |0,_,_,_=>by simpa using Paired.nil
 |k+1,_,_,.nil=>by simpa using Paired.nil
 |k+1,_,_,.cons h t=>by simpa using Paired.cons h (zjq k t)
theorem zj4:∀(k:Nat){xs:List V}{us:List Value},zbc xs us->zbc (xs.drop k) (us.drop k)
 |0,_,_,h=>by simpa using h
 |k+1,_,_,.nil=>by simpa using Paired.nil
 |k+1,_,_,.cons h t=>by simpa using zj4 k t
theorem zsE{k:Int}(h0:0<=k)(h:k.toNat<16777216):¬ (!Builtin.List.listFitsIndex k)=true:=by
 have:Builtin.List.listFitsIndex k=true:=fitsIndex_both xwo xwo
 rw[this];exact Bool.false_ne_true
theorem zsY(its:List Value)(k:Int)(u2:Value)(h0:0<=k)(hk:k.toNat<=its.length):(have m:=if k<0 then (k+(its.toArray.size:Int)).toNat else min k.toNat its.toArray.size;(its.toArray.extract 0 m).push u2++its.toArray.extract m)=(its.take k.toNat++u2::its.drop k.toNat).toArray:=by
 have e:(if k<0 then (k+(its.toArray.size:Int)).toNat else min k.toNat its.toArray.size)=k.toNat:=by
  rw[if_neg xwo,List.size_toArray,Nat.min_eq_left hk]
 dsimp only
 rw[e]
 apply Array.ext'
 simp
 rw[List.take_of_length_le xws]
theorem zph:MtM X "list.insert" zsM:=by
 intro pS s Y H x vs v us Q I rx rv h
 obtain ⟨l,xs,k,y,rfl,rfl,hH,h0,hk,hz,q⟩:=h
 cases rx
 obtain ⟨u1,u2,rfl,⟨t,ru1⟩,ru2⟩:=zmX rv
 subst ru1
 obtain ⟨z,its,n,r,hl,e⟩:=I.lstM hH
 have hfit:=zsE h0 (show k.toNat<16777216 by rw[<- ze8];omega)
 have hsz0:its.toArray.size<=sizeLine:=by rw[List.size_toArray];omega
 refine call_meets F.slot_list_insert ⟨_,e,rfl⟩ F.entry_list_insert (F.args_list_insert_3 _ _ _) (AutoSeq1.list_insert_list_int_val_1 l its.toArray n k t u2 hfit hsz0) ⟨e,?_⟩
 refine ⟨.non,_,I.lset (its':=its.take k.toNat++u2::its.drop k.toNat) hH e (zsY its k u2 h0 xwo) ((zjq _ r).append (.cons ru2 (zj4 _ r))) ?_,rfl,q⟩
 rw[List.length_append,List.length_cons,List.length_take,List.length_drop]
 omega
def zmZ(i:Nat)(fk fv:De):De:=fun Z=>match Z[i]? with
 |some (some (.own _))=>(fk Z).bind fun k=>(fv k.2).bind fun v=>match v.2[i]?,k.1 with
  |some (some (.own ds)),.int n=>if 0<=n/\n<=ds.length/\ds.length<16777216 then .ok (.non,v.2.set i (some (.own (ds.take n.toNat++v.1::ds.drop n.toNat)))) else .no
  |_,_=>.no
 |_=>.no
theorem zsz(i:Nat)(hk:JE X C e1 fk)(hw:JE X C e2 fv)(hN:X.N[i]? = some x:=by rfl)(hv:Vis X.env.scope x:=by exact xwV)(hd:(x == ("__debug__" : Str))=false:=by decide)(hcd:(x == ("__classdict__" : Str))=false:=by decide)
  (hbase:attributeBase (.Name x ps) "insert" X.env (eval (.Name x ps) X.env)=eval (.Name x ps) X.env:=by rfl)
  (hfew:((backTo pos (starEach [e1,e2] X.env)).all (fun x=>!x.1) && (backToKw pos (keywordEach [] X.env)).all (fun x=>x.1.isSome) && decide ([e1,e2].length+([]:List Keyword).length+(if ([]:List Keyword).isEmpty then 0 else 1)<30))=true:=by rfl)
  (hline:(apos.endLine == pos.line)=true:=by rfl) (hs:starEach [e1,e2] X.env=(false,eval e1 X.env)::starEach [e2] X.env:=by rfl) (hs2:starEach [e2] X.env=(false,eval e2 X.env)::starEach [] X.env:=by rfl) (hplain:(backTo pos (starEach [e2] X.env)).any (·.1)=false:=by rfl) :
  JE X C (.Call (.Attribute (.Name x ps) "insert" apos) [e1,e2] [] pos) (zmZ i fk fv) :=
 PE.weak (zq4 PySem.F.plainAttrs_list PySem.F.slot_list_insert PySem.F.type_list_insert zph (zcm hN hv hd hcd) (zbT hk (zbT hw zep hs2) hs) hbase hfew hline hs hplain) fun Y H Q ⟨G,w,Z,r,p⟩=>by
  unfold zmZ at p
  split at p
  ·rename_i ds0 e0
   obtain ⟨a,vs,h1,h2,h3,h4⟩:=zdy r e0
   refine ⟨.ref a,h1,.inl ⟨rfl,vs,SqL.of h3⟩,?_⟩
   refine zdb (κ:=fun G H w=>kE X.K C Y Q G H w) zcc r p fun dk Z1 v1 G1 H1 w1 r1 s1 q1 p1=>?_
   refine zdb (κ:=fun G H w=>kE X.K C Y Q G H w) zcc r1 p1 fun dv Z2 v2 G2 H2 w2 r2 s2 q2 p2=>?_
   dsimp only at p2
   split at p2
   ·rename_i ds n e2
    obtain ⟨a',vs',k1,k2,k3,k4⟩:=zdy r2 e2
    rw[h1] at k1;cases k1
    split at p2
    ·rename_i hl
     obtain ⟨r',s'⟩:=r2.mutate e2 h1 k2 ((k4.take n.toNat).append (za1.cons q2 (k4.drop n.toNat)))
     have hlen:=k4.length
     exact ⟨a,vs',n,v2,rfl,by rw[zas q1],k3,hl.1,xwo,by rw[<- hlen,ze8];exact hl.2.2,p2 _ _ _ _ s' r' (by unfold Rep;rfl)⟩
    ·exact p2.elim
   ·exact p2.elim
  ·exact p.elim
end
def Ite(K:W.Frag)(a:Addr):It :=
 ⟨fun i H=>∃ xs x,SqL K H a xs/\xs[i]? = some x,
   fun i H v H'=>∃ p x,v=.ref p/\H p=none/\H'=upd H p (.tup [.int (i:Nat),x])/\∀ xs,SqL K H a xs->xs[i]? = some x,
   fun i H=>∃ xs,SqL K H a xs/\xs.length<=i⟩
structure Ep(h:Heap)(e it l:Addr)(i:Nat):Prop where
 e:∃ old,IsEnum h e it i old
 a:h.IsListIter it l i
theorem Ep.keep{h h':Heap}{e it l:Addr}{i:Nat}(p:Ep h e it l i)(k:∀ b∈[e,it],∀ o,h.get? b=some o->h'.get? b=some o):Ep h' e it l i :=
 ⟨let ⟨old,q⟩:=p.e;⟨old,k e xws _ q⟩,p.a.at fun o q=>k it xws o q⟩
theorem zu5{X:Cx}{pS:List (Addr×Obj)}{Y:L2.St}{H:Hp}{s:Shared}{a b:Addr}{xs:List V}(I:L2.Inv X pS Y H s)(hf:zfj X pS H b)(hs:SqL X.K H a xs):b≠a:=by
 rintro rfl
 rcases hs with (h|⟨o,h⟩)|⟨o,its,n,h,_⟩
 ·rw[hf.1] at h;cases h
 ·rw[hf.1] at h;cases h
 ·have hb:=I.mod.kin b o h
  rcases hf.2.2.2.1 with z|z
  ·exact I.ok.noex b o hb z
  ·exact absurd (was (wai hb) (Nat.le_trans I.ok.bsz z)) (Nat.lt_irrefl _)
theorem zoe{P:Program}{w:World}{K:W.Frag}{elts:List Expr}{x1}{ps:Pos}{a e it:Addr}(hne:e≠it):zoO P w K (.Tuple elts x1 ps) (Ite K a) [e,it] e (fun i h=>Ep h e it a i) where
 mem:=by simp
 obj:=fun i h st c hc=>by
  obtain ⟨⟨old,s1⟩,⟨o4,s4,_,d4⟩⟩:=st
  simp only[wap,wak,or_false] at hc
  rcases hc with rfl|rfl
  ·exact ⟨_,s1,fun v q=>by cases q⟩
  ·exact ⟨_,s4,fun v q=>by rw[d4] at q;cases q⟩
 keep:=fun i h h' st k=>st.keep k
 item:=by
  intro X hP hw hK hc i pS s Y H E I hf st hg
  subst hP hw hK
  obtain ⟨xs,x,q1,hx⟩:=hg
  obtain ⟨its,rv,p,hz⟩:=I.list q1
  obtain ⟨u,hu,ru⟩:=rv.get hx
  obtain ⟨old,he⟩:=st.e
  refine wpAny_pyNext_enum_item he st.a p.isList (x:=u) (by simpa using hu) hne fun h' a1 a2 a3 a4 a5=>?_
  refine ⟨_,rfl,wpAny_letOwnedTupleGo_enum a1 fun h2 he2 sb=>?_⟩
  have hel:e<s.heap.objs.size:=wai he
  have hitl:it<s.heap.objs.size:=by obtain ⟨o,ho,_⟩:=st.a;exact wai ho
  have hzp:∀ c∈[e,it],c≠s.heap.objs.size:=fun c hc q=>by
   simp only[wap,wak,or_false] at hc
   rcases hc with rfl|rfl
   ·exact absurd (q ▸ hel) (Nat.lt_irrefl _)
   ·exact absurd (q ▸ hitl) (Nat.lt_irrefl _)
  have st2:Ep h2 e it a (i+1):=⟨⟨_,he2⟩,a2.extBut sb.extBut (Ne.symm hne)⟩
  have hk2:∀ c ob,c∉[e,it]->s.heap.get? c=some ob->h2.get? c=some ob:=fun c ob nc q=>by
   simp only[wap,wak,or_false,not_or] at nc
   exact sb.extBut _ _ nc.1 (a5 c ob nc.1 nc.2 q)
  have hth:∀ c ob,s.heap.get? c=some ob->∃ ob',h2.get? c=some ob':=fun c ob q=>by
   by_cases nc:c∈[e,it]
   ·simp only[wap,wak,or_false] at nc
    obtain ⟨⟨o1,s1⟩,⟨o4,s4,_⟩⟩:=st2
    rcases nc with rfl|rfl
    ·exact ⟨_,s1⟩
    ·exact ⟨_,s4⟩
   ·exact ⟨ob,hk2 c ob nc q⟩
  have hnew:h2.get? s.heap.objs.size=some { cls:=.type "tuple",data:=.seq #[.int i s.toks,u] }:=sb.extBut _ _ (Ne.symm (hzp e xws)) a3
  have IN:L2.Inv X pS Y (upd H s.heap.objs.size (.tup [.int (i:Nat),x])) { s with heap:=h2,toks:=s.toks+1 }:=zeW (s:=s) (t':=s.toks+1) (o:=.tup [.int (i:Nat),x]) I hf hk2 (wal _) hth ⟨by show 2<=sizeLine;decide,[.int i s.toks,u],.cons ⟨_,rfl⟩ (.cons ru .nil),0,hnew⟩
  exact ⟨.ref s.heap.objs.size,_,IN,rfl,
   ⟨_,x,rfl,I.hok.fresh (wal _),rfl,fun zs q=>by rw[I.list_inj q q1];exact hx⟩,st2,fun c hc=>by rw[zah (hzp c hc)];exact (hf c hc).1⟩
 done:=by
  intro X hP hw hK hc i pS s Y H E I hf st hg
  subst hP hw hK
  obtain ⟨xs,q1,hx⟩:=hg
  obtain ⟨its,rv,p,hz⟩:=I.list q1
  have hl:=rv.length
  obtain ⟨old,he⟩:=st.e
  refine wpAny_pyNext_enum_end (I.ok.hd hc) he st.a p.isList (by simp;omega) fun h' hk=>⟨rfl,?_⟩
  refine zca (t':=s.toks) I hf fun c ob nc q=>?_
  simp only[wap,wak,or_false,not_or] at nc
  exact hk c ob nc.2 q
 self:=fun _ _ _ _ _ st h=>let ⟨_,he⟩:=st.e;wpAny_pyIter_enum he h
def zf8(l:List Dt):List Dt:=(List.range l.length).zip l |>.map fun z=>.tup [.int (z.1:Nat),z.2]
def zoX(fa:De):DA:=fun Z=>(fa Z).bind fun a=>match a.1 with
 |.lst l=>.ok (zf8 l,a.2)
 |_=>.no
theorem ztz{K:W.Frag}{G:Hp}{a:Addr}{vs:List V}{ds:List Dt}(hs:G a=some (.lst vs))(q:za1 K G ds vs):znm K (Ite K a) G (zf8 ds):=fun i G1 H s1 s2=>by
 have h1:SqL K H a vs:=SqL.of (s2 _ _ (s1 _ _ hs))
 refine ⟨fun d e=>?_,fun h=>⟨vs,h1,?_⟩⟩
 ·unfold zf8 at e
  rw[List.getElem?_map] at e
  have hi:i<ds.length:=by
   by_cases hi:i<ds.length
   ·exact hi
   ·rw[List.getElem?_eq_none (by rw[List.length_zip,List.length_range];omega)] at e;cases e
  have z1:(List.range ds.length)[i]? = some i:=by simp[hi]
  have z2:ds[i]? = some ds[i]:=by simp[hi]
  obtain ⟨v,e1,e2⟩:=q.get z2
  have ed:d=.tup [.int (i:Nat),ds[i]]:=by
   rw[(List.getElem?_zip_eq_some (z:=(i,ds[i]))).mpr ⟨z1,z2⟩] at e
   exact (waB e).symm
  refine ⟨⟨vs,v,h1,e1⟩,fun x H' y=>?_⟩
  obtain ⟨p,x',rfl,hp,rfl,k1⟩:=y
  have kx:=k1 vs h1
  rw[e1] at kx
  cases kx
  have gr:zdU G1 H (upd G1 p (.tup [.int (i:Nat),v])) (upd H p (.tup [.int (i:Nat),v])):=.new s2 hp
  refine ⟨_,gr,?_⟩
  rw[ed]
  unfold Rep
  exact ⟨p,[.int (i:Nat),v],rfl,zhM.of zan,za1.cons (za5 _) (za1.cons ((e2.same s1).same gr.g) za1.nil)⟩
 ·rw[<- q.length]
  unfold zf8 at h
  simpa using h
section
variable{X:Cx}{C:Cn}{elts:List Expr}{x1:Nat}{pt:Pos}{a:Expr}{fa:De}{p pos:Pos}
theorem zsx(hg:Gl X "enumerate")(hm:X.mg "enumerate"=none)(ha:JE X C a fa)(hs:starEach [a] X.env=(false,eval a X.env)::starEach [] X.env:=by rfl)(hpl:(backTo pos (starEach [] X.env)).any (·.1)=false:=by rfl) :
  JI X C (.Tuple elts x1 pt) (.Call (.Name "enumerate" p) [a] [] pos) (zoX fa):=by
 intro pS s Y H R I ⟨G,w,Z,r,pp⟩
 refine PyProof.Rows.Call_ (zeA I hg hm PyProof.Rows.boot_enumerate (PyProof.Rows.callWith_type1 (thn (zac ha zap hs pos pS s Y H (fun vs H1=>∃(l1:Addr)(xs:List V),vs=[.ref l1]/\SqL X.K H1 l1 xs/\R (Ite X.K l1) H1) I ?_) fun us s1 ⟨vs,H1,I1,r1,q1⟩=>?_) hs hpl))
 ·refine ⟨G,w,Z,r,?_⟩
  unfold zoX at pp
  unfold dA dA0
  cases e:fa Z with
  |ok x =>
   obtain ⟨d,Z1⟩:=x
   rw[e] at pp
   simp only[PV.R.bind_ok] at pp ⊢
   intro vs G1 H1 w1 s1 r1 q
   obtain ⟨v,rfl,k1⟩:=zf0 q
   cases d with
   |lst l =>
    obtain ⟨a1,xs,rfl,m1,m2⟩:=zba k1
    exact ⟨a1,xs,rfl,SqL.of (r1.gh _ _ m1),pp _ G1 H1 w1 s1 r1 (ztz m1 m2)⟩
   |_=>exact False.elim pp
  |er n=>rw[e] at pp;exact pp
  |no=>rw[e] at pp;exact pp
 ·obtain ⟨l1,xs,rfl,k1,q⟩:=q1
  obtain ⟨u1,rfl,c1⟩:=zgM r1
  cases c1
  obtain ⟨its,rv,p1,_⟩:=I1.list k1
  refine call_enumerate_list p1.isList fun h' he hit hz hk=>?_
  refine wpAny_pyIter_enum he ?_
  refine ⟨s1.heap.objs.size+1,[s1.heap.objs.size+1,s1.heap.objs.size],_,_,H1,rfl,I1.kept (t':=s1.toks) hk,zoe (by intro h;have h:(s1.heap.objs.size+1:Nat)=s1.heap.objs.size:=h;omega),⟨⟨_,he⟩,hit⟩,fun c hc=>?_,q⟩
  have hle:s1.heap.objs.size<=c:=by
   simp only[wap,wak,or_false] at hc
   rcases hc with rfl|rfl
   ·exact Nat.le_add_right ..
   ·exact wal _
  exact I1.fpOk hle (I1.hok.fresh hle)
end
end PV
end
section
namespace PV
open PySem PySem.Spec L2 PyProof.Rows
def zrk(K:W.Frag):R2:=fun x y H Q=>∃ a b xs,x=.ref a/\y=.ref b/\H a=some (.lst xs)/\H b=some (.lst [])/\Q (.bl (!xs.isEmpty)) H
def zfq:Dt->Dt->R Dt
 |.lst x,.lst []=>.ok (.bl (!x.isEmpty))
 |_,_=>.no
section
variable{X:Cx}{C:Cn}{a b:Expr}{fa fb:De}{pos:Pos}
theorem zra(hu:X.A.units+64<cLine):OpR X (compareOp .NotEq) (zrk X.K):=by
 intro pS s Y H x y v u Q I rx ry h
 obtain ⟨a,b,xs,rfl,rfl,h1,h2,q⟩:=h
 cases rx
 cases ry
 obtain ⟨its,r1,⟨o,n,e,c,_,d⟩,_⟩:=I.list (SqL.of h1)
 obtain ⟨its2,r2,⟨o2,n2,e2,c2,_,d2⟩,_⟩:=I.list (SqL.of h2)
 obtain rfl:its2=[]:=by cases r2;rfl
 have l1:s.heap.IsList a its.toArray:=⟨o,e,c,n,d⟩
 have l2:s.heap.IsList b ([]:List Value).toArray:=⟨o2,e2,c2,n2,d2⟩
 have hlt:X.A.units<cLine:=by omega
 cases xs with
 |nil =>
  obtain rfl:its=[]:=by cases r1;rfl
  exact PySem.SeqAt.RcNeAt.lists (e:=fun _=>true) l1 l2 rfl hlt (fun j h _=>absurd h xws) _ _ _ _ ⟨.bl false,H,I,rfl,q⟩
 |cons z r =>
  cases r1 with
  |cons _ _=>exact PySem.SeqAt.RcNeAt.lists_lengths l1 l2 xws hlt _ _ _ _ ⟨.bl true,H,I,rfl,q⟩
theorem znV:Op2 X.K (zrk X.K) zfq:=fun G H x y dx dy z Q sm hx hy e k=>by
 unfold zfq at e
 split at e
 ·rename_i l
  cases e
  obtain ⟨a,vs,rfl,h1,h2⟩:=zba hx
  obtain ⟨b,us,rfl,h3,h4⟩:=zba hy
  rw[h4.nil_inv] at h3
  refine ⟨a,b,vs,rfl,rfl,sm _ _ h1,sm _ _ h3,?_⟩
  have:vs.isEmpty=l.isEmpty:=by
   have:=h2.length
   cases l <;> cases vs <;> simp at this <;> rfl
  rw[this]
  exact k _ G H (.refl sm) (by unfold Rep;rfl)
 ·cases e
theorem zm9:zhC zfq:=fun x y n h=>by
 unfold zfq at h
 split at h <;> cases h
theorem zlZ(hu:X.A.units+64<cLine)(ha:JE X C a fa)(hb:JE X C b fb):JT X C (.Compare a [.NotEq] [b] pos) (dTB (dOp zfq fa fb)):=zg5 (zra hu) znV zm9 ha hb (zeB _)
end
section
variable{prog:Program}{w:World}{A:Around}{E:Value->Shared->Prop}{s:Shared}
theorem zeN{t sl:Addr}{items:Array Value}{vl vu:Value}{lo hi:Option Int}{Q:Value->Shared->Prop}(ht:IsTup s.heap t items)(hs:s.heap.IsSliceOf sl vl vu .none)(pl:IsPart vl lo)(pu:IsPart vu hi)
  (hw:HT.sIx items.size 0 lo=0/\HT.sIx items.size items.size hi=items.size) (h:Q (.ref t) s):wpAny (model prog w) A (getItem (.ref t) (.ref sl)) Q E s:=by
 obtain ⟨os,hos,hcs,hds⟩:=id hs
 have hTs:s.TypeIs (.ref sl) "slice":=⟨os,hos,hcs⟩
 unfold getItem
 try with_reducible refine wpAny_holding ?_
 first|refine wab (wad ?_)|skip
 refine wab (wpAny_sequenceKey ht.typeIs xwd ?_)
 refine wab (wpAny_callSpecial?_slot (name:=Str.ofString "__getitem__") ht.typeIs PyProof.Rows.slot_tuple_getitem
  (wpAny_call_entry PyProof.Rows.slot_tuple_getitem ht.typeIs entry_tuple_getitem ?_ (args_tuple_getitem _ _)))
 show wpAny _ _ (Builtin.Tuple.tupleItemsOf (.ref t) >>= _) _ _ s
 refine wab (tupleItemsOf_ ht ?_)
 refine wab (wpAny_typeOf hTs ?_)
 rw[if_pos xwd]
 refine wab (HT.sliceApplied_gen hs pl pu ?_)
 have hyes:(((HT.sIx items.size 0 lo:Nat):Int) == 0 && (1:Int) == 1 && (HT.sIx items.size items.size hi-HT.sIx items.size 0 lo) == items.size)=true:=by
  rw[hw.1,hw.2];simp
 show wpAny _ _ (if (((HT.sIx items.size 0 lo:Nat):Int) == 0 && (1:Int) == 1 && (HT.sIx items.size items.size hi-HT.sIx items.size 0 lo) == items.size)=true then _ else _) _ _ s
 rw[if_pos hyes]
 refine wab ?_
 unfold Builtin.Tuple.tupleIsExact
 refine wab (wpAny_typeOf ht.typeIs (wad ?_))
 rw[if_pos xwd]
 refine wab (wpAny_rule ?_)
 exact wad ⟨_,rfl,wad h⟩
theorem zid(n:Nat):Builtin.Slice.sliceAdjust none none (-1) (n:Int)=((n:Int)-1,-1)/\Builtin.Slice.slicePlaces ((n:Int)-1) (-1) (-1)=n:=by
 constructor
 ·unfold Builtin.Slice.sliceAdjust
  rfl
 ·unfold Builtin.Slice.slicePlaces
  have h1:¬ ((-1:Int) > 0):=by omega
  simp only[h1,if_false]
  split
  ·have:((n:Int)-1- -1-1) / (- -1)=(n:Int)-1:=by
    rw[show (- -1:Int)=1 from rfl,Int.ediv_one];omega
   rw[this];omega
  ·omega
theorem zgI{sl:Addr}{t:Tok}{n:Nat}{Q:Int×Int×Nat->Shared->Prop}(hs:s.heap.IsSliceOf sl .none .none (.int (-1) t))(h:Q ((n:Int)-1,-1,n) s):wpAny (model prog w) A (Builtin.Slice.sliceApplied (.ref sl) (pure (n:Int))) Q E s:=by
 obtain ⟨os,hos,hcs,hds⟩:=id hs
 unfold Builtin.Slice.sliceApplied Builtin.Slice.sliceFields
 refine wab (wab (wpAny_field hos hds (x:=.none) rfl (wab (wpAny_field hos hds (x:=.none) rfl (wab (wpAny_field hos hds (x:=.int (-1) t) rfl (wad ?_)))))))
 refine wab (slicePart_int ?_)
 show wpAny _ _ (if ((-1:Int) == 0)=true then _ else _) _ _ s
 rw[if_neg xwd]
 refine wab (slicePart_none (wab (slicePart_none (wab (wad ?_)))))
 show wpAny _ _ (match Builtin.Slice.sliceAdjust none none (-1) (n:Int) with|(lo,hi)=>pure (lo,(-1:Int),Builtin.Slice.slicePlaces lo hi (-1))) _ _ s
 rw[(zid n).1]
 show wpAny _ _ (pure ((n:Int)-1,(-1:Int),Builtin.Slice.slicePlaces ((n:Int)-1) (-1) (-1))) _ _ s
 rw[(zid n).2]
 exact wad h
theorem zot{α β:Type}{f:α->Option β}{g:α->β}:∀{l:List α},(∀ m∈l,f m=some (g m))->l.filterMap f=l.map g
 |[],_=>rfl
 |a::r,h=>by
  rw[List.filterMap_cons,h a xws,List.map_cons,zot (l:=r) fun m hm=>h m (List.mem_cons_of_mem _ hm)]
theorem zqT(xs:Array Value):((List.range xs.size).filterMap fun (m:Nat)=>xs[(((xs.size:Int)-1)+(m:Int) * (-1)).toNat]?).toArray=xs.toList.reverse.toArray:=by
 congr 1
 apply List.ext_getElem?
 intro i
 have e:∀ m∈List.range xs.size,(fun (m:Nat)=>xs[(((xs.size:Int)-1)+(m:Int) * (-1)).toNat]?) m=some (xs.toList.reverse.getD m .none):=by
  intro m hm
  have hm':=List.mem_range.mp hm
  have e1:(((xs.size:Int)-1)+(m:Int) * (-1)).toNat=xs.size-1-m:=by omega
  show xs[(((xs.size:Int)-1)+(m:Int) * (-1)).toNat]? = _
  rw[e1,List.getD_eq_getElem?_getD,List.getElem?_reverse (by simpa using hm'),Array.length_toList,Array.getElem?_toList]
  rw[Array.getElem?_eq_getElem xwo]
  rfl
 rw[show ((List.range xs.size).filterMap fun (m:Nat)=>xs[(((xs.size:Int)-1)+(m:Int) * (-1)).toNat]?)=(List.range xs.size).map (fun m=>xs.toList.reverse.getD m .none) from zot e]
 by_cases hi:i<xs.size
 ·rw[List.getElem?_map,List.getElem?_range hi]
  have hl:i<xs.toList.reverse.length:=by simpa using hi
  rw[List.getElem?_eq_getElem hl,Option.map_some,List.getD_eq_getElem?_getD,List.getElem?_eq_getElem hl]
  rfl
 ·rw[List.getElem?_eq_none (by simp;omega),List.getElem?_eq_none (by simp;omega)]
theorem zgb{t sl:Addr}{items:Array Value}{tk:Tok}{Q:Value->Shared->Prop}(ht:IsTup s.heap t items)(hs:s.heap.IsSliceOf sl .none .none (.int (-1) tk))
  (h:Q (.ref s.heap.objs.size) { s with heap:=s.heap.push { cls:=.type "tuple",data:=.seq items.toList.reverse.toArray } }) (hsz:items.size<=sizeLine):wpAny (model prog w) A (getItem (.ref t) (.ref sl)) Q E s:=by
 have htake:sizeOk (.seq items.toList.reverse.toArray):=by
  show items.toList.reverse.toArray.size<=sizeLine
  rw[List.size_toArray,List.length_reverse,Array.length_toList]
  exact hsz
 obtain ⟨os,hos,hcs,hds⟩:=id hs
 have hTs:s.TypeIs (.ref sl) "slice":=⟨os,hos,hcs⟩
 unfold getItem
 try with_reducible refine wpAny_holding ?_
 first|refine wab (wad ?_)|skip
 refine wab (wpAny_sequenceKey ht.typeIs xwd ?_)
 refine wab (wpAny_callSpecial?_slot (name:=Str.ofString "__getitem__") ht.typeIs PyProof.Rows.slot_tuple_getitem
  (wpAny_call_entry PyProof.Rows.slot_tuple_getitem ht.typeIs entry_tuple_getitem ?_ (args_tuple_getitem _ _)))
 show wpAny _ _ (Builtin.Tuple.tupleItemsOf (.ref t) >>= _) _ _ s
 refine wab (tupleItemsOf_ ht ?_)
 refine wab (wpAny_typeOf hTs ?_)
 rw[if_pos xwd]
 refine wab (zgI hs ?_)
 have hno:¬ ((((items.size:Int)-1) == 0 && (-1:Int) == 1 && items.size == items.size)=true):=by
  intro q
  rw[Bool.and_eq_true,Bool.and_eq_true] at q
  exact absurd q.1.2 xwd
 show wpAny _ _ (if (((items.size:Int)-1) == 0 && (-1:Int) == 1 && items.size == items.size)=true then _ else _) _ _ s
 rw[if_neg hno,zqT]
 first
  |exact wab (m:=Builtin.Tuple.tupleExact _) (wpAny_newObj_type (wad ⟨_,rfl,wad h⟩) htake)
  |exact wab (m:=Builtin.Tuple.tupleExact _) (wpAny_newObj_type (wab (wad (wad ⟨_,rfl,wad h⟩))) htake)
  |exact wab (wab (m:=Builtin.Tuple.tupleExact _) (wpAny_newObj_type (wad (wad ⟨_,rfl,wad h⟩)) htake))
  |exact wab (wab (m:=Builtin.Tuple.tupleExact _) (wpAny_newObj_type (wad ⟨_,rfl,wad h⟩) htake))
end
section
variable{X:Cx}{C:Cn}{a b e:Expr}{fa fb:De}{pos:Pos}
def rSlW(K:W.Frag):V->Option Int->Option Int->Hp->VK->Prop:=fun x lo hi H Q=>∃ a xs,x=.ref a/\SqT K H a xs /\
 (HT.sIx xs.length 0 lo=0/\HT.sIx xs.length xs.length hi=xs.length)/\Q (.ref a) H
theorem zpJ:SlR X (rSlW X.K):=by
 intro pS s Y H x v vl vu lo hi sl Q I rx hs pl pu h
 obtain ⟨a,xs,rfl,hx,hw,q⟩:=h
 cases rx
 obtain ⟨its,r,ht,hz⟩:=I.tuple hx
 have hlen:its.toArray.size=xs.length:=by rw[List.size_toArray];exact r.length.symm
 refine ⟨"tuple",_,PyProof.Rows.slot_tuple_getitem.lookup,ht.typeIs,?_⟩
 exact zeN ht hs pl pu (by rw[hlen];exact hw) ⟨.ref a,H,I,rfl,q⟩
def zbn(fa:De)(fl fh:DO):De:=fun Z=>(fa Z).bind fun a=>(fl a.2).bind fun l=>(fh l.2).bind fun h=>match a.1 with
 |.tup ds=>.ok (.tup (zcA ds l.1 h.1),h.2)
 |_=>.no
theorem zb6{lo hi:Option Expr}{fl fh:DO}{p2:Pos}(ha:JE X C a fa)(hl:JO X C lo fl)(hh:JO X C hi fh):JE X C (.Subscript a (.Slice lo hi none p2) pos) (zbn fa fl fh) :=
 PE.weak (zlR (zul.or zpJ) ha hl hh) fun Y H Q ⟨G,w,Z,r,p⟩=>by
  refine zdb (κ:=fun G H w=>kE X.K C Y Q G H w) zcc r p fun d Z1 v G1 H1 w1 r1 s1 q1 p1=>?_
  refine zuT (κ:=fun G H w=>kE X.K C Y Q G H w) zcc r1 p1 fun l Z2 G2 H2 w2 r2 s2 p2=>?_
  refine zuT (κ:=fun G H w=>kE X.K C Y Q G H w) zcc r2 p2 fun h Z3 G3 H3 w3 r3 s3 p3=>?_
  cases d with
  |tup ds =>
   have q3:=q1.same (s2.g.trans s3.g)
   obtain ⟨ad,vs,rfl,h1,h2⟩:=zdH q3
   dsimp only at p3
   by_cases hw:HT.sIx ds.length 0 l=0/\HT.sIx ds.length ds.length h=ds.length
   ·refine .inr ⟨ad,vs,rfl,zaD r3.gh h1.sq,by rw[<- h2.length];exact hw,?_⟩
    have e:zcA ds l h=ds:=by
     unfold zcA
     rw[hw.1,hw.2,List.drop_zero,Nat.sub_zero,List.take_length]
    rw[e] at p3
    exact p3 _ G3 H3 w3 (.refl _ _ _) r3 q3
   ·have fin:∀ p,H3 p=none->Q (.ref p) (upd H3 p (.tup (znq vs l h))):=fun p hp=>by
     have gr:zdU G3 H3 (upd G3 p (.tup (znq vs l h))) (upd H3 p (.tup (znq vs l h))):=.new r3.gh hp
     exact p3 _ _ _ w3 gr.step (r3.grow gr) (by unfold Rep;exact ⟨p,_,rfl,zhM.of zan,(zma h2 l h).same gr.g⟩)
    exact .inl ⟨ad,vs,rfl,zaD r3.gh h1.sq,by rw[<- h2.length];exact hw,fin⟩
  |_=>exact p3.elim
def zmW(fa:De):De:=fun Z=>(fa Z).bind fun a=>match a.1 with
 |.tup ds=>.ok (.tup ds.reverse,a.2)
 |_=>.no
theorem znB{k1:Nat}{p1 p2 p3:Pos}(ha:JE X C a fa):JE X C (.Subscript a (.Slice none none (some (.UnaryOp .USub (.Constant (.int 1) k1 p1) p2)) p3) pos) (zmW fa):=by
 intro pS s Y H Q I ⟨G,w,Z,r,p⟩
 refine PyProof.Rows.Subscript_ (thn (ha pS s Y H (fun x H1=>∃ ad vs,x=.ref ad/\SqT X.K H1 ad vs/\∀ p,H1 p=none->Q (.ref p) (upd H1 p (.tup vs.reverse))) I ?_) fun v s1 ⟨x,H1,I1,r1,ad,vs,ex,hx,q1⟩=>?_)
 ·refine zdb (κ:=fun G H w=>kE X.K C Y Q G H w) zcc r p fun d Z1 v G1 H1 w1 r1 s1 q1 p1=>?_
  cases d with
  |tup ds =>
   obtain ⟨ad,vs,rfl,h1,h2⟩:=zdH q1
   refine ⟨ad,vs,rfl,zaD r1.gh h1.sq,fun p hp=>?_⟩
   have gr:zdU G1 H1 (upd G1 p (.tup vs.reverse)) (upd H1 p (.tup vs.reverse)):=.new r1.gh hp
   exact p1 _ _ _ w1 gr.step (r1.grow gr) (by unfold Rep;exact ⟨p,_,rfl,zhM.of zan,h2.reverse.same gr.g⟩)
  |_=>exact p1.elim
 subst ex
 cases r1
 refine wpAny_Slice (evalPart_none_step (evalPart_none_step (evalPart_some_step (thn (ztS (a:=.Constant (.int 1) k1 p1) (pos:=p2) zrB zj6 pS s1 Y H1 (fun x H2=>x=.int (-1)/\H2=H1) I1 ⟨1,rfl,rfl,rfl⟩) fun vk s2 ⟨y,H2,I2,r2,ey,eH⟩=>?_))))
 subst ey
 subst eH
 obtain ⟨t,rfl⟩:=r2
 have I4:L2.Inv X pS Y H2 { s2 with heap:=s2.heap.push { cls:=.type "slice",data:=.fields #[.none,.none,.int (-1) t] } }:=I2.kept (t':=s2.toks) fun b ob q=>waa _ q
 obtain ⟨its4,rv4,ht4,hz4⟩:=I4.tuple hx
 have hlen4:=rv4.length
 show wpAny (model X.prog X.w) X.A (PyProof.Rows.subscriptTail a (.Slice none none (some (.UnaryOp .USub (.Constant (.int 1) k1 p1) p2)) p3) (.ref ad) (.ref s2.heap.objs.size)) (EP X pS Y Q) X.xe { s2 with heap:=s2.heap.push { cls:=.type "slice",data:=.fields #[.none,.none,.int (-1) t] } }
 refine PyProof.Rows.tail_any (ops:=[.ref ad,.ref s2.heap.objs.size]) ht4.typeIs PyProof.Rows.slot_tuple_getitem.lookup ?_ (by with_unfolding_all rfl)
 refine zgb ht4 (Heap.IsSliceOf.new ..) ?_ (by rw[List.size_toArray] <;> omega)
 refine ⟨.ref _,_,I4.laid (t':=s2.toks) (o:=.tup vs.reverse) (fun b ob q=>waa _ q) (wal _) ?_,rfl,q1 _ (I4.hok.fresh (wal _))⟩
 exact ⟨by rw[List.length_reverse];exact hz4,its4.reverse,rv4.reverse,0,waj (o:={ cls:=.type "tuple",data:=.seq its4.toArray.toList.reverse.toArray }) _ rfl⟩
end
section
variable{prog:Program}{w:World}{A:Around}{E:Value->Shared->Prop}{s:Shared}
end
section
variable{X:Cx}{C:Cn}{a b e:Expr}{fa fb:De}{pos:Pos}
end
def spH(PT:Addr)(sp:Sp):Sp:=fun vs H Q E=>sp (vs++[.ref PT]) H Q E
def dRT(j:Nat)(fr:DAr):DAr:=fun Z=>(fr Z).bind fun b=>.ok (b.1++[.s j],b.2)
theorem zgn{K:W.Frag}{G:Hp}{Y:L2.St}{i:Nat}{v:V}(hi:Y[i]? = some (some v)):∀{as:List Arg}{vs:List V},zcQ K G Y as vs->zcQ K G Y (as++[.s i]) (vs++[v])
 |[],vs,h=>by cases h;exact ⟨v,[],rfl,hi,rfl⟩
 |.d x::r,vs,⟨v0,t,e,h2,h3⟩=>by subst e;exact ⟨v0,t++[v],rfl,h2,zgn hi h3⟩
 |.s k::r,vs,⟨v0,t,e,h2,h3⟩=>by subst e;exact ⟨v0,t++[v],rfl,h2,zgn hi h3⟩
section
variable{X:Cx}{C:Cn}{CX:CXT}{k k':Nat}{ks:List Bool}{Fd:FD}{x:Str}{p pos:Pos}{e:Expr}{es:List Expr}{far:DAr}{j:Nat}{PT:Addr}
theorem zmP{Y:L2.St}{H:Hp}{Q:VK}(hpp:j∈C.pp)(hσ0:C.σ₀[j]? = some (some (.ref PT)))(h:tE X.K C (zag Fd (dRT j far)) Y H Q)(hks:∀ bs,Fd bs≠.no->zbx bs=ks):zqC (spH PT (zpW false X.K C.xv ks Fd)) [] (EXc C) (tAr X.K C far) Y H Q:=by
 obtain ⟨G,w,Z,r,p⟩:=h
 unfold zag dRT at p
 rw[R.bind_assoc] at p
 simp only[R.bind_ok] at p
 refine zoJ (κ:=fun G H w=>kE X.K C Y Q G H w) zcc r p fun as0 Z1 vs0 G1 H1 w1 r1 s1 q0 p1=>?_
 rw[List.append_nil]
 have hσj:Y[j]? = some (some (.ref PT)):=by rw[r1.pin j hpp];exact hσ0
 have q1:=zgn hσj q0
 dsimp only at p1
 generalize as0++[Arg.s j]=as at p1 q1
 unfold spH
 generalize vs0++[V.ref PT]=vs at q1
 by_cases hu:zhE as=true
 ·simp only[hu,if_true] at p1
  cases er:zay Z1 as with
  |ok bs =>
   rw[er,R.bind_ok] at p1
   have hk:zbx bs=ks:=by
    refine hks bs fun z=>?_
    rw[z] at p1;exact p1
   have hl:bs.length=vs.length:=zf7 q1 er
   refine ⟨G1,wIn w1 as,bs,by rw[<- hk,<- hl];simp[zbx],hk,⟨r1.gh,fun b e=>r1.wg b fun z=>e (by unfold wIn;rw[z];rfl),fun b e=>r1.wh b fun z=>e (by unfold wIn;rw[z];rfl),hl,fun j b v e1 e2=>?_⟩,?_⟩
   ·have:=zha r1 (as:=as) (k:=0) (j:=j) (fun m i e=>by rw[Nat.zero_add];exact zjc hu e) q1 er e1 e2
    rw[Nat.zero_add] at this;exact this
   ·cases ef:Fd bs with
    |ok z =>
     rw[ef,R.bind_ok] at p1
     intro v G' H' w' s' pb q
     obtain ⟨r',st⟩:=r1.back hu q1 er hk s' pb
     exact p1 v G' H' _ st r' q
    |er n =>
     rw[ef] at p1
     intro G' H' w' s'
     refine ⟨rfl,n,rfl,p1,G',fun _=>none,r1.en.trans ⟨s'.g,fun b o e=>?_,fun b o e z=>s'.h b o e (by unfold wIn;rw[z];rfl),fun b e=>absurd rfl e,s'.k⟩⟩
     rcases s'.fr b o e with q|q|q
     ·exact .inl q
     ·exact .inr (.inl q)
     ·exact .inr (.inr fun z=>q (by unfold wIn;rw[z];rfl))
    |no=>rw[ef] at p1;exact p1.elim
  |er n=>exact absurd er zdz
  |no=>rw[er] at p1;exact p1.elim
 ·simp only[hu] at p1;exact p1.elim
structure zvc(P:Program)(w:World)(K:W.Frag)(mg:Str->Option Value)(base:Heap)(CX:CXT)(xv:Nat->Value)(k:Nat)(x:Str)(ks:List Bool)(PT:Addr)(F:FD):Prop where
 ex:∃(f:Addr)(fd:FuncData)(ps:List Str),zhF P w K mg base CX k f fd ps (spH PT (zpW false K xv ks F))/\mg x=some (.ref f)/\W.keepIn K (.ref f)=true/\zgP K fd ps []/\∀ bs,F bs≠.no->zbx bs=ks
theorem zub(D:zvc X.prog X.w X.K X.mg X.base CX C.xv k x ks PT Fd)(hr:zcY k' X.A)(hk:k<=k')(hx:zcH CX X (EXc C))(hpp:j∈C.pp)(hσ0:C.σ₀[j]? = some (some (.ref PT)))(ha:JAr X C (e::es) far)(hg:Gl X x:=by rfl)(hdb:(x == ("__debug__" : Str))=false:=by decide)(he:starEach (e::es) X.env=(false,eval e X.env)::starEach es X.env:=by rfl)
  (hpl:(backTo pos (starEach es X.env)).any (·.1)=false:=by rfl):JE X C (.Call (.Name x p) (e::es) [] pos) (zag Fd (dRT j far)):=by
 obtain ⟨f,fd,ps,h1,h2,h3,h4,h5⟩:=D.ex
 exact PE.weak (zkH h1 (hr.mono hk) hg h2 h3 h4 .nil hx ha hdb he hpl) fun Y H Q h=>zmP hpp hσ0 h h5
end
theorem zob{N:List Str}{vs:List V}{v:V}(h:vs.length<N.length):(L2.start N vs).set vs.length (some v)=L2.start N (vs++[v]):=by
 unfold L2.start
 obtain ⟨m,hm⟩ : ∃ m,N.length-vs.length=m+1:=⟨N.length-vs.length-1,xwo⟩
 rw[hm,List.replicate_succ,List.length_append,List.length_singleton,show N.length-(vs.length+1)=m by omega,List.map_append]
 rw[List.set_append_right _ _ xws]
 simp
theorem zqS{P:Program}{w:World}{K:W.Frag}{mg:Str->Option Value}{base:Heap}{xq qual xt:Str}{st:Stmt}{N ps:List Str}{xv:Nat->Value}{m k:Nat}{ks:List Bool}{fb:DS}{f PT cL:Addr}{fd:FuncData}(Fu:Fun K xq qual st f fd)(hcL:fd.code=.ref cL)(hch:W.codeHdIn K cL PT=true)
  (S:zax N ps (zaj st)) (hl:ps.length=ks.length) (hm:N.length=(ks++[true]).length+m) (hj:N[ks.length]? = some xt) (hv:¬ Vis (zaj st) xt) (hbm:base.BuiltinsAt mg PT) (hKb:K.In base)
  (hbody:∀(X:Cx)(C:Cn),(∃ cdv A outer s H E,X=ziN (CXe P w) P w K mg base N qual (zaj st) f cdv A outer s H E)->C.pp=zaB (ks++[true])->C.σ₀[ks.length]? = some (some (.ref PT))->C.xv=xv->C.nw=false->zcY k X.A->zcH (CXe P w) X (EXc C)->PassesOwn (model X.prog X.w) X.A X.env X.xe->zeZ X PT->JSs X C (zcj st) fb) :
  zhF P w K mg base (CXe P w) (k+1) f fd ps (spH PT (zpW false K xv (ks++[true]) (zaq false (ks++[true]) m fb))):=by
 obtain ⟨oc,od,kV,doc,pm,an,cdv,ct,osl,rfl,lk,hcd⟩:=Fu.ex
 obtain rfl:cdv=.ref cL:=hcL
 refine zqr lk hcd S (fun vs H Q E ⟨_,_,_,h,_⟩=>by simp at h;omega) fun A outer s H vs0 Q E hr hsp=>?_
 obtain ⟨G,w0,bs,hv',hk,pr,hF⟩:=hsp
 have hlen0:vs0.length=ks.length:=by simpa using hv'
 have hNl:vs0.length<N.length:=by rw[hm,hlen0];simp;omega
 have hset:=zob (N:=N) (vs:=vs0) (v:=V.ref PT) hNl
 rw[hlen0] at hset
 generalize hvs:vs0++[V.ref PT]=vs at hv' pr hF hset
 have hlast:vs[ks.length]? = some (.ref PT):=by rw[<- hvs,<- hlen0];simp
 generalize hks':ks++[true]=ks' at *
 let X:=ziN (CXe P w) P w K mg base N qual (zaj st) f (.ref cL) A outer s H E
 let C:Cn:=⟨G,H,w0,zaB ks',L2.start N vs,fun n=>zaq false ks' m fb bs=.er n,xv,false⟩
 have hE:∀ u a H',EXc C u a H'->E u a H':=fun u a H' ⟨ea,n,eu,en,G',w',s'⟩=>by
  subst ea;subst eu
  have en':zaq false ks' m fb bs=.er n:=en
  rw[en'] at hF
  exact hF G' H' w' s'
 have hσ:(L2.start N vs)[ks.length]? = some (some (.ref PT)):=by
  unfold L2.start
  rw[List.getElem?_append_left (by simpa using (List.getElem?_eq_some_iff.mp hlast).1),List.getElem?_map,hlast];rfl
 have hb:=hbody X C ⟨.ref cL,A,outer,s,H,E,rfl⟩ rfl hσ rfl rfl hr (zaC N qual (zaj st) f (.ref cL) A outer s H E (EXc C) S.kind hE) PassesOwn.leaving ⟨⟨cL,rfl,W.codeHd_of_K hKb hch⟩,hbm⟩
 refine ⟨fun D Y H=>tS K C fb D (Y.set ks.length (some (.ref PT))) H,fun pS s' Y H' D I h=>hb pS s' _ H' D (zh1 I hj hv) h,?_⟩
 show tS K C fb _ ((L2.start N vs0).set ks.length (some (V.ref PT))) H
 rw[hset]
 refine ⟨G,w0,bs.map some++List.replicate m none,?_,?_⟩
 ·refine ⟨pr.gh,pr.wg,pr.wh,?_,fun i b e=>?_,.refl _ _ _,fun i _=>rfl⟩
  ·unfold L2.start
   simp only[wav,List.length_map,List.length_replicate]
   have:=pr.len
   omega
  ·have hi:i<bs.length:=by
    by_cases hi:i<bs.length
    ·exact hi
    ·rw[List.getElem?_append_right (by simpa using hi),List.getElem?_replicate] at e
     split at e <;> cases e
   rw[List.getElem?_append_left (by simpa using hi),List.getElem?_map] at e
   have eb:bs[i]? = some b:=by
    cases q:bs[i]? with
    |none=>rw[q] at e;cases e
    |some z=>rw[q] at e;cases e;rfl
   have hiv:i<vs.length:=by rw[<- pr.len];exact hi
   refine ⟨vs[i],?_,pr.sl i b vs[i] eb (by simp[hiv])⟩
   unfold L2.start
   rw[List.getElem?_append_left (by simpa using hiv),List.getElem?_map]
   simp[hiv]
 ·have hF':match zaq false ks' m fb bs with
   |.ok a=>∀ v G' H' w',zbv G H w0 G' H' w'->zne K G' H' w' ks' a.2 vs->RtG false K H G' H' w' a.1 v->Q v H'
   |.er n=>∀ G' H' w',zbv G H w0 G' H' w'->E (xv n) none H'
   |.no=>False:=hF
  have er:zaq false ks' m fb bs=(fb (bs.map some++List.replicate m none)).bind fun a=>match a.1 with
   |.nx=>if false=true then .no else (zaw ks' a.2).bind fun l=>.ok (.non,l)
   |.rt d=>(zaw ks' a.2).bind fun l=>.ok (d,l)
   |_=>.no:=by unfold zaq;exact if_pos hk
  have back:∀{Z':Ev}{l:List B}{Y':L2.St}{G' H':Hp}{w':Wn},zaw ks' Z'=.ok l->Rel K C G' w' Z' Y' H'->zne K G' H' w' ks' l vs:=fun {Z' l Y' G' H' w'} eb r'=>by
   refine ⟨r'.gh,r'.wg,r'.wh,fun j v e1 e2=>?_⟩
   obtain ⟨b,h1,h2⟩:=zd9 eb e1
   obtain ⟨v',h3,h4⟩:=r'.sl j b h2
   have hj:j<ks'.length:=(wam.mp e1).1
   have hp:Y'[j]? = (L2.start N vs)[j]? := r'.pin j (by
    show j∈zaB ks'
    unfold zaB
    rw[List.mem_filter]
    exact ⟨List.mem_range.mpr hj,by simp[e1]⟩)
   have hs:(L2.start N vs)[j]? = some (some v):=by
    unfold L2.start
    rw[List.getElem?_append_left (by simpa using (List.getElem?_eq_some_iff.mp e2).1),List.getElem?_map,e2];rfl
   rw[hp,hs] at h3;cases h3
   exact ⟨b,h1,h4⟩
  cases ef:fb (bs.map some++List.replicate m none) with
  |ok z =>
   obtain ⟨fl,Z'⟩:=z
   rw[ef,R.bind_ok] at er
   cases fl with
   |nx =>
    intro Y' G' H' w' s' r'
    have er:zaq false ks' m fb bs=(zaw ks' Z').bind fun l=>.ok (.non,l):=er
    cases eb:zaw ks' Z' with
    |ok l =>
     rw[er] at hF';simp only[eb,R.bind_ok] at hF'
     exact hF' _ G' H' w' s' (back eb r') (by unfold RtG Rep;rfl)
    |er n=>exact absurd eb zcM
    |no =>
     have er':zaq false ks' m fb bs=.no:=by rw[er];show ((zaw ks' Z').bind _)=_;rw[eb];rfl
     rw[er'] at hF';exact hF'.elim
   |rt d =>
    intro v Y' G' H' w' s' r' q
    cases eb:zaw ks' Z' with
    |ok l =>
     rw[er] at hF';simp only[eb,R.bind_ok] at hF'
     exact hF' _ G' H' w' s' (back eb r') q
    |er n=>exact absurd eb zcM
    |no =>
     have er':zaq false ks' m fb bs=.no:=by rw[er];show ((zaw ks' Z').bind _)=_;rw[eb];rfl
     rw[er'] at hF';exact hF'.elim
   |bk=>rw[er] at hF';exact hF'.elim
   |ct=>rw[er] at hF';exact hF'.elim
  |er n =>
   show zaq false ks' m fb bs=.er n
   rw[er,ef];rfl
  |no=>rw[er,ef] at hF';exact hF'.elim
section
variable{X:Cx}{C:Cn}{a b e:Expr}{fa fb:De}{pos apos:Pos}{zaL:List Expr}
end
end PV
end
section
namespace PV
open PySem PySem.Spec L2
structure ZpL(h:Heap)(z TI TO i1 i2 l1 l2:Addr)(f0:Value)(k:Nat):Prop where
 z:IsZip h z TI TO f0
 ti:IsPair h TI (.ref i1) (.ref i2)
 to:∃ a b,IsPair h TO a b
 a1:h.IsListIter i1 l1 k
 a2:h.IsListIter i2 l2 k
theorem ZpL.keep{h h':Heap}{z TI TO i1 i2 l1 l2:Addr}{f0:Value}{k:Nat}(p:ZpL h z TI TO i1 i2 l1 l2 f0 k)(e:∀ b∈[z,TI,TO,i1,i2],∀ o,h.get? b=some o->h'.get? b=some o):ZpL h' z TI TO i1 i2 l1 l2 f0 k :=
 ⟨e z xws _ p.z,e TI xws _ p.ti,let ⟨a,b,q⟩:=p.to;⟨a,b,e TO xws _ q⟩,p.a1.at fun o q=>e i1 xws o q,p.a2.at fun o q=>e i2 xws o q⟩
def Itl(K:W.Frag)(a b:Addr):It :=
 ⟨fun i H=>∃ xs ys x y,SqL K H a xs/\SqL K H b ys/\xs[i]? = some x/\ys[i]? = some y,
   fun i H v H'=>∃ p x y,v=.ref p/\H p=none/\H'=upd H p (.tup [x,y])/\(∀ xs,SqL K H a xs->xs[i]? = some x)/\∀ ys,SqL K H b ys->ys[i]? = some y,
   fun i H=>∃ xs ys,SqL K H a xs/\SqL K H b ys/\xs.length<=i⟩
section
variable{X:Cx}{C:Cn}{elts:List Expr}{x1:Nat}{pt:Pos}{a b:Expr}{fa fb:De}{p pos:Pos}
end
end PV
end
section
namespace PV
open PySem PySem.Spec L2 PyProof.Rows
section
variable{X:Cx}{C:Cn}{pos:Pos}
def zrA(f:De)(g:DG):DS:=fun Z=>(f Z).bind fun a=>(g a.1 a.2).bind fun Z1=>.ok (.nx,Z1)
theorem zod{tg e:Expr}{fa:De}{g:DG}(he:JE X C e fa)(hg:JG X C tg g)(hs:swapsWithSole [tg] e pos.line X.env=pure false:=by rfl)(hw:swappedStores [tg] e X.env=pure none:=by rfl)
  (h1:(assignEach [tg] X.env).map (·.2)=[assign tg X.env]:=by rfl):JS X C (.Assign [tg] e pos) (zrA fa g) :=
 PS.weak (zrh he hg hs hw h1) fun D Y H ⟨G,w,Z,r,p⟩=>by
  refine zdb (κ:=fun G H w=>kS X.K C D G H w) zdA r p fun d Z1 v G1 H1 w1 r1 s1 q1 p1=>?_
  refine ⟨G1,w1,Z1,d,r1,q1,?_⟩
  dsimp only at p1
  cases hgd:g d Z1 with
  |ok Z2=>rw[hgd] at p1;exact p1
  |er n=>rw[hgd] at p1;exact p1
  |no=>rw[hgd] at p1;exact p1
end
section
variable{X:Cx}{C:Cn}{CX:CXT}{k k':Nat}{ks:List Bool}{Fd:FD}{x a b:Str}{p pos pa pb:Pos}
end
section
variable{X:Cx}{C:Cn}{a b:Expr}{fa fb:De}{pos:Pos}
end
end PV
end
section
end
section
namespace PV
open PySem PySem.Spec L2 PyProof.Rows
structure KeepO(i:Nat)(g:DG)(ft:DT)(fe:De):Prop where
 t:∀ d Z Z1 b Z2,g d Z=.ok Z1->ft Z1=.ok (b,Z2)->Z2[i]? = Z[i]?
 e:∀ Z y Z1,fe Z=.ok (y,Z1)->Z1[i]? = Z[i]?
section
variable{X:Cx}{C:Cn}
end
structure CBlk(X:Cx)(xr xc xl:Str)(ci:Nat)(scope:Scope)(N':List Str)(p2 p3 p5:Pos):Prop where
 hc:X.calm=true
 hci:X.N[ci]? = some xl
 hvl:Vis X.env.scope xl
 hb:zgL X.N N' scope.names 1=true
 hkind:scope.kind=.function
 hcell:Hce scope
 hfr:Hfr X scope
 hnames:Hnm scope
 hN':N'.Nodup
 hcs:N'[X.N.length]? = some xc
 hgl:∀ cl L s H fp,Gl (zd8 X N' scope cl L s H fp) xr
 he:∀ cl L s H fp,starEach [.Name xc p2] (zd8 X N' scope cl L s H fp).env=(false,eval (.Name xc p2) (zd8 X N' scope cl L s H fp).env)::starEach [] (zd8 X N' scope cl L s H fp).env
 hpl:∀ cl L s H fp,(backTo p3 (starEach [] (zd8 X N' scope cl L s H fp).env)).any (·.1)=false
 hvx:∀ cl L s H fp,Vis (zd8 X N' scope cl L s H fp).env.scope xc/\Loc (zd8 X N' scope cl L s H fp).env.scope xc/\(zd8 X N' scope cl L s H fp).env.scope.names.lookup xc=some .local
 hs:∀ x,foldedSetIterable (.Name xl p5) X.env x=pure x
 hdb:(xr == ("__debug__" : Str))=false:=by decide
 hdc:(xc == ("__debug__" : Str))=false:=by decide
 hdd:(xc == ("__classdict__" : Str))=false:=by decide
 hdl:(xl == ("__debug__" : Str))=false:=by decide
 hdm:(xl == ("__classdict__" : Str))=false:=by decide
section
variable{X:Cx}{C:Cn}{f:Addr}{fd:FuncData}{st:Stmt}{xq xr xc xl:Str}{NR:List Str}{m k n ci:Nat}{dB:Nat->Addr->DS}
end
structure CS(X:Cx)(C:Cn)(k n ci:Nat)(Z:Ev)(G0 H0:Hp)(w:Wn)(l:Nat)(Y:L2.St)(H:Hp):Prop where
 ex:∃(p:Addr)(G1:Hp)(Fs:List Addr),Fs.length=l/\Y[ci]? = some (some (.ref p))/\Rel X.K C G1 w Z Y H/\zbv G0 H0 w G1 H w/\H0 p=none/\C.H₀ p=none/\H p=some (.lst (Fs.map V.ref))/\G1 p=none/\w p=none/\∀ Fa∈Fs,zpn X C.xv k n Z G1 Fa
section
variable{X:Cx}{C:Cn}{P f:Addr}{fd:FuncData}{st:Stmt}{xq xr xc xl:Str}{NR N':List Str}{m k n ci j l:Nat}{dB:Nat->Addr->DS}{Z:Ev}{G0 H0:Hp}{w:Wn}{scope:Scope}{p1 p2 p3 p4 p5 pos:Pos}
 (LB:zeZ X P) (hjp:j∈C.pp) (hσ0:C.σ₀[j]? = some (some (.ref P))) (hip:ci∉C.pp)
include LB hjp hσ0 hip
variable(cls:Nat->Addr)(hxv:∀ n,n<8->C.xv n=.ref (cls n))(hfn:X.fn=fun _=>true)
 (Fu:Fun X.K xq xr st f fd) (S:zax NR ["call"] (zaj st)) (hNR:NR.length=m+1) (hbi:zgP X.K fd ["call"] []) (hm:X.mg xr=some (.ref f)) (hr:zcY (k+2) X.A) (hu:X.A.units+64<cLine)
 (hB:∀(C:Cn),(∀ n,n<8->C.xv n=.ref (cls n))->HB X C xr st f NR k cls dB) (hden:HD m dB)
include hxv hfn Fu S hNR hbi hm hr hu hB hden
omit LB hjp hσ0 in
end
theorem zmL{P:Program}{w:World}{K:W.Frag}{mg mb:Str->Option Value}{CX:CXT}{k:Nat}{fa a PT QT cL cM:Addr}{fd:FuncData}{x:Str}{sp:Sp}{s₁:Shared}{vs:List Value}{ns:List Int}
  (KX:K.In s₁.heap) (hns:s₁.heap.Ns mainGlobals mg) (hb:s₁.heap.Ns builtinsNs mb) (hbb:∀ x:Str,x≠"__name__"->mb x=bootBuiltins x) (hlim:s₁.heap.NoLimit) (hg:s₁.gens=#[])
  (ha:s₁.heap.get? a=some { cls:=.type "list",data:=.seq vs.toArray }) (hi:IntsAre vs ns) (hl:ns.length<=sizeLine) (hr:zcY k callerA)
  (hPQ:PT≠QT) (hPT:s₁.heap.get? PT=some (W.tabObj #[])) (hQT:s₁.heap.get? QT=some (W.tabObj #[])) (hcodeQ:W.codeHdIn K cM QT=true) (hbmQ:s₁.heap.BuiltinsAt mg QT) (hnt:W.noTabs K=true) (hcode:W.codeHdIn K cL PT=true) (hbm:s₁.heap.BuiltinsAt mg PT)
  (F:∀ base:Heap,K.In base->base.Ns mainGlobals mg->base.BuiltinsAt mg PT->base.BuiltinsAt mg QT->zhF P w K mg base CX k fa fd [x] sp) (hbind:∀(s:Shared)(u:Value),BindsTo s fd ⟨[u],[]⟩ [(x,u)])
  (hsp:∀ H:Hp,H PT=some (.tbl #[])->H QT=some (.tbl #[])->SqL K H a (ns.map V.int)->sp [.ref a] H (fun v _=>v=.bl true) fun _ _ _=>False)
  (hCX:∀ H e s',CX [] H s₁ (fun _ _ _=>False) e s'->False) :
  codeAny (model P w) callerA (.call (.ref fa) ⟨[.ref a],[]⟩) (fun r s'=>r=.ok (.ret (.bool true))/\OldK s₁.heap s'.heap/\s'.os=s₁.os/\AllBare s'.gens) s₁:=by
 have rv:=zem hi
 have lenV:=hi.length
 have aP:a≠PT:=fun z=>by
  rw[z,hPT] at ha
  have:=congrArg Obj.cls (waB ha)
  cases this
 have kP:K.lookup PT=none:=by
  cases q:K.lookup PT with
  |none=>rfl
  |some o =>
   have e:=KX _ _ q
   rw[hPT] at e
   have h2:=List.all_eq_true.mp hnt (PT,o) (W.mem_of_lookupK q)
   cases e
   exact absurd (show false=true from h2) Bool.false_ne_true
 have aQ:a≠QT:=fun z=>by
  rw[z,hQT] at ha
  have:=congrArg Obj.cls (waB ha)
  cases this
 have kQ:K.lookup QT=none:=by
  cases q:K.lookup QT with
  |none=>rfl
  |some o =>
   have e:=KX _ _ q
   rw[hQT] at e
   have h2:=List.all_eq_true.mp hnt (QT,o) (W.mem_of_lookupK q)
   cases e
   exact absurd (show false=true from h2) Bool.false_ne_true
 have core:∀ H:Hp,(∀ b,b≠PT->b≠QT->H b=none\/∃ o xs,H b=some (.frz o (.lst xs)))->H PT=some (.tbl #[])->H QT=some (.tbl #[])->SqL K H a (ns.map V.int)->HOk P w H s₁.heap->(∀ b,H b≠none->b=a\/b=PT\/b=QT)->(H a≠none->K.lookup a=none) ->
   codeAny (model P w) callerA (.call (.ref fa) ⟨[.ref a],[]⟩) (fun r s'=>r=.ok (.ret (.bool true))/\OldK s₁.heap s'.heap/\s'.os=s₁.os/\AllBare s'.gens) s₁:=by
  intro H hO hP hQ hS hok hA hK
  have base_of:∀{b:Addr}{o:Obj},s₁.heap.get? b=some o->H b=none->(znJ s₁.heap H).get? b=some o:=fun e n=>zqY e n
  have ot:∀{b:Addr}{o:Obj},s₁.heap.get? b=some o->o.cls≠.type "list"->o.cls≠.none->H b=none:=fun {b o} e d1 d2=>by
   cases q:H b with
   |none=>rfl
   |some u =>
    rcases hA b (by rw[q];simp) with z|z|z
    ·rw[z,ha] at e;cases e;exact absurd rfl d1
    ·rw[z,hPT] at e;cases e;exact absurd rfl d2
    ·rw[z,hQT] at e;cases e;exact absurd rfl d2
  have noA:∀{b:Addr}{o:Obj}{es:Array DictEntry}{ep:Nat},s₁.heap.get? b=some o->o.data=.dict es ep->H b=none:=fun {b o es ep} e d=>by
   cases q:H b with
   |none=>rfl
   |some u =>
    rcases hA b (by rw[q];simp) with z|z|z
    ·rw[z,ha] at e;cases e;cases d
    ·rw[z,hPT] at e;cases e;cases d
    ·rw[z,hQT] at e;cases e;cases d
  have nsK:∀{b:Addr}{m:Str->Option Value},s₁.heap.Ns b m->(znJ s₁.heap H).Ns b m:=fun {b m} ⟨o,es,ep,e,d,r⟩=>⟨o,es,ep,base_of e (noA e d),d,r⟩
  have hKb:K.In (znJ s₁.heap H):=fun b o e=>base_of (KX b o e) (by
   cases q:H b with
   |none=>rfl
   |some u =>
    rcases hA b (by rw[q];simp) with z|z|z
    ·subst z
     rw[hK (by rw[q];simp)] at e;cases e
    ·rw[z,kP] at e;cases e
    ·rw[z,kQ] at e;cases e)
  have hM:Mod K mg (znJ s₁.heap H):=⟨hKb,nsK hns,⟨mb,nsK hb,hbb⟩,let ⟨mc,h1,h2⟩:=hlim;⟨mc,nsK h1,h2⟩⟩
  have hbm':(znJ s₁.heap H).BuiltinsAt mg PT:=by
   obtain ⟨bm,o,b1,b2,b3,b4,b5,b6,b7⟩:=hbm
   exact ⟨bm,o,b1,b2,b3,b4,base_of b5 (ot b5 (by rw[b6];decide) (by rw[b6];intro z;cases z)),b6,b7⟩
  have hbmQ':(znJ s₁.heap H).BuiltinsAt mg QT:=by
   obtain ⟨bm,o,b1,b2,b3,b4,b5,b6,b7⟩:=hbmQ
   exact ⟨bm,o,b1,b2,b3,b4,base_of b5 (ot b5 (by rw[b6];decide) (by rw[b6];intro z;cases z)),b6,b7⟩
  have e0:zp2 P w K mg (znJ s₁.heap H) callerA [] s₁ H:=⟨rfl,hM,fun b o e=>zs6 e,Nat.le_of_eq (znD _ _),trivial,fun b hb=>absurd (show b∈([]:List Addr) from hb) xws,hok,.of_eq hg⟩
  refine codeAny_mono ((F _ hKb (nsK hns) hbm' hbmQ').run callerA [] s₁ H ⟨[.ref a],[]⟩ [.ref a] [.ref a] _ _ hr e0 (hbind s₁ (.ref a)) (.cons rfl .nil) (hsp H hP hQ hS)) fun r s' h=>?_
  cases r with
  |error e=>exact (hCX H e s' h).elim
  |ok fl =>
   cases fl with
   |next=>exact False.elim h
   |brk=>exact False.elim h
   |cont=>exact False.elim h
   |ret u =>
    obtain ⟨v,H',os,bare,un,hok',r',q⟩:=h
    have q':v=.bl true:=q
    subst q'
    obtain rfl:u=Value.bool true:=r'
    have kept:∀ b o,b≠PT->b≠QT->s₁.heap.get? b=some o->s'.heap.get? b=some o:=fun b o hb hb2 e=>by
     cases q:H b with
     |none=>exact un.keep b o e q (by intro z;exact absurd (show b∈([]:List Addr) from z) xws) xws
     |some u =>
      rcases hO b hb hb2 with z|⟨ob,xs,z⟩
      ·rw[q] at z;cases z
      ·have z2:=un.frzs b ob _ z
       obtain ⟨e1,_⟩:=hok b _ z
       obtain ⟨e2,_⟩:=hok' b _ z2
       rw[e] at e1;cases e1
       exact e2
    obtain ⟨more,hm⟩:=un.tbls PT #[] hP
    obtain ⟨more2,hm2⟩:=un.tbls QT #[] hQ
    have hPT':s'.heap.get? PT=some (W.tabObj (#[]++more)):=hok' PT _ hm
    have hQT':s'.heap.get? QT=some (W.tabObj (#[]++more2)):=hok' QT _ hm2
    have tab:=(W.codeHd_of_K KX hcode).tab hPT
    have tabQ:=(W.codeHd_of_K KX hcodeQ).tab hQT
    refine ⟨rfl,⟨fun b o e=>?_,fun b o e=>?_⟩,os,bare⟩
    ·by_cases hb:b=PT
     ·subst hb
      rw[hPT] at e;cases e
      exact .inr (.inl ⟨tab.isCodeTable,rfl,#[],more,rfl,hPT'⟩)
     ·by_cases hb2:b=QT
      ·subst hb2
       rw[hQT] at e;cases e
       exact .inr (.inl ⟨tabQ.isCodeTable,rfl,#[],more2,rfl,hQT'⟩)
      ·exact .inl (kept b o hb hb2 e)
    ·by_cases hb:b=PT
     ·subst hb;exact ⟨_,hPT'⟩
     ·by_cases hb2:b=QT
      ·subst hb2;exact ⟨_,hQT'⟩
      ·exact ⟨o,kept b o hb hb2 e⟩
 cases hk:K.lookup a with
 |some o =>
  have e:=KX a o hk
  rw[ha] at e
  cases e
  refine core (fun b=>if b=PT then some (.tbl #[]) else if b=QT then some (.tbl #[]) else none) (fun b hb hb2=>.inl ((if_neg hb).trans (if_neg hb2))) (if_pos rfl) ((if_neg (Ne.symm hPQ)).trans (if_pos rfl)) (.inr ⟨_,vs.toArray,_,hk,rfl,rfl,rfl,by rw[List.size_toArray,lenV];exact hl,by simpa using rv⟩) (fun b u z=>?_) (fun b z=>?_) fun z=>absurd ((if_neg aP).trans (if_neg aQ)) z
  ·by_cases hb:b=PT
   ·have z':=(if_pos hb).symm.trans z
    cases z'
    subst hb
    exact hPT
   ·have z:=(if_neg hb).symm.trans z
    by_cases hb2:b=QT
    ·have z':=(if_pos hb2).symm.trans z
     cases z'
     subst hb2
     exact hQT
    ·have z':=(if_neg hb2).symm.trans z
     cases z'
  ·by_cases hb:b=PT
   ·exact .inr (.inl hb)
   ·by_cases hb2:b=QT
    ·exact .inr (.inr hb2)
    ·exact absurd ((if_neg hb).trans (if_neg hb2)) z
 |none =>
  refine core (fun b=>if b=PT then some (.tbl #[]) else if b=QT then some (.tbl #[]) else if b=a then some (.frz { cls:=.type "list",data:=.seq vs.toArray } (.lst (ns.map V.int))) else none) (fun b hb hb2=>?_) (if_pos rfl) ((if_neg (Ne.symm hPQ)).trans (if_pos rfl)) (.inl (.inr ⟨{ cls:=.type "list",data:=.seq vs.toArray },(if_neg aP).trans ((if_neg aQ).trans (if_pos rfl))⟩)) (fun b u z=>?_) (fun b z=>?_) fun _=>hk
  ·by_cases hba:b=a
   ·exact .inr ⟨_,_,(if_neg hb).trans ((if_neg hb2).trans (if_pos hba))⟩
   ·exact .inl ((if_neg hb).trans ((if_neg hb2).trans (if_neg hba)))
  ·by_cases hb:b=PT
   ·have z':=(if_pos hb).symm.trans z
    cases z'
    subst hb
    exact hPT
   ·have z:=(if_neg hb).symm.trans z
    by_cases hb2:b=QT
    ·have z':=(if_pos hb2).symm.trans z
     cases z'
     subst hb2
     exact hQT
    ·have z:=(if_neg hb2).symm.trans z
     by_cases hba:b=a
     ·have z':=(if_pos hba).symm.trans z
      cases z'
      subst hba
      exact ⟨ha,by rw[List.length_map];exact hl,vs,_,rv,ha⟩
     ·have z':=(if_neg hba).symm.trans z
      cases z'
  ·by_cases hb:b=PT
   ·exact .inr (.inl hb)
   ·by_cases hb2:b=QT
    ·exact .inr (.inr hb2)
    ·by_cases hba:b=a
     ·exact .inl hba
     ·exact absurd ((if_neg hb).trans ((if_neg hb2).trans (if_neg hba))) z
theorem znv{l:W.OpenLaw}{n k:Nat}{q:Program}{loose:List Str}{XP:(Str->Option Value)->Heap->Prop}{YP:World->Heap->Prop}{d:DefRec}{K:Params->W.Frag}{CX:World->CXT}{sp:World->Sp}{x:Str}{PT QT:Addr}(hPQ:PT≠QT)
  (hn:l.most=some n) (hn2:n<=sizeLine) (hdf:d.params.defaults=[]) (hr:zcY k callerA)
  (hY:∀(w:World)(h:Heap),YP w h->(K w.params).In h) (hYT:∀(w:World)(h:Heap),YP w h->h.get? PT=some (W.tabObj #[])) (hYQ:∀(w:World)(h:Heap),YP w h->h.get? QT=some (W.tabObj #[])) (hnt:∀ w:World,W.noTabs (K w.params)=true)
  (F:∀(w:World)(mg:Str->Option Value)(fa:Addr)(h:Heap),(K w.params).In h->h.Ns mainGlobals mg->mg d.name=some (.ref fa) ->
   ∃(fd:FuncData)(cL cM:Addr),(∀(s:Shared)(u:Value),BindsTo s fd ⟨[u],[]⟩ [(x,u)])/\W.codeHdIn (K w.params) cL PT=true/\W.codeHdIn (K w.params) cM QT=true /\
    ∀ base:Heap,(K w.params).In base->base.Ns mainGlobals mg->base.BuiltinsAt mg PT->base.BuiltinsAt mg QT->zhF l.prog w (K w.params) mg base (CX w) k fa fd [x] (sp w))
  (hsp:∀(w:World)(H:Hp)(a:Addr)(ns:List Int),ns.length<=n->H PT=some (.tbl #[])->H QT=some (.tbl #[])->SqL (K w.params) H a (ns.map V.int)->sp w [.ref a] H (fun v _=>v=.bl true) fun _ _ _=>False)
  (hCX:∀(w:World)(H:Hp)(s:Shared)(e:Value)(s':Shared),CX w [] H s (fun _ _ _=>False) e s'->False) :
  W.WalkO q loose XP YP l.row.toRowW d [] (fun f vs=>PySem.call f vs):=by
 refine Att.attach_call hn hdf fun w s₀ s₁ mg mb fa o pm cd doc a vs ns G Yq ho hd hcd hmg hobj hints hlen hg=>?_
 have KX:=hY w _ Yq
 have hPT:=hYT w _ Yq
 have hQT:=hYQ w _ Yq
 obtain ⟨fd,cL,cM,hb,hcode,hcodeQ,hF⟩:=F w mg fa _ KX G.T.g hmg
 have hbm:∀ RT:Addr,s₁.heap.get? RT=some (W.tabObj #[])->s₁.heap.BuiltinsAt mg RT:=fun RT hRT=>by
  obtain ⟨bm,ob,b1,b2,b3,b4,b5,b6⟩:=G.T.bmain
  refine ⟨bm,ob,b1,b2,fun z=>?_,fun z=>?_,b3,b4,b5,b6⟩
  ·obtain ⟨o',es,ep,e,hd',_⟩:=G.T.g
   rw[z,e] at b3;cases b3;rw[hd'] at b6;cases b6
  ·rw[z,hRT] at b3;cases b3;cases b4
 exact zmL KX G.T.g G.T.b G.T.builtins G.T.nolimit hg hobj hints (Nat.le_trans hlen hn2) hr hPQ hPT hQT hcodeQ (hbm QT hQT) (hnt w) hcode (hbm PT hPT) hF hb (fun H hP hQ hS=>hsp w H a ns hlen hP hQ hS) fun H e s'=>hCX w H s₁ e s'
def zt1(K:W.Frag)(PT QT:Addr)(ok:List Int->Prop):Sp:=fun vs H Q _=>∃ a ns,vs=[.ref a]/\SqL K H a (ns.map V.int)/\H PT=some (.tbl #[])/\H QT=some (.tbl #[])/\ok ns/\∀ H',Q (.bl true) H'
def zmm(m:Nat)(q q2:Str)(fb:DS)(ns:List Int):Prop:=∃ Z',fb (some (.val (.scr ns))::(List.replicate m none++[some (.tab q),some (.tab q2)]))=.ok (.rt (.bl true),Z')
theorem zsf{P:Program}{w:World}{K:W.Frag}{mg:Str->Option Value}{base:Heap}{xq qual xs xt xu q q2:Str}{st:Stmt}{N:List Str}{xv:Nat->Value}{m k:Nat}{fb:DS}{f PT QT cM:Addr}{fd:FuncData}(hPQ:PT≠QT)
  (Fu:Fun K xq qual st f fd) (hcM:fd.code=.ref cM) (hch:W.codeHdIn K cM QT=true) (S:zax N [xs] (zaj st)) (hm:N.length=m+3) (hj:N[m+1]? = some xt) (hv:¬ Vis (zaj st) xt) (hj2:N[m+2]? = some xu) (hv2:¬ Vis (zaj st) xu) (hbm:base.BuiltinsAt mg QT) (hKb:K.In base)
  (hbody:∀(X:Cx)(C:Cn),(∃ cdv A outer s H E,X=ziN (CXe P w) P w K mg base N qual (zaj st) f cdv A outer s H E)->C.pp=[m+1,m+2]->C.σ₀[m+1]? = some (some (.ref PT))->C.σ₀[m+2]? = some (some (.ref QT))->C.xv=xv->C.nw=false->zcY k X.A->zcH (CXe P w) X (EXc C)->PassesOwn (model X.prog X.w) X.A X.env X.xe->zeZ X QT->JSs X C (zcj st) fb) :
  zhF P w K mg base (CXe P w) (k+1) f fd [xs] (zt1 K PT QT (zmm m q q2 fb)):=by
 obtain ⟨oc,od,kV,doc,pm,an,cdv,ct,osl,rfl,lk,hcd⟩:=Fu.ex
 obtain rfl:cdv=.ref cM:=hcM
 refine zqr lk hcd S (fun vs H Q E ⟨a,ns,h,_⟩=>by rw[h];rfl) fun A outer s H vs Q E hr hsp=>?_
 obtain ⟨a,ns,rfl,hS,hP,hQt,⟨Z',hok⟩,hQ⟩:=hsp
 let X:=ziN (CXe P w) P w K mg base N qual (zaj st) f (.ref cM) A outer s H E
 let G:Hp:=fun b=>if b=PT then none else if b=QT then none else H b
 let w0:Wn:=fun b=>if b=PT then some (m+1) else if b=QT then some (m+2) else none
 let Y1:L2.St:=((L2.start N [.ref a]).set (m+1) (some (.ref PT))).set (m+2) (some (.ref QT))
 let C:Cn:=⟨G,H,w0,[m+1,m+2],Y1,fun _=>False,xv,false⟩
 have lS:(L2.start N [V.ref a]).length=m+3:=by unfold L2.start;simp[hm]
 have lS1:((L2.start N [V.ref a]).set (m+1) (some (.ref PT))).length=m+3:=by rw[List.length_set,lS]
 have s1:Y1[m+1]? = some (some (.ref PT)):=by
  show (((L2.start N [V.ref a]).set (m+1) (some (.ref PT))).set (m+2) (some (.ref QT)))[m+1]? = _
  rw[List.getElem?_set_ne xwo,List.getElem?_set_self (by rw[lS];omega)]
 have s2:Y1[m+2]? = some (some (.ref QT)):=by
  show (((L2.start N [V.ref a]).set (m+1) (some (.ref PT))).set (m+2) (some (.ref QT)))[m+2]? = _
  rw[List.getElem?_set_self (by rw[lS1];omega)]
 have hb:=hbody X C ⟨.ref cM,A,outer,s,H,E,rfl⟩ rfl s1 s2 rfl rfl hr
  (zaC N qual (zaj st) f (.ref cM) A outer s H E (EXc C) S.kind fun u b H' ⟨_,n,_,z,_⟩=>z.elim) PassesOwn.leaving ⟨⟨cM,rfl,W.codeHd_of_K hKb hch⟩,hbm⟩
 refine ⟨fun D Y H=>tS K C fb D ((Y.set (m+1) (some (.ref PT))).set (m+2) (some (.ref QT))) H,fun pS s' Y H' D I h=>hb pS s' _ H' D (zh1 (zh1 I hj hv) hj2 hv2) h,G,w0,some (.val (.scr ns))::(List.replicate m none++[some (.tab q),some (.tab q2)]),?_,?_⟩
 ·have gP:G PT=none:=if_pos rfl
  have gQ:G QT=none:=(if_neg (Ne.symm hPQ)).trans (if_pos rfl)
  have gO:∀{b:Addr},b≠PT->b≠QT->G b=H b:=fun h h2=>(if_neg h).trans (if_neg h2)
  have wP:w0 PT=some (m+1):=if_pos rfl
  have wQ:w0 QT=some (m+2):=(if_neg (Ne.symm hPQ)).trans (if_pos rfl)
  have wO:∀ b,w0 b≠none->b=PT\/b=QT:=fun b e=>by
   by_cases hb:b=PT
   ·exact .inl hb
   ·by_cases hb2:b=QT
    ·exact .inr hb2
    ·exact absurd ((if_neg hb).trans (if_neg hb2)) e
  refine ⟨fun b o e=>?_,fun b e=>?_,fun b e=>?_,by simp[lS],fun i b e=>?_,.refl _ _ _,fun i _=>rfl⟩
  ·by_cases hb:b=PT
   ·rw[hb,gP] at e;cases e
   ·by_cases hb2:b=QT
    ·rw[hb2,gQ] at e;cases e
    ·rw[gO hb hb2] at e;exact e
  ·rcases wO b e with z|z
   ·rw[z];exact gP
   ·rw[z];exact gQ
  ·rcases wO b e with z|z
   ·rw[z,hP];simp
   ·rw[z,hQt];simp
  ·cases i with
   |zero =>
    simp at e;subst e
    refine ⟨.ref a,?_,?_⟩
    ·rw[List.getElem?_set_ne xwo,List.getElem?_set_ne xwo];unfold L2.start;simp
    ·show Rep K G (.scr ns) (.ref a)
     unfold Rep
     refine ⟨a,rfl,?_⟩
     rcases hS with (h|⟨o,h⟩)|h
     ·exact .inl (.inl ((gO (fun z=>by rw[z,hP] at h;cases h) (fun z=>by rw[z,hQt] at h;cases h)).trans h))
     ·exact .inl (.inr ⟨o,(gO (fun z=>by rw[z,hP] at h;cases h) (fun z=>by rw[z,hQt] at h;cases h)).trans h⟩)
     ·exact .inr h
   |succ i =>
    rw[List.getElem?_cons_succ] at e
    by_cases hi:i<m
    ·rw[List.getElem?_append_left (by simpa using hi),List.getElem?_replicate] at e
     split at e <;> cases e
    ·rw[List.getElem?_append_right (by simpa using hi)] at e
     simp only[List.length_replicate] at e
     by_cases h0:i=m
     ·subst h0
      simp at e
      subst e
      refine ⟨.ref PT,s1,PT,#[],rfl,wP,hP,trivial,fun pos cv z=>?_⟩
      simp[codeAmong] at z
     ·by_cases h1:i=m+1
      ·subst h1
       rw[show m+1-m=1 by omega] at e
       simp at e
       subst e
       refine ⟨.ref QT,s2,QT,#[],rfl,wQ,hQt,trivial,fun pos cv z=>?_⟩
       simp[codeAmong] at z
      ·rw[List.getElem?_eq_none (by simp;omega)] at e
       cases e
 ·rw[hok]
  intro v Y' G' H' w' _ _ rt
  have:v=.bl true:=zd0 (K:=K) (G:=G') rt
  subst this
  exact hQ H'
end PV
end
section
end
section
namespace PV
open PySem PySem.Spec L2 PyProof.Rows
section
variable{X:Cx}{C:Cn}{CX:CXT}{k k':Nat}{ks:List Bool}{Fd:FD}{x a:Str}{eb:Expr}{fb:De}{p pos pa:Pos}
end
section
variable{X:Cx}{C:Cn}{e e':Expr}{fa fb:De}{pos:Pos}
end
section
variable{X:Cx}{C:Cn}{a b e:Expr}{fa fb:De}{pos apos p2:Pos}{zaL:List Expr}
end
section
variable{X:Cx}{C:Cn}{tg a b:Expr}{fa fb:De}{pos:Pos}
end
section
variable{X:Cx}{C:Cn}{pos ps py sp apos p1 p2 spos:Pos}{x y:Str}
end
section
variable{X:Cx}{C:Cn}{a b e:Expr}{fa fb:De}{pos ps:Pos}{x:Str}{ad:Addr}{D:List (Str×Str)}
end
def zhH:List (Int×Dt)->Int->Option Dt
 |[],_=>none
 |p::r,k=>if p.1=k then some p.2 else zhH r k
def ztj(l:List (Int×Dt))(k:Int)(d:Dt):List (Int×Dt) :=
 if (zhH l k).isSome=true then l.map (fun p=>if p.1=k then (p.1,d) else p) else l++[(k,d)]
abbrev PZ(K:W.Frag)(G:Hp):List (Int×Dt)->List (Key×V)->Prop:=Paired (fun (p:Int×Dt) (q:Key×V)=>q.1=.inl p.1/\Rep K G p.2 q.2)
theorem zjU{K:W.Frag}{G:Hp}{k:Int}:∀{l:List (Int×Dt)}{us:List (Key×V)},PZ K G l us->(∀ d,zhH l k=some d->∃ v,zmi us (.inl k)=some v/\Rep K G d v)/\(zhH l k=none->zmi us (.inl k)=none)
 |_,_,.nil=>⟨fun d h=>by simp[zhH] at h,fun _=>rfl⟩
 |p::l,q::us,.cons h t=>by
  obtain ⟨ih1,ih2⟩:=zjU (k:=k) t
  by_cases e:p.1=k
  ·have e':q.1=.inl k:=by rw[h.1,e]
   rw[zgU e']
   unfold zhH
   rw[if_pos e]
   exact ⟨fun d z=>by cases z;exact ⟨_,rfl,h.2⟩,fun z=>by cases z⟩
  ·have e':¬ q.1=.inl k:=by rw[h.1];intro z;cases z;exact e rfl
   rw[zgQ e']
   unfold zhH
   rw[if_neg e]
   exact ⟨ih1,ih2⟩
theorem zn7{K:W.Frag}{G:Hp}{k:Int}{l:List (Int×Dt)}{us:List (Key×V)}(h:PZ K G l us):(zmi us (.inl k)).isSome=(zhH l k).isSome:=by
 obtain ⟨h1,h2⟩:=zjU (k:=k) h
 cases e:zhH l k with
 |none=>rw[h2 e];rfl
 |some d=>obtain ⟨v,e1,_⟩:=h1 d e;rw[e1];rfl
theorem zri{K:W.Frag}{G:Hp}{k:Int}{d:Dt}{v:V}(hd:Rep K G d v):∀{l:List (Int×Dt)}{us:List (Key×V)},PZ K G l us->PZ K G (l.map (fun p=>if p.1=k then (p.1,d) else p)) (us.map (fun kv=>if kv.1=(.inl k:Key) then (kv.1,v) else kv))
 |_,_,.nil=>.nil
 |p::l,q::us,.cons h t=>by
  refine .cons ?_ (zri hd t)
  by_cases e:p.1=k
  ·have e':q.1=.inl k:=by rw[h.1,e]
   dsimp only;rw[if_pos e,if_pos e'];exact ⟨h.1,hd⟩
  ·have e':¬ q.1=.inl k:=by rw[h.1];intro z;cases z;exact e rfl
   dsimp only;rw[if_neg e,if_neg e'];exact h
theorem zoI{K:W.Frag}{G:Hp}{k:Int}{d:Dt}{v:V}(hd:Rep K G d v):∀{l:List (Int×Dt)}{us:List (Key×V)},PZ K G l us->PZ K G (l++[(k,d)]) (us++[(.inl k,v)])
 |_,_,.nil=>.cons ⟨rfl,hd⟩ .nil
 |p::l,q::us,.cons h t=>.cons h (zoI hd t)
theorem zuK{K:W.Frag}{G:Hp}{k:Int}{d:Dt}{v:V}(hd:Rep K G d v){l:List (Int×Dt)}{us:List (Key×V)}(h:PZ K G l us):PZ K G (ztj l k d) (zj3 us (.inl k) v):=by
 unfold ztj zj3
 rw[zjf,zn7 h]
 split
 ·exact zri hd h
 ·exact zoI hd h
theorem zrj{K:W.Frag}{G:Hp}:∀{l:List (Int×Dt)}{us:List (Key×V)},PZ K G l us->l.length=us.length
 |_,_,.nil=>rfl
 |_::_,_::_,.cons _ t=>by rw[List.length_cons,List.length_cons,zrj t]
theorem zhx{K:W.Frag}{C:Cn}{Y:L2.St}{G H:Hp}{w:Wn}{Z:Ev}{i:Nat}{ds:List (Int×Dt)}(r:Rel K C G w Z Y H)(e:Z[i]? = some (some (.dic ds))):∃ a us,Y[i]? = some (some (.ref a))/\w a=some i/\H a=some (.dK us)/\PZ K G ds us:=by
 obtain ⟨v,h1,a,us,rfl,h2,h3,h4⟩:=r.sl i _ e
 exact ⟨a,us,h1,h2,h3,h4⟩
theorem Rel.setDic{K:W.Frag}{C:Cn}{Y:L2.St}{G0 H0:Hp}{w0:Wn}{G H:Hp}{w:Wn}{Z:Ev}{i:Nat}{ds:List (Int×Dt)}{p:Addr}{us:List (Key×V)}(r:Rel K C G w Z Y H)(hi:i < Z.length)(hpp:i∉C.pp)(hp:H p=some (.dK us))(hg:G p=none)(hw:w p=none)
  (q:PZ K G ds us) (s:zbv G0 H0 w0 G H w) (h0:H0 p=none) (en0:C.H₀ p=none) :
  Rel K C G (fun b=>if b=p then some i else w b) (Z.set i (some (.dic ds))) (Y.set i (some (.ref p))) H/\zbv G0 H0 w0 G H (fun b=>if b=p then some i else w b):=by
 have s1:∀{G1 H1:Hp}{w1:Wn},zbv G1 H1 w1 G H w->H1 p=none->zbv G1 H1 w1 G H (fun b=>if b=p then some i else w b):=fun s z=>by
  refine ⟨s.g,s.fr,s.h,fun b e=>?_,s.k⟩
  by_cases hb:b=p
  ·subst hb;exact .inr z
  ·simp[hb] at e;exact s.w b e
 refine ⟨⟨r.gh,fun b e=>?_,fun b e=>?_,by simpa using r.len,fun j b e=>?_,s1 r.en en0,fun j hj=>?_⟩,s1 s h0⟩
 ·by_cases hb:b=p
  ·subst hb;exact hg
  ·simp[hb] at e;exact r.wg b e
 ·by_cases hb:b=p
  ·subst hb;rw[hp];simp
  ·simp[hb] at e;exact r.wh b e
 ·by_cases hj:j=i
  ·subst hj
   rw[List.getElem?_set_self hi] at e
   cases e
   exact ⟨_,waz (by rw[<- r.len];exact hi),p,us,rfl,xws,hp,q⟩
  ·rw[List.getElem?_set_ne (Ne.symm hj)] at e
   obtain ⟨v',h1,h2⟩:=r.sl j b e
   refine ⟨v',by rw[List.getElem?_set_ne (Ne.symm hj)];exact h1,h2.grow (.refl _) fun a o e1 e2=>⟨e2,?_⟩⟩
   have:a≠p:=fun z=>by subst z;rw[hw] at e1;cases e1
   simp[this,e1]
 ·have:i≠j:=fun z=>hpp (z ▸ hj)
  rw[List.getElem?_set_ne this];exact r.pin j hj
theorem Rel.mutD{K:W.Frag}{C:Cn}{Y:L2.St}{G H:Hp}{w:Wn}{Z:Ev}{i:Nat}{ds ds':List (Int×Dt)}{a:Addr}{us':List (Key×V)}(r:Rel K C G w Z Y H)(hi:Z[i]? = some (some (.dic ds)))(hv:Y[i]? = some (some (.ref a)))(hw:w a=some i)(h':PZ K G ds' us') :
  Rel K C G w (Z.set i (some (.dic ds'))) Y (upd H a (.dK us'))/\zbv G H w G (upd H a (.dK us')) w:=by
 have ga:G a=none:=r.wg a (by rw[hw];simp)
 have st:zbv G H w G (upd H a (.dK us')) w:=by
  refine ⟨.refl _,fun b o e=>.inl (by rw[e];simp),fun b o e z=>?_,fun _ e=>.inl e,fun b e=>?_⟩
  ·have:b≠a:=fun q=>by subst q;rw[hw] at z;cases z
   rw[zah this];exact e
  ·by_cases hb:b=a
   ·subst hb;rw[zan] at e;cases e
   ·rw[zah hb] at e;exact e
 refine ⟨⟨fun b o e=>?_,r.wg,fun b e=>?_,by simpa using r.len,fun j b e=>?_,r.en.trans st,r.pin⟩,st⟩
 ·rw[zah (zak e ga)];exact r.gh b o e
 ·by_cases hb:b=a
  ·subst hb;rw[zan];simp
  ·rw[zah hb];exact r.wh b e
 ·by_cases hj:j=i
  ·subst hj
   rw[List.getElem?_set_self (List.getElem?_eq_some_iff.mp hi).1] at e
   cases e
   exact ⟨_,hv,a,us',rfl,hw,zan,h'⟩
  ·rw[List.getElem?_set_ne (Ne.symm hj)] at e
   obtain ⟨v',h1,h2⟩:=r.sl j b e
   refine ⟨v',h1,h2.grow (.refl _) fun b' o e1 e2=>⟨?_,e1⟩⟩
   have:b'≠a:=fun z=>by subst z;rw[hw] at e1;exact hj (waB e1).symm
   rw[zah this];exact e2
section
variable{X:Cx}{C:Cn}{pos ps sp apos spos pd:Pos}{x:Str}{k v:Expr}{fk fv:De}
def zoB(i:Nat)(fk fv:De):DS:=fun Z=>(fk Z).bind fun a=>(fv a.2).bind fun b=>match a.1 with
 |.int n=>if i<b.2.length then .ok (.nx,b.2.set i (some (.dic [(n,b.1)]))) else .no
 |_=>.no
theorem zsJ{i:Nat}(hN:X.N.Nodup)(hix:X.N[i]? = some x)(hx:Loc X.env.scope x)(hp:i∉C.pp)(hk:JE X C k fk)(hv:JE X C v fv)(hsw:swapsWith (.Dict [some k] [v] pd) (some (.Name x ps)) spos.line X.env=pure false:=by rfl)
  (hf:X.fn x=true\/X.env.scope.names.lookup x=some .local:=by exact xwA):JS X C (.Assign [.Name x ps] (.Dict [some k] [v] pd) spos) (zoB i fk fv):=by
 refine PS.weak (zlI (i:=i) hN hix hx (zsm (zq1 hk hv ztd) rfl rfl xws (by show 1<=15;decide)) hsw hf) fun D Y H ⟨G,w,Z,r,p⟩=>?_
 unfold zoB at p
 unfold zv9 ztO zij
 intro a ha
 have g1:zdU G H G (upd H a (.dK [])):=.newH r.gh ha
 have r1:=r.grow g1
 have wa:w a=none:=zji r ha
 have sc:Stp (fun (_ _:Hp) (_:Wn)=>kS X.K C D G H w):=fun _ _ _ _ _ _ _ _ k=>k
 refine zdb (κ:=fun _ _ _=>kS X.K C D G H w) sc r1 p fun d Z1 v1 G1 H1 w1 r2 s1 q1 p1=>?_
 refine zdb (κ:=fun _ _ _=>kS X.K C D G H w) sc r2 p1 fun d2 Z2 v2 G2 H2 w2 r3 s2 q2 p2=>?_
 dsimp only at p2
 split at p2
 case h_2=>exact p2.elim
 rename_i n
 split at p2
 case isFalse=>exact p2.elim
 rename_i hl
 have s12:=s1.trans s2
 have s0:=g1.step.trans s12
 have e2:H2 a=some (.dK []):=s12.h a _ zan wa
 have wa2:w2 a=none:=by
  cases z:w2 a with
  |none=>rfl
  |some m =>
   rcases s12.w a (by rw[z];simp) with q|q
   ·exact absurd wa q
   ·rw[zan] at q;cases q
 have ga2:G2 a=none:=by
  cases z:G2 a with
  |none=>rfl
  |some o =>
   rcases s12.fr a o z with q|q|q
   ·exact absurd (r.gh.free ha) q
   ·rw[zan] at q;cases q
   ·exact absurd wa q
 show zij [] Y H2 _
 unfold zij
 refine ⟨e2,[(.inl n,v2)],?_,by show 1<=15;decide,?_⟩
 ·have:v1=.int n:=zas (K:=X.K) (G:=G1) q1
  subst this;rfl
 ·have st:∀{G' H':Hp}{w':Wn},zbv G' H' w' G2 H2 w2->H' a=none->zbv G' H' w' G2 (upd H2 a (.dK (zg2 [] [(.inl n,v2)]))) w2:=fun s z=>by
   refine ⟨s.g,s.fr,fun b o e y=>?_,s.w,fun b e=>?_⟩
   ·rw[zah (zak e z)];exact s.h b o e y
   ·by_cases hb:b=a
    ·subst hb;exact z
    ·rw[zah hb] at e;exact s.k b e
  have r4:Rel X.K C G2 w2 Z2 Y (upd H2 a (.dK (zg2 [] [(.inl n,v2)]))):=by
   refine ⟨fun b o e=>by rw[zah (zak e ga2)];exact r3.gh b o e,r3.wg,fun b e=>?_,r3.len,fun j b e=>?_,st r3.en (r.en.k a ha),r3.pin⟩
   ·by_cases hb:b=a
    ·subst hb;rw[zan];simp
    ·rw[zah hb];exact r3.wh b e
   ·obtain ⟨v',h1,h2⟩:=r3.sl j b e
    refine ⟨v',h1,h2.grow (.refl _) fun b' o e1 e2=>⟨?_,e1⟩⟩
    have:b'≠a:=fun z=>by subst z;rw[wa2] at e1;cases e1
    rw[zah this];exact e2
  obtain ⟨r',s'⟩:=r4.setDic (i:=i) (ds:=[(n,d2)]) (us:=zg2 [] [(.inl n,v2)]) hl hp zan ga2 wa2 (.cons ⟨rfl,q2⟩ .nil) (st s0 ha) ha (r.en.k a ha)
  exact p2 _ _ _ _ s' r'
def zlk(i:Nat)(fk:De):De:=fun Z=>match Z[i]? with
 |some (some (.dic _))=>(fk Z).bind fun a=>match a.1,a.2[i]? with
  |.int n,some (some (.dic ds))=>match zhH ds n with
   |some d=>.ok (d,a.2)
   |none=>.no
  |_,_=>.no
 |_=>.no
theorem zsk{kk:Nat}(i:Nat)(hr:zcY kk X.A)(hk:JE X C k fk)(hN:X.N[i]? = some x:=by rfl)(hv:Vis X.env.scope x:=by exact xwV)
  (hd:(x == ("__debug__" : Str))=false:=by decide) (hcd:(x == ("__classdict__" : Str))=false:=by decide) (hs:zv6 k:=by exact fun _ _=>rfl):JE X C (.Subscript (.Name x ps) k pos) (zlk i fk) :=
 PE.weak (zss (by have:=hr.un;omega) (zcm hN hv hd hcd) hk hs) fun Y H Q ⟨G,w,Z,r,p⟩=>by
  unfold zlk at p
  split at p
  case h_2=>exact p.elim
  rename_i ds0 e0
  obtain ⟨a,us0,h1,h2,h3,h4⟩:=zhx r e0
  refine ⟨.ref a,h1,?_⟩
  refine zdb (κ:=fun G H w=>kE X.K C Y Q G H w) zcc r p fun d Z1 v G1 H1 w1 r1 s1 q1 p1=>?_
  dsimp only at p1
  split at p1
  case h_2=>exact p1.elim
  rename_i n ds e1
  split at p1
  case h_2=>exact p1.elim
  rename_i d' ed
  obtain ⟨a',us,g1,g2,g3,g4⟩:=zhx r1 e1
  rw[h1] at g1;cases g1
  obtain ⟨v',ev,rv⟩:=(zjU g4).1 _ ed
  have:v=.int n:=zas (K:=X.K) (G:=G1) q1
  subst this
  exact ⟨a,v',rfl,by rw[<- ev];exact zno.k (k:=.inl n) g3,p1 _ _ _ _ (.refl _ _ _) r1 rv⟩
def zur(b:Bool)(i:Nat)(fk:De):DT:=fun Z=>(fk Z).bind fun a=>match a.1,a.2[i]? with
 |.int n,some (some (.dic ds))=>.ok (b == (zhH ds n).isSome,a.2)
 |_,_=>.no
theorem zop{kk:Nat}(i:Nat)(hr:zcY kk X.A)(hk:JE X C k fk)(hN:X.N[i]? = some x:=by rfl)(hv:Vis X.env.scope x:=by exact xwV)
  (hd:(x == ("__debug__" : Str))=false:=by decide) (hcd:(x == ("__classdict__" : Str))=false:=by decide) (hm:behindInMarks .NotIn (.Name x ps)=false:=by rfl):JT X C (.Compare k [.NotIn] [.Name x ps] pos) (zur false i fk) :=
 PT.weak (zox (zo3 (by have:=hr.un;omega) hk (zcm hN hv hd hcd)) hm) fun Y H Q ⟨G,w,Z,r,p⟩=>by
  unfold zur at p
  refine zdb (κ:=fun G H w=>kT X.K C Y Q G H w) zh2 r p fun d Z1 v G1 H1 w1 r1 s1 q1 p1=>?_
  dsimp only at p1
  split at p1
  case h_2=>exact p1.elim
  rename_i n ds e1
  obtain ⟨a,us,g1,g2,g3,g4⟩:=zhx r1 e1
  have:v=.int n:=zas (K:=X.K) (G:=G1) q1
  subst this
  refine ⟨.ref a,g1,a,_,rfl,zno.k (k:=.inl n) g3,_,rfl,?_⟩
  rw[zn7 g4]
  have:=p1 _ _ _ (.refl _ _ _) r1
  simpa using this
def zmy(i:Nat)(fk fv:De):DS:=fun Z=>(fv Z).bind fun b=>match b.2[i]? with
 |some (some (.dic _))=>(fk b.2).bind fun a=>match a.1,a.2[i]? with
  |.int n,some (some (.dic ds))=>if ds.length<16777216 then .ok (.nx,a.2.set i (some (.dic (ztj ds n b.1)))) else .no
  |_,_=>.no
 |_=>.no
theorem zsF{kk:Nat}(i:Nat)(hr:zcY kk X.A)(hk:JE X C k fk)(hv:JE X C v fv)(hN:X.N[i]? = some x:=by rfl)(hvi:Vis X.env.scope x:=by exact xwV)
  (hsw:swapsWith v (some (.Subscript (.Name x ps) k pd)) spos.line X.env=pure false:=by rfl)
  (hd:(x == ("__debug__" : Str))=false:=by decide) (hcd:(x == ("__classdict__" : Str))=false:=by decide):JS X C (.Assign [.Subscript (.Name x ps) k pd] v spos) (zmy i fk fv) :=
 PS.weak (zsD (by have:=hr.un;omega) (zcm hN hvi hd hcd) hk hv hsw) fun D Y H ⟨G,w,Z,r,p⟩=>by
  unfold zmy at p
  refine zdb (κ:=fun G H w=>kS X.K C D G H w) zdA r p fun d Z1 v1 G1 H1 w1 r1 s1 q1 p1=>?_
  dsimp only at p1
  split at p1
  case h_2=>exact p1.elim
  rename_i ds0 e0
  obtain ⟨a,us0,h1,h2,h3,h4⟩:=zhx r1 e0
  refine ⟨.ref a,h1,?_⟩
  refine zdb (κ:=fun G H w=>kS X.K C D G H w) zdA r1 p1 fun d2 Z2 v2 G2 H2 w2 r2 s2 q2 p2=>?_
  dsimp only at p2
  split at p2
  case h_2=>exact p2.elim
  rename_i n ds e2
  split at p2
  case isFalse=>exact p2.elim
  rename_i hl
  obtain ⟨a',us,g1,g2,g3,g4⟩:=zhx r2 e2
  rw[h1] at g1;cases g1
  have:v2=.int n:=zas (K:=X.K) (G:=G2) q2
  subst this
  obtain ⟨r',s'⟩:=r2.mutD e2 h1 g2 (zuK (k:=n) (q1.same s2.g) g4)
  exact ⟨a,_,rfl,ztH.k (k:=.inl n) (v:=v1) g3 (by rw[<- zrj g4,ze8];exact hl),p2 _ _ _ _ s' r'⟩
def zp0(i:Nat)(fk:De):De:=fun Z=>match Z[i]? with
 |some (some (.dic _))=>(fk Z).bind fun a=>match a.1,a.2[i]? with
  |.int n,some (some (.dic ds))=>.ok ((zhH ds n).getD .non,a.2)
  |_,_=>.no
 |_=>.no
theorem zqM{kk:Nat}(i:Nat)(hr:zcY kk X.A)(hk:JE X C k fk)(hN:X.N[i]? = some x:=by rfl)(hv:Vis X.env.scope x:=by exact xwV)
  (hd:(x == ("__debug__" : Str))=false:=by decide) (hcd:(x == ("__classdict__" : Str))=false:=by decide)
  (hbase:attributeBase (.Name x ps) "get" X.env (eval (.Name x ps) X.env)=eval (.Name x ps) X.env:=by rfl)
  (hfew:((backTo pos (starEach [k] X.env)).all (fun x=>!x.1) && (backToKw pos (keywordEach [] X.env)).all (fun x=>x.1.isSome) && decide (([k]:List Expr).length+([]:List Keyword).length+(if ([]:List Keyword).isEmpty then 0 else 1)<30))=true:=by rfl)
  (hline:(apos.endLine == pos.line)=true:=by rfl) (htr:backTo pos (starEach [k] X.env)=[(false,eval k X.env)]:=by rfl):JE X C (.Call (.Attribute (.Name x ps) "get" apos) [k] [] pos) (zp0 i fk) :=
 PE.weak (zq9 (by have:=hr.un;omega) (zcm hN hv hd hcd) hk ⟨hbase,hfew,hline,htr⟩) fun Y H Q ⟨G,w,Z,r,p⟩=>by
  unfold zp0 at p
  split at p
  case h_2=>exact p.elim
  rename_i ds0 e0
  obtain ⟨a,us0,h1,h2,h3,h4⟩:=zhx r e0
  refine ⟨.ref a,h1,a,rfl,.inl ⟨us0,.inl h3⟩,?_⟩
  refine zdb (κ:=fun G H w=>kE X.K C Y Q G H w) zcc r p fun d Z1 v G1 H1 w1 r1 s1 q1 p1=>?_
  dsimp only at p1
  split at p1
  case h_2=>exact p1.elim
  rename_i n ds e1
  obtain ⟨a',us,g1,g2,g3,g4⟩:=zhx r1 e1
  rw[h1] at g1;cases g1
  have:v=.int n:=zas (K:=X.K) (G:=G1) q1
  subst this
  refine ⟨_,zno.k (k:=.inl n) g3,p1 _ _ _ _ (.refl _ _ _) r1 ?_⟩
  cases ed:zhH ds n with
  |none=>rw[(zjU g4).2 ed];unfold Rep;rfl
  |some d'=>obtain ⟨v',ev,rv⟩:=(zjU g4).1 _ ed;rw[ev];exact rv
end
def ltL(f:Dt->Dt->Option Bool):List Dt->List Dt->Option Bool
 |[],[]=>some false
 |[],_::_=>some true
 |_::_,[]=>some false
 |x::xs,y::ys=>if (okN 60 x && okN 60 y)=true then (if eqD x y=true then ltL f xs ys else f x y) else none
def ltD:Nat->Dt->Dt->Option Bool
 |0,.int a,.int b=>some (decide (a<b))
 |0,_,_=>none
 |_+1,.int a,.int b=>some (decide (a<b))
 |n+1,.tup xs,.tup ys=>ltL (ltD n) xs ys
 |_+1,_,_=>none
def ztl(A:Around)(s:Shared)(u v:Value)(b:Bool):Prop:=∀(prog:Program)(w:World)(E:Value->Shared->Prop)(Q:Value->Shared->Prop),Q (.bool b) s->wpAny (model prog w) A (richCompare .Lt u v) Q E s
inductive zp3(A:Around)(s:Shared):List Value->List Value->Bool->Prop where
 |nil:zp3 A s [] [] false
 |left {w:Value} {ws:List Value}:zp3 A s [] (w::ws) true
 |right {v:Value} {vs:List Value}:zp3 A s (v::vs) [] false
 |eq {v w:Value} {vs ws:List Value} {b:Bool} (h:SeqAt.EqAt A s v w true) (t:zp3 A s vs ws b):zp3 A s (v::vs) (w::ws) b
 |ne {v w:Value} {vs ws:List Value} {b:Bool} (h:SeqAt.EqAt A s v w false) (t:ztl A s v w b):zp3 A s (v::vs) (w::ws) b
section
open PySem.SeqAt
open PySem.AutoSeq1 (wpAny_loadPart')
open PySem.MeetsSeq PySem.MeetsSeq2 PySem.MeetsSeq3
theorem zk7(l b:Addr)(items items2:Array Value)(n n2:Nat)(dd dd2:Option Addr)(sl sl2:Array (Option Value))(c:Bool) :
  Meets (Builtin.«tuple.__lt__» ⟨[.ref l,.ref b],[]⟩)
   (fun A R s=>s.heap.get? l=some { cls:=.type "tuple",dict:=dd,data:=.seq items n,slots:=sl }/\s.heap.get? b=some { cls:=.type "tuple",dict:=dd2,data:=.seq items2 n2,slots:=sl2 } /\
    zp3 A.in1 s items.toList items2.toList c/\R (.ok (.ret (.bool c))) s) :=
 .of_wp fun prog w A R s h=>by
  obtain ⟨hp,g,d,tk,os⟩:=s;obtain ⟨hl,hb,hps,h⟩:=h
  have f2:=AutoSeq1.sub_tuple_tuple
  wp_walk using wpAny_loadPart' hl,wpAny_loadPart' hb,wpAny_forIn_list _ (fun zaL b s'=>b.1=none/\s'=⟨hp,g,d,tk,os⟩/\∃(vs ws:List Value),zaL=vs.zip ws /\
   zp3 A.in1 ⟨hp,g,d,tk,os⟩ vs ws c/\vs.length+items2.size=ws.length+items.size) _
  case turn =>
   rintro ⟨y,x⟩ zaL b s' ⟨hb',rfl,vs,ws,hz,hvi,hlen⟩
   cases hvi with
   |nil=>rw[List.zip_nil_left] at hz;cases hz
   |left=>rw[List.zip_nil_left] at hz;cases hz
   |right=>rw[List.zip_nil_right] at hz;cases hz
   |eq he ht =>
    rw[List.zip_cons_cons] at hz
    injection hz with hyx hrest
    injection hyx with hy hx
    subst hy hx
    simp only[wan] at hlen
    refine wab (he prog w _ _ ?_)
    wp_walk
    exact ⟨rfl,rfl,_,_,hrest,ht,xwo⟩
   |ne he ht =>
    rw[List.zip_cons_cons] at hz
    injection hz with hyx hrest
    injection hyx with hy hx
    subst hy hx
    refine wab (he prog w _ _ ?_)
    have hri:=ht prog w
    wp_walk using hri
    exact ⟨_,rfl,by simpa using h⟩
  case fin =>
   rintro ⟨b1,b2⟩ s' ⟨hb',rfl,vs,ws,hz,hvi,hlen⟩
   simp only at hb'
   subst hb'
   have hv:c=decide (items.size<items2.size):=by
    cases hvi with
    |nil =>
     simp only[List.length_nil] at hlen
     exact (waw xwo).symm
    |left =>
     simp only[List.length_nil,wan] at hlen
     exact (wat xwo).symm
    |right =>
     simp only[List.length_nil,wan] at hlen
     exact (waw xwo).symm
    |eq he ht=>rw[List.zip_cons_cons] at hz;cases hz
    |ne he ht=>rw[List.zip_cons_cons] at hz;cases hz
   rw[hv] at h
   wp_walk
   exact ⟨_,rfl,by simpa [Builtin.Tuple.tupleCompareSizes] using h⟩
  case h =>
   exact ⟨rfl,rfl,items.toList,items2.toList,rfl,hps,by simp;omega⟩
end
theorem zpO{A:Around}{s:Shared}{l b:Addr}{items items2:Array Value}{c:Bool}(hl:IsTup s.heap l items)(hb:IsTup s.heap b items2)(hp:zp3 A.in1 s items.toList items2.toList c)(hu:A.units<cLine):ztl A s (.ref l) (.ref b) c:=fun prog w E Q h=>by
 obtain ⟨⟨cls,dd,data,sl⟩,ho,hc,n,hd⟩:=id hl
 obtain ⟨⟨cls2,dd2,data2,sl2⟩,ho2,hc2,n2,hd2⟩:=id hb
 simp only at hc hd hc2 hd2
 subst hc hd hc2 hd2
 exact richCompare_meets_room (op:=.Lt) ⟨_,ho,rfl⟩ ⟨_,ho2,rfl⟩ PySem.F.slot_tuple_lt PySem.F.entry_tuple_lt (PySem.F.args_tuple_lt_2 _ _) (zk7 l b items items2 n n2 dd dd2 sl sl2 c)
  ⟨ho,ho2,hp,show Value.bool c≠Value.notImplemented/\Q (.bool c) s from ⟨(fun x=>nomatch x),h⟩⟩ hu
section
variable{X:Cx}{pS:List (Addr×Obj)}{Y:L2.St}{H:Hp}{s:Shared}
theorem zoC(I:L2.Inv X pS Y H s){A:Around}(hu:A.units+64<cLine){f:Dt->Dt->Option Bool}(hf:∀ dx dy x y u v b,Rep X.K H dx x->Rep X.K H dy y->zbo x u->zbo y v->f dx dy=some b->ztl A s u v b) :
  ∀{xs ys:List Dt}{vs ws:List V}{us zs:List Value}{b:Bool},za1 X.K H xs vs->za1 X.K H ys ws->zbc vs us->zbc ws zs->ltL f xs ys=some b->zp3 A s us zs b
 |[],[],vs,ws,us,zs,b,h1,h2,r1,r2,e=>by
  rw[h1.nil_inv] at r1;rw[h2.nil_inv] at r2;cases r1;cases r2;cases e;exact .nil
 |[],y::ys,vs,ws,us,zs,b,h1,h2,r1,r2,e=>by
  obtain ⟨v,t,rfl,_,_⟩:=h2.cons_inv
  rw[h1.nil_inv] at r1;cases r1;cases r2;cases e;exact .left
 |x::xs,[],vs,ws,us,zs,b,h1,h2,r1,r2,e=>by
  obtain ⟨v,t,rfl,_,_⟩:=h1.cons_inv
  rw[h2.nil_inv] at r2;cases r1;cases r2;cases e;exact .right
 |x::xs,y::ys,vs,ws,us,zs,b,h1,h2,r1,r2,e=>by
  obtain ⟨v,t,rfl,q1,q2⟩:=h1.cons_inv
  obtain ⟨v',t',rfl,q1',q2'⟩:=h2.cons_inv
  cases r1 with
  |cons a1 a2 =>
   cases r2 with
   |cons b1 b2 =>
    unfold ltL at e
    split at e
    ·rename_i ok
     rw[Bool.and_eq_true] at ok
     have he:=zpr I (A:=A) xwo ok.1 ok.2 q1 q1' a1 b1
     split at e
     ·rename_i eqt
      rw[eqt] at he
      exact .eq he (zoC I hu hf q2 q2' a2 b2 e)
     ·rename_i nef
      rw[Bool.not_eq_true] at nef
      rw[nef] at he
      exact .ne he (hf _ _ _ _ _ _ _ q1 q1' a1 b1 e)
    ·cases e
theorem ztc(I:L2.Inv X pS Y H s):∀(n:Nat){A:Around}(hu:A.units+n+64<cLine){dx dy:Dt}{x y:V}{u v:Value}{b:Bool},Rep X.K H dx x->Rep X.K H dy y->zbo x u->zbo y v->ltD n dx dy=some b->ztl A s u v b:=by
 have hint:∀{A:Around}{a c:Int}{x y:V}{u v:Value},Rep X.K H (.int a) x->Rep X.K H (.int c) y->zbo x u->zbo y v->ztl A s u v (decide (a<c)):=fun {A a c x y u v} h1 h2 r1 r2 prog w E Q h=>by
  have e1:x=.int a:=zas (K:=X.K) (G:=H) h1
  have e2:y=.int c:=zas (K:=X.K) (G:=H) h2
  subst e1 e2
  obtain ⟨t1,rfl⟩:=r1
  obtain ⟨t2,rfl⟩:=r2
  exact HT.rcLt_int A s a t1 c t2 prog w E Q h
 intro n
 induction n with
 |zero =>
  intro A hu dx dy x y u v b h1 h2 r1 r2 e
  cases dx <;> cases dy <;> first|(cases e;exact hint h1 h2 r1 r2)|(simp[ltD] at e;done)
 |succ n ih =>
  intro A hu dx dy x y u v b h1 h2 r1 r2 e
  cases dx <;> cases dy <;> first|(cases e;exact hint h1 h2 r1 r2)|(simp[ltD] at e;done)|skip
  rename_i xs ys
  unfold Rep at h1 h2
  obtain ⟨a,vs,rfl,s1,m1⟩:=h1
  obtain ⟨c,ws,rfl,s2,m2⟩:=h2
  cases r1;cases r2
  obtain ⟨us,rv1,p1,_⟩:=I.tuple s1.sq
  obtain ⟨zs,rv2,p2,_⟩:=I.tuple s2.sq
  refine zpO p1 p2 (zoC I (A:=A.in1) (f:=ltD n) (by rw[zeb];omega) (fun dx dy x y u v b k1 k2 k3 k4 k5=>ih (by rw[zeb];omega) k1 k2 k3 k4 k5) m1 m2 (by simpa using rv1) (by simpa using rv2) e) xwo
end
def zjP(b:Dt×Dt):List (Dt×Dt)->Option Dt
 |[]=>some b.2
 |p::r=>match ltD 8 p.1 b.1 with
  |some true=>zjP p r
  |some false=>zjP b r
  |none=>none
def zmn(d:Dt):List (Dt×Dt)->Option Dt
 |[]=>some d
 |p::r=>zjP p r
theorem zl0{X:Cx}{pS:List (Addr×Obj)}{Y:L2.St}{H:Hp}{s:Shared}{S I:Addr}{oS oI:Obj}(J:L2.Inv X pS Y H s)(hS:s.heap.get? S=some oS/\H S=none/\S≠X.env.locals/\S∉X.fs/\∀ v,oS.data≠.cell v)(hI:s.heap.get? I=some oI/\H I=none/\I≠X.env.locals/\I∉X.fs/\∀ v,oI.data≠.cell v) :
  L2.Inv X (pS++[(S,oS),(I,oI)]) Y H s:=J.pins_of fun p hp=>by
 rcases wax.mp hp with z|z
 ·exact J.pin p (waA _ z)
 ·rcases wap.mp z with rfl|z
  ·exact hS
  ·rw[List.mem_singleton.mp z];exact hI
section
variable{X:Cx}{C:Cn}{pS:List (Addr×Obj)}{Y:L2.St}{G1 H1:Hp}{w1:Wn}{Z1:Ev}{l q S I:Addr}{xs:List V}{kd:List (Dt×Dt)}{dv:Value}{R:Result->Shared->Prop}
abbrev zsH(X:Cx)(C:Cn)(Y:L2.St)(G1 H1:Hp)(w1:Wn)(Z1:Ev)(q:Addr)(kd:List (Dt×Dt)):Prop:=∀(k d:Dt)(xv:V)(u:Value),(k,d)∈kd->zbo xv u->∀(pins':List (Addr×Obj))(s':Shared)(H3 G3:Hp)(w3:Wn),L2.Inv X pins' Y H3 s'->zbv G1 H1 w1 G3 H3 w3->Rel X.K C G3 w3 Z1 Y H3->Rep X.K G3 d xv ->
 wpAny (model X.prog X.w) X.A.in1 (call (.ref q) [u]) (fun r s2=>∃ kv H4 G4 w4,zbo kv r/\L2.Inv X pins' Y H4 s2/\zbv G3 H3 w3 G4 H4 w4/\Rel X.K C G4 w4 Z1 Y H4/\Rep X.K G4 k kv) (fun _ _=>False) s'
theorem zlz(hr:X.A.handled=none)(hlI:l≠I){s':Shared}{H3 G3:Hp}{w3:Wn}{oS oI:Obj}{j:Nat}{d:Dt}{E:Value->Shared->Prop}{Q:Option Value->Shared->Prop}(fI:zfj X pS H1 I)(hSI:S≠I)(hl:G1 l=some (.lst xs))(hrep:za1 X.K G1 (kd.map (·.2)) xs)(hj:(kd.map (·.2))[j]? = some d)
  (J:L2.Inv X (pS++[(S,oS),(I,oI)]) Y H3 s') (st:zbv G1 H1 w1 G3 H3 w3) (rel:Rel X.K C G3 w3 Z1 Y H3) (hit:s'.heap.IsListIter I l j)
  (k:∀ xv u oI' h' tk',Rep X.K G3 d xv->zbo xv u->L2.Inv X (pS++[(S,oS),(I,oI')]) Y H3 { s' with heap:=h',toks:=tk' }->h'.IsListIter I l (j+1)->Q (some u) { s' with heap:=h',toks:=tk' }) :
  wpAny (model X.prog X.w) X.A.in1 (pyNext (.ref I)) Q E s':=by
 have hH:H3 l=some (.lst xs):=rel.gh _ _ (st.g _ _ hl)
 obtain ⟨zz,its,n,rv,hle,eo⟩:=J.lstM hH
 have nS:=J.pin (S,oS) xws
 have nI:=J.pin (I,oI) xws
 have W:=Walks.list (prog:=X.prog) (w:=X.w) (A:=X.A.in1) hr I l hlI its.toArray
 obtain ⟨xv,hx1,hx2⟩:=hrep.get hj
 obtain ⟨u,hu1,hu2⟩:=rv.get hx1
 refine W.item j _ _ _ (by rw[List.size_toArray];exact (wam.mp hu1).1) ⟨hit,⟨_,eo,rfl,n,rfl⟩⟩ fun v h' tk' hP hst' hk'=>?_
 have hv:its[j]? = some v:=by simpa using hP
 rw[hu1] at hv;cases hv
 obtain ⟨oI',hoI',hoc,hod⟩:=id hst'.1
 have J0:L2.Inv X pS Y H3 s':=J.unpinned
 have fI3:zfj X pS H3 I:=zuO fI nI.2.1 fun p hp=>.inl hp
 have J1:L2.Inv X pS Y H3 { s' with heap:=h',toks:=tk' }:=zca (fp:=[I]) J0 (fun b hb=>by rw[List.mem_singleton.mp hb];exact fI3) fun b ob nb e=>hk' b ob nb e
 exact k xv u oI' h' tk' (hx2.same st.g) hu2 (zl0 J1 ⟨hk' S _ (by simpa using hSI) nS.1,nS.2⟩ ⟨hoI',nI.2.1,nI.2.2.1,nI.2.2.2.1,fun v z=>by rw[hod] at z;cases z⟩) hst'.1
theorem zns(hr:X.A.handled=none)(hlI:l≠I){s':Shared}{H3 G3:Hp}{w3:Wn}{oS oI:Obj}{E:Value->Shared->Prop}{Q:Option Value->Shared->Prop}(fI:zfj X pS H1 I)(hSI:S≠I)(hl:G1 l=some (.lst xs))
  (J:L2.Inv X (pS++[(S,oS),(I,oI)]) Y H3 s') (st:zbv G1 H1 w1 G3 H3 w3) (rel:Rel X.K C G3 w3 Z1 Y H3) (hit:s'.heap.IsListIter I l xs.length)
  (k:∀ h' tk',L2.Inv X (pS++[(S,oS)]) Y H3 { s' with heap:=h',toks:=tk' }->Q none { s' with heap:=h',toks:=tk' }) :
  wpAny (model X.prog X.w) X.A.in1 (pyNext (.ref I)) Q E s':=by
 have hH:H3 l=some (.lst xs):=rel.gh _ _ (st.g _ _ hl)
 obtain ⟨zz,its,n,rv,hle,eo⟩:=J.lstM hH
 have nS:=J.pin (S,oS) xws
 have nI:=J.pin (I,oI) xws
 have W:=Walks.list (prog:=X.prog) (w:=X.w) (A:=X.A.in1) hr I l hlI its.toArray
 have hlen:its.toArray.size=xs.length:=by rw[List.size_toArray,rv.length]
 refine W.done _ _ _ ⟨by rw[hlen];exact hit,⟨_,eo,rfl,n,rfl⟩⟩ fun h' tk' hk'=>k h' tk' ?_
 have J0:L2.Inv X (pS++[(S,oS)]) Y H3 s':=J.pins_of fun p hp=>J.pin p (by
  rcases wax.mp hp with z|z
  ·exact waA _ (List.mem_append_left _ z)
  ·rw[List.mem_singleton.mp z];simp)
 exact zca (fp:=[I]) J0 (fun b hb=>by
  rw[List.mem_singleton.mp hb]
  exact zuO fI nI.2.1 fun p hp=>by
   rcases wax.mp hp with z|z
   ·exact .inl z
   ·rw[List.mem_singleton.mp z];exact .inr hSI) fun b ob nb e=>hk' b ob nb e
theorem zp1{s':Shared}{H3:Hp}{oI:Obj}{as bs:Array Value}{e:Nat}{E:Value->Shared->Prop}{Q:Unit->Shared->Prop}{A:Around}(ha:as.size<=2)(hb:bs.size<=2)(fS:zfj X pS H1 S)(hSI:S≠I)(J:L2.Inv X (pS++[(S,lo as e),(I,oI)]) Y H3 s')
  (k:∀ e' h',L2.Inv X (pS++[(S,lo bs e'),(I,oI)]) Y H3 { s' with heap:=h' }->(∀ b,b≠S->h'.get? b=s'.heap.get? b)->Q () { s' with heap:=h' }):wpAny (model X.prog X.w) A (updateSeq S fun _=>bs) Q E s':=by
 have nS:=J.pin (S,lo as e) xws
 have nI:=J.pin (I,oI) xws
 obtain ⟨c2,hc2⟩ : ∃ c2,(s'.heap.update S (Obj.mapSeq fun _=>bs)).get? S=some (lo bs c2):=⟨_,get?_update_seq nS.1 fun _=>bs⟩
 have s1:=Heap.SameBut.update s'.heap S (Obj.mapSeq fun _=>bs)
 refine wpAny_updateSeq (hz:=by show as.size<=sizeLine;rw[sizeLine_eq];omega) (_hz':=by show bs.size<=sizeLine+1;rw[sizeLine_eq];omega) nS.1 rfl (k c2 _ ?_ fun b hb=>s1.2 b hb)
 have fS3:zfj X (pS++[(I,oI)]) H3 S:=zuO fS nS.2.1 fun p hp=>by
  rcases wax.mp hp with z|z
  ·exact .inl z
  ·rw[List.mem_singleton.mp z];exact .inr (Ne.symm hSI)
 exact zvj (t':=s'.toks) (zaL:=[(I,oI)]) J fS3 (fun b ob nb e=>(s1.2 b nb).trans e) hc2 fun v z=>by cases z
theorem zqh(hu:X.A.units+200<cLine)(hr:X.A.handled=none)(hlI:l≠I)(hSI:S≠I)(fS:zfj X pS H1 S)(fI:zfj X pS H1 I)(hl:G1 l=some (.lst xs))(hrep:za1 X.K G1 (kd.map (·.2)) xs)(turn:zsH X C Y G1 H1 w1 Z1 q kd){res:Dt}
  (hR:∀ v u s2 H4 G4 w4,L2.Inv X pS Y H4 s2->zbv G1 H1 w1 G4 H4 w4->Rel X.K C G4 w4 Z1 Y H4->Rep X.K G4 res v->zbo v u->R (.ok (.ret u)) s2) :
  ∀(zaL:List (Dt×Dt))(j:Nat)(b:Dt×Dt)(s':Shared)(H3 G3:Hp)(w3:Wn)(kv bv:V)(uk ub:Value)(e:Nat)(oI:Obj),kd.drop j=zaL->zjP b zaL=some res ->
   L2.Inv X (pS++[(S,lo #[ub,uk] e),(I,oI)]) Y H3 s'->zbv G1 H1 w1 G3 H3 w3->Rel X.K C G3 w3 Z1 Y H3->Rep X.K G3 b.1 kv->zbo kv uk->Rep X.K G3 b.2 bv->zbo bv ub->s'.heap.IsListIter I l j->j<=kd.length ->
   codeAny (model X.prog X.w) X.A (.builtin "min.loop" ⟨[.ref I,.ref q,.ref S],[(Str.ofString "default",dv)]⟩) R s':=by
 have hname:(toString "min"++toString ".loop" : String)="min.loop":=by decide
 intro zaL
 induction zaL with
 |nil =>
  intro j b s' H3 G3 w3 kv bv uk ub e oI hd hm J st rel q1 r1 q2 r2 hit hj
  have hlen:j=xs.length:=by
   have h1:=List.drop_eq_nil_iff.mp hd
   have h2:=hrep.length
   rw[List.length_map] at h2
   omega
  have nS:=J.pin (S,lo #[ub,uk] e) xws
  refine codeAny_builtin PySem.F.entry_min_loop ?_
  rw[Around.under_plainId PySem.F.plain_min_loop _]
  show wpAny _ X.A.in1 (seqItems? (.ref S) >>= _) _ _ _
  refine wab (wpAny_seqItems nS.1 rfl ?_)
  show wpAny _ X.A.in1 (tryCatch (pyNext (.ref I)) _ >>= _) _ _ _
  refine wab (wpAny_tryCatch (zns hr hlI fI hSI hl J st rel (by rw[<- hlen];exact hit) fun h' tk' J1=>?_))
  have nS':=J1.pin (S,lo #[ub,uk] e) xws
  have s1:=Heap.SameBut.update h' S (Obj.mapSeq fun _=>(#[]:Array Value))
  show wpAny _ X.A.in1 (updateSeq S (fun _=>#[]) >>= _) _ _ _
  refine wab ?_
  refine wpAny_updateSeq nS'.1 rfl (wab (wpAny_letGo (wad ?_)))
  have eb:b.2=res:=by simpa [zjP] using hm
  refine hR bv ub _ H3 G3 w3 ?_ st rel (by rw[<- eb];exact q2) r2
  exact zca (fp:=[S]) (t':=tk') J1.unpinned (fun b hb=>by rw[List.mem_singleton.mp hb];exact zuO fS nS'.2.1 fun p hp=>.inl hp) fun b ob nb e=>(s1.2 b (by simpa using nb)).trans e
 |cons p zaL ih =>
  intro j b s' H3 G3 w3 kv bv uk ub e oI hd hm J st rel q1 r1 q2 r2 hit hj
  obtain ⟨pk,pd⟩:=p
  have hget:kd[j]? = some (pk,pd):=by
   have:=List.getElem?_drop (xs:=kd) (i:=j) (j:=0)
   rw[hd] at this
   simpa using this.symm
  have hjl:j<kd.length:=(wam.mp hget).1
  have nS:=J.pin (S,lo #[ub,uk] e) xws
  refine codeAny_builtin PySem.F.entry_min_loop ?_
  rw[Around.under_plainId PySem.F.plain_min_loop _]
  show wpAny _ X.A.in1 (seqItems? (.ref S) >>= _) _ _ _
  refine wab (wpAny_seqItems nS.1 rfl ?_)
  show wpAny _ X.A.in1 (tryCatch (pyNext (.ref I)) _ >>= _) _ _ _
  refine wab (wpAny_tryCatch (zlz hr hlI fI hSI hl hrep (by rw[List.getElem?_map,hget];rfl) J st rel hit fun xv u oI' h' tk' hx hu' J1 hit1=>?_))
  show wpAny _ X.A.in1 (tryCatch (holding [u] (call (.ref q) [u])) _ >>= _) _ _ _
  refine wab (wpAny_tryCatch (wpAny_holding (wpAny_mono (turn pk pd xv u (List.mem_of_getElem? hget) hu' _ _ H3 G3 w3 J1 st rel hx) (fun x s2 he=>?_) fun _ _ hF=>hF.elim)))
  obtain ⟨nkv,H4,G4,w4,rx,J2,st2,rel2,hk2⟩:=he
  have nS2:=J2.pin (S,lo #[ub,uk] e) xws
  have nI2:=J2.pin (I,oI') xws
  obtain ⟨oIx,hoI,hoc,hod⟩:=id hit1
  have eIx:oIx=oI':=by
   have:=(J1.pin (I,oI') xws).1
   rw[this] at hoI;exact (waB hoI).symm
  subst eIx
  have hit2:s2.heap.IsListIter I l (j+1):=⟨oIx,nI2.1,hoc,hod⟩
  have drop1:kd.drop (j+1)=zaL:=by
   rw[<- List.drop_drop,hd];rfl
  unfold zjP at hm
  have q1':=q1.same st2.g
  have q2':=q2.same st2.g
  show wpAny _ X.A.in1 (tryCatch (holding [u,x] (richCompare .Lt x uk >>= _)) _ >>= _) _ _ _
  have lt:∀ c,ltD 8 pk b.1=some c->ztl X.A.in1 s2 x uk c:=fun c hc=>ztc J2 8 (by rw[zeb];omega) (hk2.same rel2.gh) (q1'.same rel2.gh) rx r1 hc
  cases hc:ltD 8 pk b.1 with
  |none=>rw[hc] at hm;cases hm
  |some c =>
   rw[hc] at hm
   refine wab (wpAny_tryCatch (wpAny_holding (wab (lt c hc _ _ _ _ ?_))))
   refine wab (wpAny_holding (wpAny_truthy_bool ?_))
   refine wab (wpAny_letGo (wad ?_))
   cases c with
   |true =>
    simp only[if_true]
    refine wab (zp1 xws xws fS hSI J2 fun e' h3 J3 hk3=>wab (wpAny_letGo ?_))
    rw[hname]
    refine wad ⟨plainId_quiet PySem.F.plain_min_loop _,ih (j+1) (pk,pd) _ H4 G4 w4 nkv xv x u e' oIx drop1 hm J3 (st.trans st2) rel2 hk2 rx (hx.same st2.g) hu' ⟨oIx,?_,hoc,hod⟩ xwo⟩
    show h3.get? I=some oIx
    rw[hk3 I (Ne.symm hSI)];exact nI2.1
   |false =>
    simp only[Bool.false_eq_true,if_false]
    refine wab (wpAny_letGo ?_)
    rw[hname]
    exact wad ⟨plainId_quiet PySem.F.plain_min_loop _,ih (j+1) b _ H4 G4 w4 kv bv uk ub e oIx drop1 hm J2 (st.trans st2) rel2 q1' r1 q2' r2 hit2 xwo⟩
end
theorem ztA{CX:CXT}{P:Program}{w:World}{K:W.Frag}{mg:Str->Option Value}{base:Heap}{k:Nat}{Fa c:Addr}{name qual:Str}{params:Arguments}{body:Expr}{scope:Scope}{pm ctv:Value}
  {N ps:List Str} {A:Around} {outer:List Env} {s:Shared} {H:Hp} {args:Args} {us:List Value} {vs:List V} {Q:VK} {E:XK} (hF:s.heap.get? Fa=some (W.kla_obj name qual params body scope [] pm c ctv)) (hcd:s.heap.CodeRec (.ref c) qual) (S:zax N ps scope)
  (hr:zcY (k+1) A) (e0:zp2 P w K mg base A outer s H) (hb:BindsTo s (W.kla_fn name qual params body scope [] pm (.ref c) ctv) args (ps.zip us)) (r:zbc vs us) (hl:vs.length=ps.length)
  (hbody:∃ t,PE (ziN CX P w K mg base N qual scope Fa (.ref c) A outer s H E) body t/\t (start N vs) H Q) :
  codeAny (model P w) A (.call (.ref Fa) args) (CR CX outer P w H s Q E) s:=by
 have nolim:s.heap.NoLimit:=e0.mod.nolimit.keeps fun b o e=>(e0.bs b o e).1
 have zbx:∀ y∈ps.zip us,scope.names.lookup y.1=some .local\/(scope.names.lookup y.1=some .cell/\((cellsFrom (s.heap.objs.size+1) scope.names []).lookup y.1).isSome=true):=fun ⟨n,v⟩ hy=>by
  rcases S.par n (List.of_mem_zip hy).1 with q|q
  ·exact .inl q
  ·exact .inr ⟨q,W.cellsFrom_some _ _ _ (.inl q)⟩
 have dp:A.depth<recursionLimit:=by have:=hr.dp;omega
 refine W.kla_callFunE dp hF rfl S.co S.gen rfl hcd (hb _ _ _ _ ?_)
 refine wpAny_newFunctionEnv_cells S.kind zbx fun env he s1 x=>?_
 subst he
 refine ⟨nolim.keeps x.toInCall.keep,W.kla_codeExpr ?_⟩
 obtain ⟨t,ht,hq⟩:=hbody
 have I:=zh3 (CX:=CX) (K:=K) (mg:=mg) (base:=base) (E:=E) (qual:=qual) (f:=Fa) (cd:=.ref c) S hr.hd e0 hl r x
 refine wpAny_mono (ht [] s1 (start N vs) H _ I hq) (fun u s' hs=>?_) fun e s' hs=>hs
 obtain ⟨v,H',J,rv,q⟩:=hs
 exact ⟨v,H',J.os,J.bare,J.base,J.hok,rv,q⟩
def zgc(fE:De):List Dt->Option (List (Dt×Dt))
 |[]=>some []
 |d::r=>match fE [some (.val d)] with
  |.ok (k,_)=>(zgc fE r).map ((k,d)::·)
  |_=>none
theorem zjO{fE:De}:∀{ds:List Dt}{kd:List (Dt×Dt)},zgc fE ds=some kd->kd.map (·.2)=ds
 |[],kd,h=>by simp[zgc] at h;subst h;rfl
 |d::r,kd,h=>by
  unfold zgc at h
  split at h
  ·simp only[Option.map_eq_some_iff] at h
   obtain ⟨k',h1,rfl⟩:=h
   simp[zjO h1]
  ·cases h
theorem zkd{fE:De}:∀{ds:List Dt}{kd:List (Dt×Dt)},zgc fE ds=some kd->∀ k d,(k,d)∈kd->∃ Z',fE [some (.val d)]=.ok (k,Z')
 |[],kd,h,k,d,hm=>by simp[zgc] at h;subst h;simp at hm
 |d0::r,kd,h,k,d,hm=>by
  unfold zgc at h
  split at h
  ·rename_i k0 Z0 e0
   simp only[Option.map_eq_some_iff] at h
   obtain ⟨k',h1,rfl⟩:=h
   rcases wap.mp hm with z|z
   ·cases z;exact ⟨_,e0⟩
   ·exact zkd h1 k d z
  ·cases h
abbrev HL1(X:Cx)(xv:Nat->Value)(k:Nat)(x:Str)(body:Expr)(scope:Scope)(fE:De):Prop:=∀(XL:Cx)(CL:Cn),(∃ Fa cdv A outer s H E,XL=ziN (CXe X.prog X.w) X.prog X.w X.K X.mg X.base [x] (X.env.qual++"<lambda>") scope Fa cdv A outer s H E)->CL.pp=[]->CL.xv=xv->CL.nw=false->zcY k XL.A->zcH (CXe X.prog X.w) XL (EXc CL)->JE XL CL body fE
section
variable{X:Cx}{C:Cn}{pS:List (Addr×Obj)}{Y:L2.St}{k:Nat}{x:Str}{params:Arguments}{body:Expr}{scope:Scope}{fE:De}
theorem zpX(hE:HL1 X C.xv k x body scope fE)(S:zax [x] [x] scope)(hr:zcY (k+1) X.A.in1)(hb:∀ s pm c ctv u,BindsTo s (W.kla_fn "<lambda>" (X.env.qual++"<lambda>") params body scope [] pm (.ref c) ctv) ⟨[u],[]⟩ [(x,u)])
  {G1 H1:Hp} {w1:Wn} {Z1:Ev} {Fa c:Addr} {ctv:Value} {kd:List (Dt×Dt)} {ds:List Dt} (gF:G1 Fa=some (fHO Fa (kLo X params body scope [] c ctv))) (gc:G1 c=some (cHO c (X.env.qual++"<lambda>"))) (hkd:zgc fE ds=some kd):zsH X C Y G1 H1 w1 Z1 Fa kd:=by
 intro kk d xv u hm ru pins' s' H3 G3 w3 J st rel hx
 obtain ⟨Z',hf⟩:=zkd hkd kk d hm
 have hHF:=rel.gh _ _ (st.g _ _ gF)
 have hHc:=rel.gh _ _ (st.g _ _ gc)
 have o1:zbO X.prog X.w H3 s'.heap Fa (fHO Fa _):=J.hok Fa _ hHF
 have o2:zbO X.prog X.w H3 s'.heap c (cHO c _):=J.hok c _ hHc
 have JA:L2.Inv { X with A:=X.A.in1,xe:=fun _ _=>False } pins' Y H3 s':=ztD J rfl rfl
 refine wpAny_call (codeAny_mono (ztA (CX:=CXe X.prog X.w) (k:=k) (E:=fun _ _ _=>False) (us:=[u]) (vs:=[xv]) (N:=[x]) (ps:=[x])
  (Q:=fun v H4=>∃ G4 w4,zbv G3 H3 w3 G4 H4 w4/\Rel X.K C G4 w4 Z1 Y H4/\Rep X.K G4 kk v) o1.1 o2.1 S hr JA.env0 (hb _ _ _ _ _) (.cons ru .nil) rfl ?_) fun rr s2 hq=>?_)
 ·refine ⟨_,hE _ ⟨G3,H3,fun _=>none,[],start [x] [xv],fun _=>False,C.xv,false⟩ ⟨Fa,.ref c,X.A.in1,X.stack,s',H3,fun _ _ _=>False,rfl⟩ rfl rfl rfl (hr.deeper _) (zaC _ _ _ _ _ _ _ _ _ _ _ S.kind fun u a H' z=>z.2.elim fun n z=>z.2.1.elim),G3,fun _=>none,[some (.val d)],?_,?_⟩
  ·refine ⟨rel.gh,fun b e=>absurd rfl e,fun b e=>absurd rfl e,rfl,fun i b e=>?_,.refl _ _ _,fun i hi=>by simp at hi⟩
   cases i with
   |zero=>simp at e;subst e;exact ⟨xv,rfl,hx⟩
   |succ i=>simp at e
  ·rw[hf]
   intro v G4 H4 w4 st4 rel4 hv
   have win:wIn w3 []=fun _=>none:=by
    funext b;unfold wIn;cases w3 b <;> rfl
   obtain ⟨r2,st2⟩:=rel.back (as:=[]) (vs:=[]) (bs:=[]) (bs':=[]) (ks:=[]) rfl rfl rfl rfl (by rw[win];exact st4) ⟨rel4.gh,rel4.wg,rel4.wh,fun j' v' z=>by simp at z⟩
   rw[zje] at r2
   exact ⟨G4,_,st2,r2,hv⟩
 ·cases rr with
  |error e=>exact (CXe.none hq).elim
  |ok fl =>
   cases fl with
   |ret ur =>
    obtain ⟨v,H4,I4,rv,G4,w4,st4,rel4,hv⟩:=JA.after hq
    exact ⟨v,H4,G4,w4,rv,zsB I4 rfl rfl,st4,rel4,hv⟩
   |next=>exact False.elim hq
   |brk=>exact False.elim hq
   |cont=>exact False.elim hq
end
theorem zpL(a v d:Value):argsOk "min" ⟨[a],[(Str.ofString "key",v),(Str.ofString "default",d)]⟩:=by unfold argsOk;kernel_rfl
section
variable{X:Cx}{C:Cn}{pS:List (Addr×Obj)}{Y:L2.St}{G1 H1:Hp}{w1:Wn}{Z1:Ev}{l q:Addr}{xs:List V}{kd:List (Dt×Dt)}{s:Shared}{Q:Value->Shared->Prop}{E:Value->Shared->Prop}
theorem zoy(hu:X.A.units+200<cLine)(hr:X.A.handled=none)(I:L2.Inv X pS Y H1 s)(rel:Rel X.K C G1 w1 Z1 Y H1)(hl:G1 l=some (.lst xs))(hrep:za1 X.K G1 (kd.map (·.2)) xs)(turn:zsH X C Y G1 H1 w1 Z1 q kd){res:Dt}(hres:zmn .non kd=some res)
  (hQ:∀ v u s2 H4 G4 w4,L2.Inv X pS Y H4 s2->zbv G1 H1 w1 G4 H4 w4->Rel X.K C G4 w4 Z1 Y H4->Rep X.K G4 res v->zbo v u->Q u s2) :
  wpAny (model X.prog X.w) X.A (call (.builtin "min") [.ref l] [(Str.ofString "key",.ref q),(Str.ofString "default",.none)]) Q E s:=by
 have hname:(toString "min"++toString ".loop" : String)="min.loop":=by decide
 have hH:H1 l=some (.lst xs):=rel.gh _ _ hl
 obtain ⟨zz,its,n,rv,hle,eo⟩:=I.lstM hH
 have hls:s.heap.IsList l its.toArray:=⟨_,eo,rfl,n,rfl⟩
 refine kmk_tree PySem.F.kind_min PySem.F.plain_min PySem.F.entry_min (zpL _ _ _) ?_
 show wpAny _ X.A.in1 (Builtin.Builtins.bindParams "min" ["key","default"] 0 ⟨[],[(Str.ofString "key",.ref q),(Str.ofString "default",.none)]⟩ >>= _) _ _ s
 refine wab (wpAny_of_eq (show Builtin.Builtins.bindParams "min" ["key","default"] 0 ⟨[],[(Str.ofString "key",.ref q),(Str.ofString "default",.none)]⟩=pure [some (.ref q),some .none] from rfl) ?_)
 refine wab (wad ?_)
 refine wab (wpAny_pyIter_list hls ?_)
 refine wab (wpAny_newList ?_ (Nat.zero_le _))
 rw[hname]
 have z1:(s.heap.push { cls:=.type "list_iterator",data:=.fields #[.ref l,.int 0 0] }).objs.size=s.heap.objs.size+1:=size_push' ..
 have k1:∀ b o,s.heap.get? b=some o->((s.heap.push { cls:=.type "list_iterator",data:=.fields #[.ref l,.int 0 0] }).push (seqObj "list" #[] 0)).get? b=some o:=fun b o e=>waa _ (waa _ e)
 have gI:((s.heap.push { cls:=.type "list_iterator",data:=.fields #[.ref l,.int 0 0] }).push (seqObj "list" #[] 0)).get? s.heap.objs.size=some { cls:=.type "list_iterator",data:=.fields #[.ref l,.int 0 0] } :=
  waa _ (waj _ rfl)
 have gS:((s.heap.push { cls:=.type "list_iterator",data:=.fields #[.ref l,.int 0 0] }).push (seqObj "list" #[] 0)).get? (s.heap.objs.size+1)=some (seqObj "list" #[] 0):=by rw[<- z1];exact waj _ rfl
 rw[z1]
 generalize ((s.heap.push { cls:=.type "list_iterator",data:=.fields #[.ref l,.int 0 0] }).push (seqObj "list" #[] 0))=g at k1 gI gS
 have I0:L2.Inv X pS Y H1 { s with heap:=g }:=I.kept (t':=s.toks) k1
 have lI:s.heap.objs.size<=s.heap.objs.size:=wal _
 have lS:s.heap.objs.size<=s.heap.objs.size+1:=Nat.le_succ _
 have fI:zfj X pS H1 s.heap.objs.size:=I.fpOk lI (I.hok.fresh lI)
 have fS:zfj X pS H1 (s.heap.objs.size+1):=I.fpOk lS (I.hok.fresh lS)
 have hSI:s.heap.objs.size+1≠s.heap.objs.size:=Nat.succ_ne_self _
 have hlI:l≠s.heap.objs.size:=Nat.ne_of_lt (wai eo)
 have J:L2.Inv X (pS++[(s.heap.objs.size+1,lo #[] 0),(s.heap.objs.size,{ cls:=.type "list_iterator",data:=.fields #[.ref l,.int 0 0] })]) Y H1 { s with heap:=g } :=
  zl0 I0 ⟨gS,fS.1,fS.2.1,fS.2.2.1,fun v z=>by cases z⟩ ⟨gI,fI.1,fI.2.1,fI.2.2.1,fun v z=>by cases z⟩
 refine wad ⟨plainId_quiet PySem.F.plain_min_loop _,?_⟩
 refine codeAny_builtin PySem.F.entry_min_loop ?_
 rw[Around.under_plainId PySem.F.plain_min_loop _]
 show wpAny _ X.A.in1 (seqItems? (.ref _) >>= _) _ _ _
 refine wab (wpAny_seqItems gS rfl ?_)
 show wpAny _ X.A.in1 (tryCatch (pyNext (.ref s.heap.objs.size)) _ >>= _) _ _ _
 have hit:g.IsListIter s.heap.objs.size l 0:=⟨_,gI,rfl,rfl⟩
 cases kd with
 |nil =>
  have hx0:xs=[]:=hrep.nil_inv
  refine wab (wpAny_tryCatch (zns hr hlI fI hSI hl J (.refl _ _ _) rel (by rw[hx0];exact hit) fun h' tk' J1=>?_))
  show wpAny _ X.A.in1 (rule _ >>= _) _ _ _
  refine wab (wpAny_rule (wad ?_))
  have:res=.non:=by simpa [zmn] using hres.symm
  subst this
  exact hQ .non .none _ H1 G1 w1 J1.unpinned (.refl _ _ _) rel (by unfold Rep;rfl) rfl
 |cons p zaL =>
  obtain ⟨pk,pd⟩:=p
  refine wab (wpAny_tryCatch (zlz hr hlI fI hSI hl hrep (d:=pd) rfl J (.refl _ _ _) rel hit fun xv u oI' h' tk' hx hu' J1 hit1=>?_))
  show wpAny _ X.A.in1 (tryCatch (holding [u] (call (.ref q) [u])) _ >>= _) _ _ _
  refine wab (wpAny_tryCatch (wpAny_holding (wpAny_mono (turn pk pd xv u wau hu' _ _ H1 G1 w1 J1 (.refl _ _ _) rel hx) (fun y s2 he=>?_) fun _ _ hF=>hF.elim)))
  obtain ⟨nkv,H4,G4,w4,rx,J2,st2,rel2,hk2⟩:=he
  have nI2:=J2.pin (s.heap.objs.size,oI') xws
  obtain ⟨oIx,hoI,hoc,hod⟩:=id hit1
  have eIx:oIx=oI':=by
   have:=(J1.pin (s.heap.objs.size,oI') xws).1
   rw[this] at hoI;exact (waB hoI).symm
  subst eIx
  refine wab (zp1 xws xws fS hSI J2 fun e' h3 J3 hk3=>?_)
  rw[hname]
  refine wad ⟨plainId_quiet PySem.F.plain_min_loop _,zqh (R:=fun r s'=>match r with|.ok (.ret v)=>Q v s'|.ok _=>False|.error e=>E e s') hu hr hlI hSI fS fI hl hrep turn hQ zaL 1 (pk,pd) _ H4 G4 w4 nkv xv y u e' oIx rfl hres J3 st2 rel2 hk2 rx (hx.same st2.g) hu' ⟨oIx,?_,hoc,hod⟩ xws⟩
  show h3.get? s.heap.objs.size=some oIx
  rw[hk3 _ (Ne.symm hSI)];exact nI2.1
end
def zp8(j:Nat)(q:Str)(fE fa:De):De:=fun Z=>(fa Z).bind fun a=>match a.1,a.2[j]? with
 |.lst ds,some (some (.tab q'))=>if q'=q then match zgc fE ds with
   |some kd=>match zmn .non kd with
    |some r=>.ok (r,a.2)
    |none=>.no
   |none=>.no
  else .no
 |_,_=>.no
section
variable{X:Cx}{C:Cn}{P:Addr}{j k:Nat}{x:Str}{params:Arguments}{body:Expr}{scope:Scope}{fE fa:De}{a:Expr}{p pos lpos kp kp2 cp:Pos}{cj:Nat}
theorem zrR(LB:zeZ X P)(hpp:j∈C.pp)(hσ0:C.σ₀[j]? = some (some (.ref P)))(hr:zcY (k+2) X.A)(hE:HL1 X C.xv k x body scope fE)(S:zax [x] [x] scope)(hg:Gl X "min")(hm:X.mg "min"=none)(ha:JE X C a fa)
  (hb:∀ s pm c ctv u,BindsTo s (W.kla_fn "<lambda>" (X.env.qual++"<lambda>") params body scope [] pm (.ref c) ctv) ⟨[u],[]⟩ [(x,u)])
  (hcl:closureFor scope X.env=pure []:=by rfl) (hdef:defaultsOf params X.env=([],[]):=by rfl)
  (hs:starEach [a] X.env=(false,eval a X.env)::starEach [] X.env:=by rfl) (he:backTo pos (starEach [a] X.env)=(false,eval a X.env)::backTo pos (starEach [] X.env):=by rfl) (hplain:(backTo pos (starEach [a] X.env)).any (·.1)=false:=by rfl)
  (hall:(backToKw pos (keywordEach [⟨some "key",.Lambda params body scope lpos,kp⟩,⟨some "default",.Constant .none cj cp,kp2⟩] X.env)).all (·.1.isSome)=true:=by rfl) (hkw:(backToKw pos (keywordEach [⟨some "key",.Lambda params body scope lpos,kp⟩,⟨some "default",.Constant .none cj cp,kp2⟩] X.env)).any (·.1.isNone)=false:=by rfl)
  (hks:(backToKw pos (keywordEach [⟨some "key",.Lambda params body scope lpos,kp⟩,⟨some "default",.Constant .none cj cp,kp2⟩] X.env)).filterMap (·.1)=[Str.ofString "key",Str.ofString "default"]:=by rfl) :
  JE X C (.Call (.Name "min" p) [a] [⟨some "key",.Lambda params body scope lpos,kp⟩,⟨some "default",.Constant .none cj cp,kp2⟩] pos) (zp8 j (X.env.qual++"<lambda>") fE fa):=by
 intro pS s Y H Q I ⟨G,w,Z,r,pp⟩
 refine wpAny_Call_Name_kw (zeA I hg hm (by rfl) ?_)
 refine callWith_kw (thn (zac ha zap hs pos pS s Y H (fun vs H1=>∃ G1 w1 ad xs kd Z1 res,vs=[.ref ad]/\zbv G H w G1 H1 w1/\Rel X.K C G1 w1 Z1 Y H1/\G1 ad=some (.lst xs)/\za1 X.K G1 (kd.map (·.2)) xs/\zgc fE (kd.map (·.2))=some kd/\zmn .non kd=some res/\Z1[j]? = some (some (.tab (X.env.qual++"<lambda>")))/\kE X.K C Y Q G1 H1 w1 (res,Z1)) I ?_) fun us s1 ⟨vs,H1,I1,r1,q1⟩=>?_) he hplain hall hkw
 ·refine ⟨G,w,Z,r,?_⟩
  unfold zp8 at pp
  unfold dA dA0
  cases e:fa Z with
  |ok z =>
   obtain ⟨d,Z1⟩:=z
   rw[e] at pp
   intro vs G1 H1 w1 s1 r1 q
   obtain ⟨v,t,rfl,q1,q2⟩:=q.cons_inv
   rw[q2.nil_inv]
   have p1:=zcp.step (κ:=fun G H w=>kE X.K C Y Q G H w) zcc s1 pp
   simp only[R.bind_ok] at p1
   split at p1
   ·rename_i ds q' ej
    split at p1
    ·rename_i hq
     subst hq
     split at p1
     ·rename_i kd ek
      split at p1
      ·rename_i res em
       obtain ⟨ad,zs,rfl,m1,m2⟩:=zba q1
       have es:=zjO ek
       exact ⟨G1,w1,ad,zs,kd,Z1,res,rfl,s1,r1,m1,by rw[es];exact m2,by rw[es];exact ek,em,ej,p1⟩
      ·exact False.elim p1
     ·exact False.elim p1
    ·exact False.elim p1
   ·exact False.elim p1
  |er n=>rw[e] at pp;exact pp
  |no=>rw[e] at pp;exact pp
 ·obtain ⟨G1,w1,ad,xs,kd,Z1,res,rfl,st1,rel1,hG,hreps,ek,em,hj,kk⟩:=q1
  obtain ⟨u,rfl,ru⟩:=zgM r1
  cases ru
  have hσj:Y[j]? = some (some (.ref P)):=by rw[rel1.pin j hpp];exact hσ0
  refine thn (znS (nm:=some "key") (kpos:=kp) (zrr LB hdef hcl) (znS (nm:=some "default") (kpos:=kp2) (zrw (j:=cj) (pos:=cp)) zuy) pos pS s1 Y H1 (fun vs H2=>∃ Fa c ctv G2,vs=[.ref Fa,.non]/\Rel X.K C G2 w1 Z1 Y H2/\zbv G1 H1 w1 G2 H2 w1/\G2 Fa=some (fHO Fa (kLo X params body scope [] c ctv))/\G2 c=some (cHO c (X.env.qual++"<lambda>"))) I1 ?_) fun ws s2 ⟨zs,H2,I2,r2,Fa,c,ctv,G2,e2,rel2,st2,gF,gc⟩=>?_
  ·exact zlF rel1 hj hσj fun Fa c ctv G2 H2 a1 a2 a3 a4=>⟨Fa,c,ctv,G2,rfl,a1,a2,a3,a4⟩
  subst e2
  cases r2 with
  |cons b1 t1 =>
   cases t1 with
   |cons b2 t2 =>
    cases t2
    cases b1;cases b2
    rw[hks]
    show wpAny _ _ (call (.builtin "min") [.ref ad] [(Str.ofString "key",.ref Fa),(Str.ofString "default",.none)]) _ _ _
    refine zoy (by have:=hr.un;omega) hr.hd I2 rel2 (st2.g _ _ hG) (hreps.same st2.g) (zpX hE S (hr.in1.mono xwo) hb gF gc ek) em fun v u s3 H4 G4 w4 I4 st4 rel4 hv rv=>⟨v,H4,I4,rv,?_⟩
    exact kk v G4 H4 w4 (st2.trans st4) rel4 hv
end
end PV
end
section
namespace PV
open PySem PySem.Spec L2
section
variable{prog:Program}{w:World}{A:Around}{E:Value->Shared->Prop}{s:Shared}
structure ZpM(h:Heap)(z TI TO i1 i2 l1 l2:Addr)(f0:Value)(k:Nat):Prop where
 z:IsZip h z TI TO f0
 ti:IsPair h TI (.ref i1) (.ref i2)
 to:∃ a b,IsPair h TO a b
 a1:h.IsTupleIter i1 l1 k
 a2:h.IsListIter i2 l2 k
theorem ZpM.keep{h h':Heap}{z TI TO i1 i2 l1 l2:Addr}{f0:Value}{k:Nat}(p:ZpM h z TI TO i1 i2 l1 l2 f0 k)(e:∀ b∈[z,TI,TO,i1,i2],∀ o,h.get? b=some o->h'.get? b=some o):ZpM h' z TI TO i1 i2 l1 l2 f0 k :=
 ⟨e z xws _ p.z,e TI xws _ p.ti,let ⟨a,b,q⟩:=p.to;⟨a,b,e TO xws _ q⟩,p.a1.at fun o q=>e i1 xws o q,p.a2.at fun o q=>e i2 xws o q⟩
variable{z TI TO i1 i2 l1 l2:Addr}{k:Nat}{xs ys:Array Value}
theorem zld{x y:Value}{Q:Value->Shared->Prop}(D:ZpD z TI TO i1 i2)(p:ZpM s.heap z TI TO i1 i2 l1 l2 .none k)(q1:s.heap.IsTuple l1 xs)(q2:s.heap.IsList l2 ys)(n1:∀ b∈[z,TI,TO,i1,i2],b≠l1)(n2:∀ b∈[z,TI,TO,i1,i2],b≠l2)
  (hx:xs[k]? = some x) (hy:ys[k]? = some y)
  (hQ:∀ h',ZpM h' z TI TO i1 i2 l1 l2 (rawInt s.heap.objs.size) (k+1)->h'.get? s.heap.objs.size=some { cls:=.type "tuple",data:=.seq #[x,y] }->(∀ c o,c≠z->c≠TO->c≠i1->c≠i2->s.heap.get? c=some o->h'.get? c=some o)->Q (.ref s.heap.objs.size) { s with heap:=h' }) :
  wpAny (model prog w) A (Builtin.«zip.__next__» ⟨[.ref z],[]⟩) (fun fin s'=>∃ v,fin=.done (.ret v)/\Q v s') E s:=by
 obtain ⟨pz,pti,⟨oa,ob,pto⟩,pa1,pa2⟩:=p
 show wpAny _ _ (field (.ref z) 2 >>= _) _ _ _
 refine bnd (wpAny_field pz rfl (x:=.bool false) rfl ?_)
 show wpAny _ _ (field (.ref z) 3 >>= _) _ _ _
 refine bnd (wpAny_field pz rfl (x:=.ref TI) rfl ?_)
 refine bnd (wpAny_seqItems pti rfl ?_)
 show wpAny _ _ (Builtin.SmallTypes.ownedTupleIsFree (.ref z) >>= _) _ _ _
 refine bnd ?_
 unfold Builtin.SmallTypes.ownedTupleIsFree
 refine bnd (wpAny_field pz rfl (x:=.none) rfl (wad ?_))
 simp only[if_true]
 refine bnd (wpAny_rule ?_)
 refine bnd (wpAny_field pz rfl (x:=.ref TO) rfl ?_)
 refine bnd (wpAny_setField_rec pz xws fun g1 pz1 sb1=>?_)
 have pz1:IsZip g1 z TI TO .ellipsis:=pz1
 refine bnd ?_
 simp only[List.zipIdx_cons,List.zipIdx_nil,List.forIn_cons,List.forIn_nil]
 refine bnd (wab (wpAny_onRaise ?_))
 show wpAny _ _ (Builtin.SmallTypes.nextOf (.ref i1) >>= _) _ _ _
 refine bnd (zlA (pa1.extBut sb1.extBut D.d3) (q1.extBut sb1.extBut (Ne.symm (n1 z xws))) hx fun g2 pa1' sb2=>wad ?_)
 have t2:IsPair g2 TO oa ob:=sb2.extBut _ _ D.d8 (sb1.extBut _ _ D.d2 pto)
 refine bnd (wpAny_seqItems t2 rfl ?_)
 refine bnd (wpAny_updateSeq_pair t2 fun g3 t3 sb3=>?_)
 have t3:IsPair g3 TO x ob:=t3
 refine bnd (wpAny_letGo (wad ?_))
 refine bnd (wab (wpAny_onRaise ?_))
 show wpAny _ _ (Builtin.SmallTypes.nextOf (.ref i2) >>= _) _ _ _
 refine bnd (wpAny_nextOf_list_item (((pa2.extBut sb1.extBut D.d4).extBut sb2.extBut D.d0.symm).extBut sb3.extBut D.d9.symm)
  (((q2.extBut sb1.extBut (Ne.symm (n2 z xws))).extBut sb2.extBut (Ne.symm (n2 i1 xws))).extBut sb3.extBut (Ne.symm (n2 TO xws))) hy fun g4 pa2' sb4=>wad ?_)
 have t4:IsPair g4 TO x ob:=sb4.extBut _ _ D.d9 t3
 refine bnd (wpAny_seqItems t4 rfl ?_)
 refine bnd (wpAny_updateSeq_pair t4 fun g5 t5 sb5=>?_)
 have t5:IsPair g5 TO x y:=t5
 refine bnd (wpAny_letGo (wad (wad ?_)))
 refine bnd (wpAny_seqItems t5 rfl ?_)
 refine bnd (wpAny_newTuple ?_)
 have sz:g5.objs.size=s.heap.objs.size:=by rw[sb5.1,sb4.1,sb3.1,sb2.1,sb1.1]
 have z5:IsZip g5 z TI TO .ellipsis:=sb5.extBut _ _ D.d2.symm (sb4.extBut _ _ D.d4.symm (sb3.extBut _ _ D.d2.symm (sb2.extBut _ _ D.d3.symm pz1)))
 have k5:∀ c o,c≠z->c≠TO->c≠i1->c≠i2->s.heap.get? c=some o->g5.get? c=some o:=fun c o c1 c2 c3 c4 e =>
  sb5.extBut _ _ c2 (sb4.extBut _ _ c4 (sb3.extBut _ _ c2 (sb2.extBut _ _ c3 (sb1.extBut _ _ c1 e))))
 have p1:g5.IsTupleIter i1 l1 (k+1):=((pa1'.extBut sb3.extBut D.d8.symm).extBut sb4.extBut D.d0).extBut sb5.extBut D.d8.symm
 have p2:g5.IsListIter i2 l2 (k+1):=pa2'.extBut sb5.extBut D.d9.symm
 have ltz:z<g5.objs.size:=wai z5
 show wpAny _ _ (Builtin.SmallTypes.ownedTupleHandOut (.ref z) (.ref g5.objs.size) >>= _) _ _ _
 refine bnd ?_
 unfold Builtin.SmallTypes.ownedTupleHandOut
 have z6:IsZip (g5.push { cls:=.type "tuple",data:=.seq #[x,y] }) z TI TO .ellipsis:=waa _ z5
 refine bnd (wpAny_setField_rec z6 xws fun g7 z7 sb7=>?_)
 have z7:IsZip g7 z TI TO (rawInt g5.objs.size):=z7
 refine wpAny_setField_rec z7 xws fun g8 z8 sb8=>?_
 have z8:IsZip g8 z TI TO (rawInt g5.objs.size):=z8
 have up:∀ c o,c≠z->g5.get? c=some o->g8.get? c=some o:=fun c o c1 e=>sb8.extBut _ _ c1 (sb7.extBut _ _ c1 (waa _ e))
 have t8:g8.get? g5.objs.size=some { cls:=.type "tuple",data:=.seq #[x,y] }:=sb8.extBut _ _ (Nat.ne_of_gt ltz) (sb7.extBut _ _ (Nat.ne_of_gt ltz) (waj _ rfl))
 rw[sz] at z8 t8
 refine wad ⟨_,rfl,?_⟩
 show Q (.ref g5.objs.size) _
 rw[sz]
 exact hQ g8 ⟨z8,up _ _ D.d1 (k5 _ _ D.d1 D.d5 D.d6 D.d7 pti),⟨x,y,up _ _ D.d2 t5⟩,p1.at fun o e=>up _ o D.d3 e,p2.at fun o e=>up _ o D.d4 e⟩ t8 fun c o c1 c2 c3 c4 e=>up c o c1 (k5 c o c1 c2 c3 c4 e)
theorem zm8{Q:PySem.Fin->Shared->Prop}(hh:A.handled=none)(D:ZpD z TI TO i1 i2)(p:ZpM s.heap z TI TO i1 i2 l1 l2 .none k)(q1:s.heap.IsTuple l1 xs)(n1:∀ b∈[z,TI,TO,i1,i2],b≠l1)
  (hx:xs[k]? = none)
  (hE:∀ h' e,(∀ c o,c≠z->c≠TO->c≠i1->c≠i2->s.heap.get? c=some o->h'.get? c=some o)->(∃ o,h'.get? e=some o/\o.cls=.type "StopIteration")->E (.ref e) { s with heap:=h' }) :
  wpAny (model prog w) A (Builtin.«zip.__next__» ⟨[.ref z],[]⟩) Q E s:=by
 obtain ⟨pz,pti,⟨oa,ob,pto⟩,pa1,pa2⟩:=p
 show wpAny _ _ (field (.ref z) 2 >>= _) _ _ _
 refine bnd (wpAny_field pz rfl (x:=.bool false) rfl ?_)
 show wpAny _ _ (field (.ref z) 3 >>= _) _ _ _
 refine bnd (wpAny_field pz rfl (x:=.ref TI) rfl ?_)
 refine bnd (wpAny_seqItems pti rfl ?_)
 show wpAny _ _ (Builtin.SmallTypes.ownedTupleIsFree (.ref z) >>= _) _ _ _
 refine bnd ?_
 unfold Builtin.SmallTypes.ownedTupleIsFree
 refine bnd (wpAny_field pz rfl (x:=.none) rfl (wad ?_))
 simp only[if_true]
 refine bnd (wpAny_rule ?_)
 refine bnd (wpAny_field pz rfl (x:=.ref TO) rfl ?_)
 refine bnd (wpAny_setField_rec pz xws fun g1 pz1 sb1=>?_)
 have pz1:IsZip g1 z TI TO .ellipsis:=pz1
 refine bnd ?_
 simp only[List.zipIdx_cons,List.zipIdx_nil,List.forIn_cons,List.forIn_nil]
 refine bnd (wab (wpAny_onRaise ?_))
 show wpAny _ _ (Builtin.SmallTypes.nextOf (.ref i1) >>= _) _ _ _
 refine bnd (zk4 hh (pa1.extBut sb1.extBut D.d3) (q1.extBut sb1.extBut (Ne.symm (n1 z xws))) hx fun g2 e sb2 he=>?_)
 obtain ⟨oe,e1,e2⟩:=he
 have z2:IsZip g2 z TI TO .ellipsis:=sb2 _ _ D.d3.symm pz1
 have ez:e≠z:=fun q=>by subst q;rw[z2] at e1;cases e1;simp at e2
 exact wpAny_setField_rec z2 xws fun g3 _ sb3=>hE g3 e (fun c o c1 _ c3 _ q=>sb3.extBut _ _ c1 (sb2 _ _ c3 (sb1.extBut _ _ c1 q))) ⟨oe,sb3.extBut _ _ ez e1,e2⟩
end
def Itm(K:W.Frag)(a b:Addr):It :=
 ⟨fun i H=>∃ xs ys x y,SqT K H a xs/\SqL K H b ys/\xs[i]? = some x/\ys[i]? = some y,
   fun i H v H'=>∃ p x y,v=.ref p/\H p=none/\H'=upd H p (.tup [x,y])/\(∀ xs,SqT K H a xs->xs[i]? = some x)/\∀ ys,SqL K H b ys->ys[i]? = some y,
   fun i H=>∃ xs,SqT K H a xs/\xs.length<=i⟩
theorem znN{P:Program}{w:World}{K:W.Frag}{elts:List Expr}{x1}{ps:Pos}{a b z TI TO i1 i2:Addr}(D:ZpD z TI TO i1 i2):zoO P w K (.Tuple elts x1 ps) (Itm K a b) [z,TI,TO,i1,i2] z (fun i h=>ZpM h z TI TO i1 i2 a b .none i) where
 mem:=by simp
 obj:=fun i h st c hc=>by
  obtain ⟨s1,s2,⟨oa,ob,s3⟩,⟨o4,s4,_,d4⟩,⟨o5,s5,_,d5⟩⟩:=st
  simp only[wap,wak,or_false] at hc
  rcases hc with rfl|rfl|rfl|rfl|rfl
  ·exact ⟨_,s1,fun v q=>by cases q⟩
  ·exact ⟨_,s2,fun v q=>by cases q⟩
  ·exact ⟨_,s3,fun v q=>by cases q⟩
  ·exact ⟨_,s4,fun v q=>by rw[d4] at q;cases q⟩
  ·exact ⟨_,s5,fun v q=>by rw[d5] at q;cases q⟩
 keep:=fun i h h' st k=>st.keep k
 item:=by
  intro X hP hw hK hc i pS s Y H E I hf st hg
  subst hP hw hK
  obtain ⟨xs,ys,x,y,q1,q2,hx,hy⟩:=hg
  obtain ⟨its,rv,p,hz⟩:=I.tuple q1
  obtain ⟨jts,rw',p',hz'⟩:=I.list q2
  obtain ⟨u,hu,ru⟩:=rv.get hx
  obtain ⟨v,hv,rv'⟩:=rw'.get hy
  have hT:s.TypeIs (.ref z) "zip":=⟨_,st.z,rfl⟩
  unfold pyNext
  refine wab (wpAny_attempt (wpAny_callSpecial?_slot (name:=Str.ofString "__next__") hT F.slot_zip_next (wpAny_call_entry F.slot_zip_next hT F.entry_zip_next
   (zld (l1:=a) (l2:=b) (k:=i) (x:=u) (y:=v) D st (show s.heap.IsTuple a its.toArray from p) p'.isList (fun c hc=>zo4 I (hf c hc) q1) (fun c hc=>zu5 I (hf c hc) q2) (by simpa using hu) (by simpa using hv) fun h' st' ht hk=>wad ?_) (F.args_zip_next_1 _))))
  refine ⟨_,rfl,wpAny_letOwnedTupleGo_zip st'.z fun h2 hz2 sb=>?_⟩
  have hzp:∀ c∈[z,TI,TO,i1,i2],c≠s.heap.objs.size:=fun c hc q=>by
   obtain ⟨s1,s2,⟨oa,ob,s3⟩,⟨o4,s4,_⟩,⟨o5,s5,_⟩⟩:=st
   simp only[wap,wak,or_false] at hc
   subst q
   rcases hc with rfl|rfl|rfl|rfl|rfl
   ·exact absurd (wai s1) (Nat.lt_irrefl _)
   ·exact absurd (wai s2) (Nat.lt_irrefl _)
   ·exact absurd (wai s3) (Nat.lt_irrefl _)
   ·exact absurd (wai s4) (Nat.lt_irrefl _)
   ·exact absurd (wai s5) (Nat.lt_irrefl _)
  have st2:ZpM h2 z TI TO i1 i2 a b .none (i+1):=by
   refine ⟨hz2,sb.extBut _ _ D.d1 st'.ti,?_,st'.a1.extBut sb.extBut D.d3,st'.a2.extBut sb.extBut D.d4⟩
   obtain ⟨oa,ob,q⟩:=st'.to
   exact ⟨oa,ob,sb.extBut _ _ D.d2 q⟩
  have hk2:∀ c ob,c∉[z,TI,TO,i1,i2]->s.heap.get? c=some ob->h2.get? c=some ob:=fun c ob nc e=>by
   simp only[wap,wak,or_false,not_or] at nc
   exact sb.extBut _ _ nc.1 (hk c ob nc.1 nc.2.2.1 nc.2.2.2.1 nc.2.2.2.2 e)
  have hth:∀ c ob,s.heap.get? c=some ob->∃ ob',h2.get? c=some ob':=fun c ob e=>by
   by_cases nc:c∈[z,TI,TO,i1,i2]
   ·obtain ⟨s1,s2,⟨oa,ob,s3⟩,⟨o4,s4,_⟩,⟨o5,s5,_⟩⟩:=st2
    simp only[wap,wak,or_false] at nc
    rcases nc with rfl|rfl|rfl|rfl|rfl
    ·exact ⟨_,s1⟩
    ·exact ⟨_,s2⟩
    ·exact ⟨_,s3⟩
    ·exact ⟨_,s4⟩
    ·exact ⟨_,s5⟩
   ·exact ⟨ob,hk2 c ob nc e⟩
  have hnew:h2.get? s.heap.objs.size=some { cls:=.type "tuple",data:=.seq #[u,v] }:=sb.extBut _ _ (Ne.symm (hzp z xws)) ht
  have IN:L2.Inv X pS Y (upd H s.heap.objs.size (.tup [x,y])) { s with heap:=h2 }:=zeW (s:=s) (t':=s.toks) (o:=.tup [x,y]) I hf hk2 (wal _) hth ⟨by show 2<=sizeLine;decide,[u,v],.cons ru (.cons rv' .nil),0,hnew⟩
  exact ⟨.ref s.heap.objs.size,_,IN,rfl,
   ⟨_,x,y,rfl,I.hok.fresh (wal _),rfl,fun zs q=>by rw[I.tuple_inj q q1];exact hx,fun zs q=>by rw[I.list_inj q q2];exact hy⟩,st2,fun c hc=>by rw[zah (hzp c hc)];exact (hf c hc).1⟩
 done:=by
  intro X hP hw hK hc i pS s Y H E I hf st hg
  subst hP hw hK
  obtain ⟨xs,q1,hx⟩:=hg
  obtain ⟨its,rv,p,hz⟩:=I.tuple q1
  have hl:=rv.length
  have hT:s.TypeIs (.ref z) "zip":=⟨_,st.z,rfl⟩
  unfold pyNext
  refine wab (wpAny_attempt (wpAny_callSpecial?_slot (name:=Str.ofString "__next__") hT F.slot_zip_next (wpAny_call_entry F.slot_zip_next hT F.entry_zip_next
   (zm8 (l1:=a) (l2:=b) (k:=i) (xs:=its.toArray) (I.ok.hd hc) D st (show s.heap.IsTuple a its.toArray from p) (fun c hc=>zo4 I (hf c hc) q1) (by simp;omega) fun h' e hk he=>?_) (F.args_zip_next_1 _))))
  obtain ⟨o,ho,hcl⟩:=he
  refine wab (wpAny_isInstance (T:="StopIteration") (b:=true) ⟨o,ho,hcl⟩ isSubtype_stop (wad ⟨rfl,?_⟩))
  refine zca (t':=s.toks) I hf fun c ob nc e=>?_
  simp only[wap,wak,or_false,not_or] at nc
  exact hk c ob nc.1 nc.2.2.1 nc.2.2.2.1 nc.2.2.2.2 e
 self:=fun _ _ _ _ _ st h=>wpAny_pyIter_zip st.z h
section
variable{prog:Program}{w:World}{A:Around}{E:Value->Shared->Prop}{s:Shared}
abbrev zm1(h:Heap)(a:Addr):Heap:=h.push { cls:=.type "tuple_iterator",data:=.fields #[.ref a,.int 0 0] }
abbrev zm2(h:Heap)(a b:Addr):Heap:=(zm1 h a).push { cls:=.type "list_iterator",data:=.fields #[.ref b,.int 0 0] }
abbrev zm3(h:Heap)(a b:Addr):Heap:=(zm2 h a b).push { cls:=.type "tuple",data:=.seq #[.ref h.objs.size,.ref (zm1 h a).objs.size] }
abbrev zm4(h:Heap)(a b:Addr):Heap:=(zm3 h a b).push { cls:=.type "tuple",data:=.seq #[.none,.none] }
abbrev zm5(h:Heap)(a b:Addr):Heap:=(zm4 h a b).push { cls:=.type "zip",data:=.fields #[.none,.bool false,.bool false,.ref (zm2 h a b).objs.size,.ref (zm3 h a b).objs.size] }
theorem zsA(a b:Addr)(xs ys:Array Value):Meets (Builtin.«zip.__new__» ⟨[.type "zip",.ref a,.ref b],[]⟩) (fun _ R s=>s.heap.IsTuple a xs/\s.heap.IsList b ys/\R (.ok (.ret (.ref (zm4 s.heap a b).objs.size))) { s with heap:=zm5 s.heap a b }) :=
 .of_wp fun prog w A R s h=>by
  obtain ⟨hp,g,d,tk,os⟩:=s
  obtain ⟨k1,k2,h⟩:=h
  have hsub:=sub_zip
  have t1:Heap.IsTuple (Shared.heap ⟨hp,g,d,tk,os⟩) a xs:=k1
  have t2:Heap.IsList (Shared.heap ⟨hp.push { cls:=.type "tuple_iterator",data:=.fields #[.ref a,.int 0 0] },g,d,tk,os⟩) b ys:=k2.at fun o e=>waa _ e
  wp_walk using wpAny_pyIter_tuple t1,wpAny_pyIter_list t2
  exact ⟨_,rfl,h⟩
theorem zqD{a b:Addr}{xs ys:Array Value}{Q:Value->Shared->Prop}(k1:s.heap.IsTuple a xs)(k2:s.heap.IsList b ys)
  (h:∀ h',ZpM h' (s.heap.objs.size+4) (s.heap.objs.size+2) (s.heap.objs.size+3) s.heap.objs.size (s.heap.objs.size+1) a b .none 0->(∀ c o,s.heap.get? c=some o->h'.get? c=some o)->Q (.ref (s.heap.objs.size+4)) { s with heap:=h' }) :
  wpAny (model prog w) A (call (.type "zip") [.ref a,.ref b]) Q E s:=by
 refine callType_new F.called_zip xwd (F.typeCall_zip_2 _ _) (F.newCall_zip_2 _ _) (fun obj=>F.args_object_init_3 obj _ _) F.entry_zip_new (zsA a b xs ys) ⟨k1,k2,?_⟩
 have e1:(zm1 s.heap a).objs.size=s.heap.objs.size+1:=Heap.size_push ..
 have e2:(zm2 s.heap a b).objs.size=s.heap.objs.size+2:=by rw[Heap.size_push,e1]
 have e3:(zm3 s.heap a b).objs.size=s.heap.objs.size+3:=by rw[Heap.size_push,e2]
 have e4:(zm4 s.heap a b).objs.size=s.heap.objs.size+4:=by rw[Heap.size_push,e3]
 have g5:(zm5 s.heap a b).get? (zm4 s.heap a b).objs.size=some _:=waj _ rfl
 have g4:(zm5 s.heap a b).get? (zm3 s.heap a b).objs.size=some _:=waa _ (waj _ rfl)
 have g3:(zm5 s.heap a b).get? (zm2 s.heap a b).objs.size=some _:=waa _ (waa _ (waj _ rfl))
 have g2:(zm5 s.heap a b).get? (zm1 s.heap a).objs.size=some _:=waa _ (waa _ (waa _ (waj _ rfl)))
 have g1:(zm5 s.heap a b).get? s.heap.objs.size=some _:=waa _ (waa _ (waa _ (waa _ (waj _ rfl))))
 show _/\_
 rw[e2,e3,e4] at g5
 rw[e1,e2] at g3
 rw[e3] at g4
 rw[e1] at g2
 rw[e4]
 exact ⟨⟨_,g5,rfl⟩,h _ ⟨g5,g3,⟨_,_,g4⟩,⟨_,g1,rfl,rfl⟩,⟨_,g2,rfl,rfl⟩⟩ fun c o q=>waa _ (waa _ (waa _ (waa _ (waa _ q))))⟩
end
def zqs(fa fb:De):DA:=fun Z=>(fa Z).bind fun a=>(fb a.2).bind fun b=>match a.1,b.1 with
 |.tup l,.lst r=>if l.length=r.length then .ok ((l.zip r).map fun z=>.tup [z.1,z.2],b.2) else .no
 |_,_=>.no
theorem zuu{K:W.Frag}{G:Hp}{a b:Addr}{vs us:List V}{ds es:List Dt}(hs:SqT K G a vs)(ht:G b=some (.lst us))(q:za1 K G ds vs)(q':za1 K G es us)(hl:ds.length=es.length):znm K (Itm K a b) G ((ds.zip es).map fun z=>.tup [z.1,z.2]):=fun i G1 H s1 s2=>by
 have h1:=zaD s2 (zaD s1 hs)
 have h2:SqL K H b us:=SqL.of (s2 _ _ (s1 _ _ ht))
 refine ⟨fun d e=>?_,fun h=>⟨vs,h1,?_⟩⟩
 ·rw[List.getElem?_map] at e
  have hi:i<ds.length:=by
   by_cases hi:i<ds.length
   ·exact hi
   ·rw[List.getElem?_eq_none (by rw[List.length_zip];omega)] at e;cases e
  have z1:ds[i]? = some ds[i]:=by simp[hi]
  have z2:es[i]? = some (es[i]'xwo):=by simp[show i<es.length by omega]
  obtain ⟨v,e1,e2⟩:=q.get z1
  obtain ⟨u,e3,e4⟩:=q'.get z2
  have ed:d=.tup [ds[i],es[i]'xwo]:=by
   rw[(List.getElem?_zip_eq_some (z:=(ds[i],es[i]'xwo))).mpr ⟨z1,z2⟩] at e
   exact (waB e).symm
  refine ⟨⟨vs,us,v,u,h1,h2,e1,e3⟩,fun x H' y=>?_⟩
  obtain ⟨p,x',y',rfl,hp,rfl,k1,k2⟩:=y
  have kx:=k1 vs h1
  have ky:=k2 us h2
  rw[e1] at kx;rw[e3] at ky
  cases kx;cases ky
  have gr:zdU G1 H (upd G1 p (.tup [v,u])) (upd H p (.tup [v,u])):=.new s2 hp
  refine ⟨_,gr,?_⟩
  rw[ed]
  unfold Rep
  exact ⟨p,[v,u],rfl,zhM.of zan,za1.cons ((e2.same s1).same gr.g) (za1.cons ((e4.same s1).same gr.g) za1.nil)⟩
 ·rw[<- q.length]
  simpa [hl] using h
section
variable{X:Cx}{C:Cn}{elts:List Expr}{x1:Nat}{pt:Pos}{a b:Expr}{fa fb:De}{p pos:Pos}
theorem zsl(hg:Gl X "zip")(hm:X.mg "zip"=none)(ha:JE X C a fa)(hb:JE X C b fb)(hs:starEach [a,b] X.env=(false,eval a X.env)::starEach [b] X.env:=by rfl)(hs2:starEach [b] X.env=(false,eval b X.env)::starEach [] X.env:=by rfl)(hpl:(backTo pos (starEach [b] X.env)).any (·.1)=false:=by rfl) :
  JI X C (.Tuple elts x1 pt) (.Call (.Name "zip" p) [a,b] [] pos) (zqs fa fb):=by
 intro pS s Y H R I ⟨G,w,Z,r,pp⟩
 refine PyProof.Rows.Call_ (zeA I hg hm PyProof.Rows.boot_zip (PyProof.Rows.callWith_type1 (thn (zac ha (zac hb zap hs2) hs pos pS s Y H (fun vs H1=>∃(l1 l2:Addr)(xs ys:List V),vs=[.ref l1,.ref l2]/\SqT X.K H1 l1 xs/\SqL X.K H1 l2 ys/\R (Itm X.K l1 l2) H1) I ?_) fun us s1 ⟨vs,H1,I1,r1,q1⟩=>?_) hs hpl))
 ·refine ⟨G,w,Z,r,?_⟩
  unfold zqs at pp
  unfold dA dA0
  cases e:fa Z with
  |ok x =>
   obtain ⟨d,Z1⟩:=x
   rw[e] at pp
   simp only[PV.R.bind_ok] at pp ⊢
   cases e2:fb Z1 with
   |ok y =>
    obtain ⟨d2,Z2⟩:=y
    rw[e2] at pp
    simp only[PV.R.bind_ok] at pp ⊢
    intro vs G1 H1 w1 s1 r1 q
    obtain ⟨v,u,rfl,k1,k2⟩:=zs5 q
    cases d with
    |tup l =>
     cases d2 with
     |lst l' =>
      dsimp only at pp
      by_cases hl:l.length=l'.length
      ·rw[if_pos hl] at pp
       obtain ⟨a1,xs,rfl,m1,m2⟩:=zbK k1
       obtain ⟨a2,ys,rfl,m3,m4⟩:=zba k2
       exact ⟨a1,a2,xs,ys,rfl,zaD r1.gh m1,SqL.of (r1.gh _ _ m3),pp _ G1 H1 w1 s1 r1 (zuu m1 m3 m2 m4 hl)⟩
      ·rw[if_neg hl] at pp;exact pp.elim
     |_=>exact False.elim pp
    |_=>exact False.elim pp
   |er n=>rw[e2] at pp;exact pp
   |no=>rw[e2] at pp;exact pp
  |er n=>rw[e] at pp;exact pp
  |no=>rw[e] at pp;exact pp
 ·obtain ⟨l1,l2,xs,ys,rfl,k1,k2,q⟩:=q1
  obtain ⟨u1,u2,rfl,c1,c2⟩ : ∃ u1 u2,us=[u1,u2]/\zbo (.ref l1) u1/\zbo (.ref l2) u2:=by
   cases r1 with
   |cons h1 t=>cases t with
    |cons h2 t2=>cases t2;exact ⟨_,_,rfl,h1,h2⟩
  cases c1;cases c2
  obtain ⟨its,rv,p1,_⟩:=I1.tuple k1
  obtain ⟨jts,rw',p2,_⟩:=I1.list k2
  refine zqD (show s1.heap.IsTuple l1 its.toArray from p1) p2.isList fun h' zp hk=>?_
  refine wpAny_pyIter_zip zp.z ?_
  have D:ZpD (s1.heap.objs.size+4) (s1.heap.objs.size+2) (s1.heap.objs.size+3) s1.heap.objs.size (s1.heap.objs.size+1):=ztG _
  refine ⟨s1.heap.objs.size+4,[s1.heap.objs.size+4,s1.heap.objs.size+2,s1.heap.objs.size+3,s1.heap.objs.size,s1.heap.objs.size+1],_,_,H1,rfl,I1.kept (t':=s1.toks) hk,znN D,zp,fun c hc=>?_,q⟩
  have hle:s1.heap.objs.size<=c:=by
   simp only[wap,wak,or_false] at hc
   rcases hc with rfl|rfl|rfl|rfl|rfl
   ·exact Nat.le_add_right ..
   ·exact Nat.le_add_right ..
   ·exact Nat.le_add_right ..
   ·exact wal _
   ·exact Nat.le_add_right ..
  exact I1.fpOk hle (I1.hok.fresh hle)
end
open AutoSeq1 (wpAny_loadPart')
theorem zhk{prog:Program}{w:World}{A:Around}(hh:A.handled=none)(it l:Addr)(hne:l≠it)(items:Array Value) :
  Draws prog w A it [it,l] items.size (fun i v=>items[i]? = some v) (fun i h=>h.IsTupleIter it l i/\h.IsTuple l items) where
 live:=fun _ _ st=>let ⟨o,ho,_⟩:=st.1;⟨o,ho⟩
 frame:=fun _ _ _ st hk=>⟨st.1.at fun o e=>hk it xws o e,let ⟨o,e,r⟩:=st.2;⟨o,hk l xws o e,r⟩⟩
 item:=fun i s Q E hi st hQ=>by
  refine zlA st.1 st.2 (x:=items[i]) (by simp[hi]) fun h' hit' hs'=>?_
  exact hQ _ h' s.toks (by simp[hi]) ⟨hit',st.2.extBut hs'.extBut hne⟩ hs'
 done:=fun s Q E st hE=>zk4 hh st.1 st.2 xws hE
section
variable{prog:Program}{w:World}{A:Around}{E:Value->Shared->Prop}{s:Shared}
theorem zo7{e it l:Addr}{i:Nat}{items:Array Value}{old:Value}{Q:Option Value->Shared->Prop}(hh:A.handled=none)
  (he:IsEnum s.heap e it i old) (hit:s.heap.IsTupleIter it l i) (hl:s.heap.IsTuple l items) (hx:items[i]? = none)
  (hQ:∀ h',Heap.ExtBut it s.heap h'->Q none { s with heap:=h' }):wpAny (model prog w) A (pyNext (.ref e)) Q E s:=by
 have hT:s.TypeIs (.ref e) "enumerate":=⟨_,he,rfl⟩
 unfold pyNext
 refine wab (wpAny_attempt (wpAny_callSpecial?_slot (name:=Str.ofString "__next__") hT F.slot_enumerate_next
  (wpAny_call_entry F.slot_enumerate_next hT F.entry_enumerate_next ?_ (F.args_enumerate_next_1 _))))
 show wpAny _ _ (field (.ref e) 2 >>= _) _ _ _
 refine wab (wpAny_field he rfl (x:=.ref it) rfl ?_)
 refine wab (zk4 (show A.in1.handled=none from hh) hit hl hx fun h' x he' hx'=>?_)
 obtain ⟨o,ho,hc⟩:=hx'
 refine wab (wpAny_isInstance (T:="StopIteration") (b:=true) ⟨o,ho,hc⟩ isSubtype_stop ?_)
 exact wad (hQ _ he')
end
theorem ze6(l:Addr)(items:Array Value)(n:Nat)(dct:Option Addr)(sl:Array (Option Value)) :
  Meets (Builtin.«enumerate.__new__» ⟨[.type "enumerate",.ref l],[]⟩) (fun _ R s=>s.heap.get? l=some { cls:=.type "tuple",dict:=dct,data:=.seq items n,slots:=sl } /\
   R (.ok (.ret (.ref (s.heap.push { cls:=.type "tuple_iterator",data:=.fields #[.ref l,.int 0 0] }).objs.size)))
    { s with heap:=(s.heap.push { cls:=.type "tuple_iterator",data:=.fields #[.ref l,.int 0 0] }).push { cls:=.type "enumerate",data:=.fields #[.none,.bool false,.ref s.heap.objs.size,rawInt 0,.none,.none] } }) :=
 .of_wp fun prog w A R s h=>by
  obtain ⟨hp,g,d,tk,os⟩:=s;obtain ⟨hl,h⟩:=h
  have hsub:=sub_enumerate
  have hL:Heap.IsTuple (Shared.heap ⟨hp,g,d,tk,os⟩) l items:=⟨_,hl,rfl,n,rfl⟩
  wp_walk using wpAny_loadPart' hl
  refine wpAny_stack_any fun st=>wad ?_
  split
  ·rename_i c _ _ _ _ _
   cases (c == Value.type "enumerate")
   ·wp_walk using wpAny_loadPart' hl,wpAny_pyIter_tuple hL
    exact ⟨_,rfl,h⟩
   ·wp_walk using wpAny_loadPart' hl,wpAny_pyIter_tuple hL
    exact ⟨_,rfl,h⟩
  ·wp_walk using wpAny_loadPart' hl,wpAny_pyIter_tuple hL
   exact ⟨_,rfl,h⟩
theorem ze7{prog:Program}{w:World}{A:Around}{E:Value->Shared->Prop}{s:Shared}{l:Addr}{items:Array Value}{Q:Value->Shared->Prop}(hL:s.heap.IsTuple l items)
  (h:∀ h',IsEnum h' (s.heap.objs.size+1) s.heap.objs.size 0 .none->h'.IsTupleIter s.heap.objs.size l 0->h'.objs.size=s.heap.objs.size+2 ->
   (∀ b o,s.heap.get? b=some o->h'.get? b=some o)->Q (.ref (s.heap.objs.size+1)) { s with heap:=h' }) :
  wpAny (model prog w) A (call (.type "enumerate") [.ref l]) Q E s:=by
 obtain ⟨⟨c,dct,dt,sl⟩,hl,hc,n,hd⟩:=hL
 replace hc:c=.type "tuple":=hc
 replace hd:dt=.seq items n:=hd
 subst hc hd
 refine callType_new F.called_enumerate xwd (F.typeCall_enumerate_1 _) (F.newCall_enumerate_1 _) (fun obj=>F.args_object_init_2 obj _) F.entry_enumerate_new
  (ze6 l items n dct sl) ⟨hl,?_⟩
 have hz:(s.heap.push { cls:=.type "tuple_iterator",data:=.fields #[.ref l,.int 0 0] }).objs.size=s.heap.objs.size+1:=Heap.size_push ..
 show _/\_
 rw[hz]
 have he:IsEnum ((s.heap.push { cls:=.type "tuple_iterator",data:=.fields #[.ref l,.int 0 0] }).push
   { cls:=.type "enumerate",data:=.fields #[.none,.bool false,.ref s.heap.objs.size,rawInt 0,.none,.none] }) (s.heap.objs.size+1) s.heap.objs.size 0 .none:=by
  have:=waj (s.heap.push { cls:=.type "tuple_iterator",data:=.fields #[.ref l,.int 0 0] })
   (o:={ cls:=.type "enumerate",data:=.fields #[.none,.bool false,.ref s.heap.objs.size,rawInt 0,.none,.none] }) rfl
  rw[hz] at this;exact this
 refine ⟨⟨_,he,rfl⟩,h _ he ⟨_,waa _ (waj _ rfl),rfl,rfl⟩ (by rw[Heap.size_push,hz]) fun b o x=>waa _ (waa _ x)⟩
def zv0(K:W.Frag)(a:Addr):It :=
 ⟨fun i H=>∃ xs x,SqT K H a xs/\xs[i]? = some x,
   fun i H v H'=>∃ p x,v=.ref p/\H p=none/\H'=upd H p (.tup [.int (i:Nat),x])/\∀ xs,SqT K H a xs->xs[i]? = some x,
   fun i H=>∃ xs,SqT K H a xs/\xs.length<=i⟩
structure EpT(h:Heap)(e it l:Addr)(i:Nat):Prop where
 e:∃ old,IsEnum h e it i old
 a:h.IsTupleIter it l i
theorem EpT.keep{h h':Heap}{e it l:Addr}{i:Nat}(p:EpT h e it l i)(k:∀ b∈[e,it],∀ o,h.get? b=some o->h'.get? b=some o):EpT h' e it l i :=
 ⟨let ⟨old,q⟩:=p.e;⟨old,k e xws _ q⟩,p.a.at fun o q=>k it xws o q⟩
theorem znj{P:Program}{w:World}{K:W.Frag}{elts:List Expr}{x1}{ps:Pos}{a e it:Addr}(hne:e≠it):zoO P w K (.Tuple elts x1 ps) (zv0 K a) [e,it] e (fun i h=>EpT h e it a i) where
 mem:=by simp
 obj:=fun i h st c hc=>by
  obtain ⟨⟨old,s1⟩,⟨o4,s4,_,d4⟩⟩:=st
  simp only[wap,wak,or_false] at hc
  rcases hc with rfl|rfl
  ·exact ⟨_,s1,fun v q=>by cases q⟩
  ·exact ⟨_,s4,fun v q=>by rw[d4] at q;cases q⟩
 keep:=fun i h h' st k=>st.keep k
 item:=by
  intro X hP hw hK hc i pS s Y H E I hf st hg
  subst hP hw hK
  obtain ⟨xs,x,q1,hx⟩:=hg
  obtain ⟨its,rv,p,hz⟩:=I.tuple q1
  obtain ⟨u,hu,ru⟩:=rv.get hx
  obtain ⟨old,he⟩:=st.e
  have D:=zhk (prog:=X.prog) (w:=X.w) (A:=X.A.in1) (I.ok.hd hc) it a (Ne.symm (zo4 I (hf it xws) q1)) its.toArray
  refine wpAny_pyNext_enum_itemD D he ⟨st.a,show s.heap.IsTuple a its.toArray from p⟩ (by simpa using (wam.mp hu).1) hne (by simp[hne,zo4 I (hf e xws) q1]) fun x' h' tk hP a1 a2 a3 a4 a5=>?_
  have ex:x'=u:=by
   have:=hP
   rw[show its.toArray[i]? = some u by simpa using hu] at this
   exact (waB this).symm
  subst ex
  refine ⟨_,rfl,wpAny_letOwnedTupleGo_enum a1 fun h2 he2 sb=>?_⟩
  have hel:e<s.heap.objs.size:=wai he
  have hitl:it<s.heap.objs.size:=by obtain ⟨o,ho,_⟩:=st.a;exact wai ho
  have hzp:∀ c∈[e,it],c≠s.heap.objs.size:=fun c hc q=>by
   simp only[wap,wak,or_false] at hc
   rcases hc with rfl|rfl
   ·exact absurd (q ▸ hel) (Nat.lt_irrefl _)
   ·exact absurd (q ▸ hitl) (Nat.lt_irrefl _)
  have st2:EpT h2 e it a (i+1):=⟨⟨_,he2⟩,a2.1.extBut sb.extBut (Ne.symm hne)⟩
  have hk2:∀ c ob,c∉[e,it]->s.heap.get? c=some ob->h2.get? c=some ob:=fun c ob nc q=>by
   simp only[wap,wak,or_false,not_or] at nc
   exact sb.extBut _ _ nc.1 (a5 c ob nc.1 nc.2 q)
  have hth:∀ c ob,s.heap.get? c=some ob->∃ ob',h2.get? c=some ob':=fun c ob q=>by
   by_cases nc:c∈[e,it]
   ·simp only[wap,wak,or_false] at nc
    obtain ⟨⟨o1,s1⟩,⟨o4,s4,_⟩⟩:=st2
    rcases nc with rfl|rfl
    ·exact ⟨_,s1⟩
    ·exact ⟨_,s4⟩
   ·exact ⟨ob,hk2 c ob nc q⟩
  have hnew:h2.get? s.heap.objs.size=some { cls:=.type "tuple",data:=.seq #[.int i tk,x'] }:=sb.extBut _ _ (Ne.symm (hzp e xws)) a3
  have IN:L2.Inv X pS Y (upd H s.heap.objs.size (.tup [.int (i:Nat),x])) { s with heap:=h2,toks:=tk+1 }:=zeW (s:=s) (t':=tk+1) (o:=.tup [.int (i:Nat),x]) I hf hk2 (wal _) hth ⟨by show 2<=sizeLine;decide,[.int i tk,x'],.cons ⟨_,rfl⟩ (.cons ru .nil),0,hnew⟩
  exact ⟨.ref s.heap.objs.size,_,IN,rfl,
   ⟨_,x,rfl,I.hok.fresh (wal _),rfl,fun zs q=>by rw[I.tuple_inj q q1];exact hx⟩,st2,fun c hc=>by rw[zah (hzp c hc)];exact (hf c hc).1⟩
 done:=by
  intro X hP hw hK hc i pS s Y H E I hf st hg
  subst hP hw hK
  obtain ⟨xs,q1,hx⟩:=hg
  obtain ⟨its,rv,p,hz⟩:=I.tuple q1
  have hl:=rv.length
  obtain ⟨old,he⟩:=st.e
  have D:=zhk (prog:=X.prog) (w:=X.w) (A:=X.A.in1) (I.ok.hd hc) it a (Ne.symm (zo4 I (hf it xws) q1)) its.toArray
  have hge:its.toArray.size<=i:=by simp;omega
  refine zo7 (I.ok.hd hc) he st.a (show s.heap.IsTuple a its.toArray from p) (by simp;omega) fun h' hk=>⟨rfl,?_⟩
  refine zca (t':=s.toks) I hf fun c ob nc q=>?_
  simp only[wap,wak,or_false,not_or] at nc
  exact hk c ob nc.2 q
 self:=fun _ _ _ _ _ st h=>let ⟨_,he⟩:=st.e;wpAny_pyIter_enum he h
def zlG(fa:De):DA:=fun Z=>(fa Z).bind fun a=>match a.1 with
 |.tup l=>.ok (zf8 l,a.2)
 |_=>.no
theorem zse{K:W.Frag}{G:Hp}{a:Addr}{vs:List V}{ds:List Dt}(hs:SqT K G a vs)(q:za1 K G ds vs):znm K (zv0 K a) G (zf8 ds):=fun i G1 H s1 s2=>by
 have h1:SqT K H a vs:=zaD s2 (zaD s1 hs)
 refine ⟨fun d e=>?_,fun h=>⟨vs,h1,?_⟩⟩
 ·unfold zf8 at e
  rw[List.getElem?_map] at e
  have hi:i<ds.length:=by
   by_cases hi:i<ds.length
   ·exact hi
   ·rw[List.getElem?_eq_none (by rw[List.length_zip,List.length_range];omega)] at e;cases e
  have z1:(List.range ds.length)[i]? = some i:=by simp[hi]
  have z2:ds[i]? = some ds[i]:=by simp[hi]
  obtain ⟨v,e1,e2⟩:=q.get z2
  have ed:d=.tup [.int (i:Nat),ds[i]]:=by
   rw[(List.getElem?_zip_eq_some (z:=(i,ds[i]))).mpr ⟨z1,z2⟩] at e
   exact (waB e).symm
  refine ⟨⟨vs,v,h1,e1⟩,fun x H' y=>?_⟩
  obtain ⟨p,x',rfl,hp,rfl,k1⟩:=y
  have kx:=k1 vs h1
  rw[e1] at kx
  cases kx
  have gr:zdU G1 H (upd G1 p (.tup [.int (i:Nat),v])) (upd H p (.tup [.int (i:Nat),v])):=.new s2 hp
  refine ⟨_,gr,?_⟩
  rw[ed]
  unfold Rep
  exact ⟨p,[.int (i:Nat),v],rfl,zhM.of zan,za1.cons (za5 _) (za1.cons ((e2.same s1).same gr.g) za1.nil)⟩
 ·rw[<- q.length]
  unfold zf8 at h
  simpa using h
section
variable{X:Cx}{C:Cn}{elts:List Expr}{x1:Nat}{pt:Pos}{a:Expr}{fa:De}{p pos:Pos}
theorem zqb(hg:Gl X "enumerate")(hm:X.mg "enumerate"=none)(ha:JE X C a fa)(hs:starEach [a] X.env=(false,eval a X.env)::starEach [] X.env:=by rfl)(hpl:(backTo pos (starEach [] X.env)).any (·.1)=false:=by rfl) :
  JI X C (.Tuple elts x1 pt) (.Call (.Name "enumerate" p) [a] [] pos) (zlG fa):=by
 intro pS s Y H R I ⟨G,w,Z,r,pp⟩
 refine PyProof.Rows.Call_ (zeA I hg hm PyProof.Rows.boot_enumerate (PyProof.Rows.callWith_type1 (thn (zac ha zap hs pos pS s Y H (fun vs H1=>∃(l1:Addr)(xs:List V),vs=[.ref l1]/\SqT X.K H1 l1 xs/\R (zv0 X.K l1) H1) I ?_) fun us s1 ⟨vs,H1,I1,r1,q1⟩=>?_) hs hpl))
 ·refine ⟨G,w,Z,r,?_⟩
  unfold zlG at pp
  unfold dA dA0
  cases e:fa Z with
  |ok x =>
   obtain ⟨d,Z1⟩:=x
   rw[e] at pp
   simp only[PV.R.bind_ok] at pp ⊢
   intro vs G1 H1 w1 s1 r1 q
   obtain ⟨v,rfl,k1⟩:=zf0 q
   cases d with
   |tup l =>
    obtain ⟨a1,xs,rfl,m1,m2⟩:=zbK k1
    exact ⟨a1,xs,rfl,zaD r1.gh m1,pp _ G1 H1 w1 s1 r1 (zse m1 m2)⟩
   |_=>exact False.elim pp
  |er n=>rw[e] at pp;exact pp
  |no=>rw[e] at pp;exact pp
 ·obtain ⟨l1,xs,rfl,k1,q⟩:=q1
  obtain ⟨u1,rfl,c1⟩:=zgM r1
  cases c1
  obtain ⟨its,rv,p1,_⟩:=I1.tuple k1
  refine ze7 (show s1.heap.IsTuple l1 its.toArray from p1) fun h' he hit hz hk=>?_
  refine wpAny_pyIter_enum he ?_
  refine ⟨s1.heap.objs.size+1,[s1.heap.objs.size+1,s1.heap.objs.size],_,_,H1,rfl,I1.kept (t':=s1.toks) hk,znj (by intro h;have h:(s1.heap.objs.size+1:Nat)=s1.heap.objs.size:=h;omega),⟨⟨_,he⟩,hit⟩,fun c hc=>?_,q⟩
  have hle:s1.heap.objs.size<=c:=by
   simp only[wap,wak,or_false] at hc
   rcases hc with rfl|rfl
   ·exact Nat.le_add_right ..
   ·exact wal _
  exact I1.fpOk hle (I1.hok.fresh hle)
end
end PV
end
section
namespace PV
open PySem PySem.Spec L2 PyProof.Rows
section
variable{prog:Program}{w:World}{A:Around}{E:Value->Shared->Prop}{s:Shared}
theorem zjV{it t:Addr}{items:Array Value}(hne:t≠it):∀(n i:Nat)(s:Shared)(Q:List Value->Shared->Prop),s.heap.IsListIter it t i->s.heap.IsList t items->i+n<=items.size ->
  (∀ h',h'.IsListIter it t (i+n)->Heap.SameBut it s.heap h'->Q ((items.toList.drop i).take n) { s with heap:=h' })->wpAny (model prog w) A (draw (.ref it) n) Q E s
 |0,i,s,Q,hit,_,_,hQ=>by
  show wpAny _ _ (pure []) Q E s
  exact wad (by simpa using hQ s.heap hit (Heap.SameBut.refl ..))
 |n+1,i,s,Q,hit,ht,hle,hQ=>by
  have hlt:i<items.size:=by omega
  show wpAny _ _ (pyNext (.ref it) >>= _) Q E s
  refine wab (wpAny_pyNext_list_item hit ht (x:=items[i]) (by simp[hlt]) fun h₁ hit₁ hs₁=>?_)
  refine wab (wpAny_holding (zjV hne n (i+1) _ _ hit₁ (ht.extBut hs₁.extBut hne) xwo fun h₂ hit₂ hs₂=>wad ?_))
  have hd:items.toList.drop i=items[i]::items.toList.drop (i+1):=by simp[List.drop_eq_getElem_cons,hlt]
  have:=hQ h₂ (by rw[show i+(n+1)=i+1+n by omega];exact hit₂) (hs₁.trans hs₂)
  rw[hd,List.take_succ_cons] at this
  exact this
theorem zgK{t:Addr}{items:Array Value}{Q:List Value->Shared->Prop}(hh:A.handled=none)(ht:s.heap.IsList t items)
  (hQ:∀ h',Heap.ExtBut s.heap.objs.size s.heap h'->Q items.toList { s with heap:=h' }):wpAny (model prog w) A (unpackItems (.ref t) items.size none) Q E s:=by
 have hlt:t≠s.heap.objs.size:=by obtain ⟨o,ho,_⟩:=ht;exact Nat.ne_of_lt (wai ho)
 unfold unpackItems
 refine wab ?_
 ·unfold notIterableAtAll
  refine wab (wpAny_specialOf ht.typeIs PySem.F.slot_list_iter.lookup ?_)
  refine wad ?_
  simp only[Bool.false_eq_true,if_false]
  refine wab (wpAny_holding (wpAny_pyIter_list ht ?_))
  have ht0:(s.heap.push { cls:=.type "list_iterator",data:=.fields #[.ref t,.int 0 0] }).IsList t items:=ht.at fun o e=>waa _ e
  refine wab (wpAny_holding (zjV hlt items.size 0 _ _ ⟨_,waj _ rfl,rfl,rfl⟩ ht0 xwo fun h₁ hit₁ hs₁=>?_))
  have hall:List.take items.size (List.drop 0 items.toList)=items.toList:=by
   rw[List.drop_zero];exact List.take_of_length_le xws
  rw[hall]
  rw[if_neg xws]
  have ht₁:h₁.IsList t items:=ht0.extBut hs₁.extBut hlt
  refine wab (wpAny_holding (wpAny_pyNext_list_end hh hit₁ ht₁ xws fun h₂ he₂=>?_))
  simp only[Option.isSome_none,Bool.false_eq_true,if_false]
  refine wad (hQ h₂ fun b o hb e=>he₂ b o hb (hs₁.extBut b o hb (waa _ e)))
theorem zfL{env:Env}{elts:List Expr}{x1}{pos:Pos}{t:Addr}{items:Array Value}{Q:Unit->Shared->Prop}(hh:A.handled=none)(ht:s.heap.IsList t items)
  (hn:(assignEach elts env).length=items.size) (hstar:(assignEach elts env).findIdx? (·.1)=none)
  (h:∀ h',Heap.ExtBut s.heap.objs.size s.heap h'->wpAny (model prog w) A (assignInOrder ((assignEach elts env).map (·.2)) items.toList) Q E { s with heap:=h' }) :
  wpAny (model prog w) A (assign (.Tuple elts x1 pos) env (.ref t)) Q E s:=by
 rw[assign_Tuple]
 refine wab (wpAny_standAt ?_)
 unfold unpack
 rw[hn,hstar]
 exact wab (wpAny_holding (zgK hh ht h))
end
section
variable{X:Cx}{C:Cn}{pos:Pos}
def zej:List Nat->List Dt->Ev->R Ev
 |[],[],Z=>.ok Z
 |i::is,d::ds,Z=>if i < Z.length then zej is ds (Z.set i (some (.val d))) else .no
 |_,_,_=>.no
def zmF(is:List Nat):DG:=fun d Z=>match d with
 |.tup l=>zej is l Z
 |_=>.no
def ziB(is:List Nat):DG:=fun d Z=>match d with
 |.lst l=>zej is l Z
 |_=>.no
theorem zhs:∀{is:List Nat}{ds:List Dt}{Z:Ev}{n:Nat},zej is ds Z≠.er n
 |[],[],_,_,h=>by cases h
 |[],_::_,_,_,h=>by cases h
 |_::_,[],_,_,h=>by cases h
 |i::is,d::ds,Z,n,h=>by
  unfold zej at h
  split at h
  ·exact zhs h
  ·cases h
def PNs(X:Cx)(C:Cn)(es:List Expr)(is:List Nat):Prop:=∀(pS:List (Addr×Obj))(s:Shared)(Y:L2.St)(H:Hp)(vs:List V)(us:List Value)(ds:List Dt)(G:Hp)(w:Wn)(Z Z':Ev)(Q:L2.St->Hp->Prop),L2.Inv X pS Y H s->zbc vs us->Rel X.K C G w Z Y H->za1 X.K G ds vs->zej is ds Z=.ok Z' ->
 (∀ Y',Rel X.K C G w Z' Y' H->Q Y' H)->wpAny (model X.prog X.w) X.A (assignInOrder ((assignEach es X.env).map (·.2)) us) (fun _ s'=>∃ Y' H',L2.Inv X pS Y' H' s'/\Q Y' H') X.xe s
theorem zkM:PNs X C [] []:=fun pS s Y H vs us ds G w Z Z' Q I r rel hr e k=>by
 cases ds with
 |nil =>
  rw[hr.nil_inv] at r
  cases r
  cases e
  exact assignInOrder_nil ⟨Y,H,I,k Y rel⟩
 |cons d ds=>cases e
theorem zcg{i:Nat}{x:Str}{p:Pos}{es:List Expr}{is:List Nat}(hN:X.N.Nodup)(hi:X.N[i]? = some x)(hx:Loc X.env.scope x)(hp:i∉C.pp)(h:PNs X C es is)(hf:X.fn x=true\/X.env.scope.names.lookup x=some .local:=by exact xwA)
  (hs:(assignEach (.Name x p::es) X.env).map (·.2)=assign (.Name x p) X.env::(assignEach es X.env).map (·.2):=by rfl):PNs X C (.Name x p::es) (i::is):=fun pS s Y H vs us ds G w Z Z' Q I r rel hr e k=>by
 cases ds with
 |nil=>cases e
 |cons d ds =>
  obtain ⟨v,t,rfl,q1,q2⟩:=hr.cons_inv
  unfold zej at e
  split at e
  ·rename_i hl
   cases r with
   |cons r rr =>
    rw[hs]
    refine assignInOrder_cons (thn (zi7 (pos:=p) hN hi hx hf pS s Y H _ _ (fun Y1 H1=>Y1 = Y.set i (some v)/\H1=H) I r ⟨rfl,rfl⟩) fun _ s1 ⟨Y1,H1,I1,e1,e2⟩=>?_)
    subst e1 e2
    exact h pS s1 _ H1 t _ ds G w _ Z' Q I1 rr (rel.setVal hl hp q1) q2 e k
  ·cases e
theorem zfK:∀{is:List Nat}{ds:List Dt}{Z Z':Ev},zej is ds Z=.ok Z'->ds.length=is.length
 |[],[],_,_,_=>rfl
 |[],_::_,_,_,h=>by cases h
 |_::_,[],_,_,h=>by cases h
 |i::is,d::ds,Z,Z',h=>by
  unfold zej at h
  split at h
  ·rw[List.length_cons,List.length_cons,zfK h]
  ·cases h
theorem zr8{es:List Expr}{is:List Nat}{k n:Nat}(hc:X.calm=true)(h:PNs X C es is)(hl:is.length=n)(hn:(assignEach es X.env).length=n:=by rfl)(hst:(assignEach es X.env).findIdx? (·.1)=none:=by rfl):JG X C (.Tuple es k pos) (zmF is):=by
 intro pS s Y H v u Q I r ⟨G,w,Z,d,rel,q,p⟩
 unfold zmF at p
 split at p
 case h_2=>exact p.elim
 rename_i l
 obtain ⟨ad,vs,rfl,h1,h2⟩:=zbK q
 cases e:zej is l Z with
 |no=>rw[e] at p;exact p.elim
 |er n=>exact absurd e zhs
 |ok Z' =>
  rw[e] at p
  cases r
  obtain ⟨its,rv,ht,hz⟩:=I.tuple (zaD rel.gh h1)
  refine assign_Tuple_tuple (I.ok.hd hc) ht (by rw[hn,<- hl,<- zfK e,h2.length,rv.length];simp) hst fun h' hx=>?_
  have I1:L2.Inv X pS Y H { s with heap:=h' }:=I.kept (t':=s.toks) fun b o e=>hx b o (Nat.ne_of_lt (wai e)) e
  exact h pS _ Y H vs _ l G w Z Z' Q I1 (by simpa using rv) rel h2 e fun Y' r'=>p Y' G H w (.refl _ _ _) r'
theorem ztt{es:List Expr}{is:List Nat}{k n:Nat}(hc:X.calm=true)(h:PNs X C es is)(hl:is.length=n)(hn:(assignEach es X.env).length=n:=by rfl)(hst:(assignEach es X.env).findIdx? (·.1)=none:=by rfl):JG X C (.Tuple es k pos) (ziB is):=by
 intro pS s Y H v u Q I r ⟨G,w,Z,d,rel,q,p⟩
 unfold ziB at p
 split at p
 case h_2=>exact p.elim
 rename_i l
 obtain ⟨ad,vs,rfl,h1,h2⟩:=zba q
 cases e:zej is l Z with
 |no=>rw[e] at p;exact p.elim
 |er n=>exact absurd e zhs
 |ok Z' =>
  rw[e] at p
  cases r
  obtain ⟨its,rv,ht,hz⟩:=I.list (SqL.of (rel.gh _ _ h1))
  refine zfL (I.ok.hd hc) ht.isList (by rw[hn,<- hl,<- zfK e,h2.length,rv.length];simp) hst fun h' hx=>?_
  have I1:L2.Inv X pS Y H { s with heap:=h' }:=I.kept (t':=s.toks) fun b o e=>hx b o (Nat.ne_of_lt (wai e)) e
  exact h pS _ Y H vs _ l G w Z Z' Q I1 (by simpa using rv) rel h2 e fun Y' r'=>p Y' G H w (.refl _ _ _) r'
end
def zgy(ns:List Int):Bool:=decide (ns.length<=1000) && ns.all fun n=>decide (0<=n) && decide (n<=1000000)
theorem zko:∀(ns:List Int),(∀ n∈ns,0<=n/\n<=1000000)->0<=ns.sum/\ns.sum<=(ns.length:Int) * 1000000
 |[],_=>by simp
 |a::r,h=>by
  obtain ⟨h1,h2⟩:=zko r fun n hn=>h n (wah _ hn)
  obtain ⟨h3,h4⟩:=h a wau
  rw[List.sum_cons,List.length_cons]
  push_cast
  omega
theorem zou{ns:List Int}(h:zgy ns=true):∀ j,j<ns.length->InLong (ns.getD j 0)/\InLong ((ns.take (j+1)).sum):=fun j hj=>by
 unfold zgy at h
 rw[Bool.and_eq_true] at h
 have hl:=of_decide_eq_true h.1
 have ha:∀ n∈ns,0<=n/\n<=1000000:=fun n hn=>by
  have:=List.all_eq_true.mp h.2 n hn
  rw[Bool.and_eq_true] at this
  exact ⟨of_decide_eq_true this.1,of_decide_eq_true this.2⟩
 obtain ⟨b1,b2⟩:=zko (ns.take (j+1)) fun n hn=>ha n (List.mem_of_mem_take hn)
 have hg:ns.getD j 0∈ns:=by
  rw[List.getD_eq_getElem?_getD,List.getElem?_eq_getElem hj];exact List.getElem_mem _
 obtain ⟨c1,c2⟩:=ha _ hg
 have b3:((ns.take (j+1)).length:Int)<=1000:=by
  have:=List.length_take_le (j+1) ns
  have h2:(ns.take (j+1)).length<=ns.length:=List.length_take_le' ..
  omega
 unfold InLong
 constructor <;> constructor <;> omega
section
variable{X:Cx}
theorem zo2(hc:X.calm=true):zda X (.builtin "sum") (fun xs H Q=>∃(p:Addr)(ns:List Int),xs=[.ref p]/\SqL X.K H p (ns.map V.int)/\zgy ns=true/\Q (.int ns.sum) H):=by
 intro pS s Y H xs us Q I r h
 obtain ⟨p,ns,rfl,hq,hne,q⟩:=h
 obtain ⟨u,rfl,ru⟩:=zgM r
 cases ru
 obtain ⟨its,rv,pl,hz⟩:=I.list hq
 have hlt:p≠s.heap.objs.size:=by
  obtain ⟨o,n,e,_⟩:=id pl
  exact Nat.ne_of_lt (wai e)
 have hlen:its.length=ns.length:=by rw[<- rv.length];simp
 refine call_sum_walk (wpAny_pyIter_list pl.isList ?_)
 refine ⟨s.heap.objs.size,_,_,_,_,_,(fun i=>ns.getD i 0),rfl,Walks.list (A:=X.A.in1) (I.ok.hd hc) s.heap.objs.size p hlt its.toArray,⟨⟨_,waj _ rfl,rfl,rfl⟩,?_⟩,?_,(fun i v hP=>?_),(fun j hj=>?_),fun h' tk t' hk=>?_⟩
 ·obtain ⟨o,ho,hc',n,hd⟩:=pl.isList
  exact ⟨o,waa _ ho,hc',n,hd⟩
 ·intro b hb
  rw[Heap.size_push]
  obtain ⟨o,n,e,_⟩:=id pl
  rcases wap.mp hb with rfl|hb
  ·exact Nat.lt_succ_self _
  ·simp at hb;subst hb;exact Nat.lt_succ_of_lt (wai e)
 ·obtain ⟨a,h1,h2⟩:=ziR (f:=V.int) (g:=fun a u=>∃ t,u=Value.int a t) (fun a u z=>z) rv (i:=i) (u:=v) (by simpa using hP)
  show ∃ t,v=Value.int (ns.getD i 0) t
  rw[List.getD_eq_getElem?_getD,h1];exact h2
 ·rw[List.size_toArray,hlen] at hj
  have:=zou hne j hj
  rw[preSum_getD]
  exact this
 ·rw[preSum_getD,List.size_toArray,hlen,List.take_length]
  refine ⟨.int ns.sum,H,I.kept (t':=tk) fun b o e=>hk b o (fun z=>?_) (waa _ e),⟨t',rfl⟩,q⟩
  simp at z;exact absurd (z ▸ wai e) (Nat.lt_irrefl _)
end
def zmG:List Dt->R Dt
 |[.lst l]=>match zfk l with
  |some ns=>if zgy ns=true then .ok (.int ns.sum) else .no
  |_=>.no
 |_=>.no
theorem zsT{K:W.Frag}:FnR K (fun xs H Q=>∃(p:Addr)(ns:List Int),xs=[.ref p]/\SqL K H p (ns.map V.int)/\zgy ns=true/\Q (.int ns.sum) H) zmG:=fun G H vs ds z Q gh hr e k=>by
 unfold zmG at e
 split at e
 ·split at e
  ·rename_i ns eb
   split at e
   ·rename_i hs
    obtain ⟨v,rfl,h1⟩:=zf0 hr
    obtain ⟨ad,us,rfl,h2,h3⟩:=zba h1
    cases e
    rw[zkE h3 eb] at h2
    exact ⟨ad,_,rfl,SqL.of (gh _ _ h2),hs,k _ G H (.refl gh) (za5 _)⟩
   ·cases e
  ·cases e
 ·cases e
theorem zsp:zmf zmG:=fun x n h=>by unfold zmG at h;split at h <;> first|cases h|(split at h <;> first|cases h|(split at h <;> cases h))
section
variable{X:Cx}{C:Cn}{e:Expr}{fa:De}{p pos:Pos}
theorem ztL:bootBuiltins "sum"=some (.builtin "sum"):=by decide +kernel
theorem ztr(hc:X.calm=true)(hm:X.mg "sum"=none)(ha:JE X C e fa)(hg:Gl X "sum":=by rfl)(hs:starEach [e] X.env=(false,eval e X.env)::starEach [] X.env:=by rfl)(hpl:(backTo pos (starEach [] X.env)).any (·.1)=false:=by rfl):JE X C (.Call (.Name "sum" p) [e] [] pos) (dFn zmG (dA fa dA0)) :=
 zf4 zsT zsp (zo2 hc) hg hm ztL (zac ha zap hs) xwd xwd hs hpl
end
abbrev DC:=Dt->Ev->R (Bool×Ev)
def PCh(X:Cx)(C:Cn)(pos:Pos)(ops:List CmpOp)(es:List (Sem Value))(f:DC):Prop:=∀(pS:List (Addr×Obj))(s:Shared)(Y:L2.St)(H:Hp)(u:Value)(x:V)(G:Hp)(w:Wn)(Z:Ev)(d:Dt)(Q:Bool->Hp->Prop),L2.Inv X pS Y H s->Rel X.K C G w Z Y H->Rep X.K G d x->zbo x u->zcp C.ex (kT X.K C Y Q G H w) (f d Z) ->
 wpAny (model X.prog X.w) X.A (testChain pos u ops es) (fun b s'=>∃ H',L2.Inv X pS Y H' s'/\Q b H') X.xe s
def zmh(g:Dt->Dt->R Dt)(fe:De):DC:=fun d Z=>(fe Z).bind fun b=>(g d b.1).bind fun z=>match z with
 |.bl k=>.ok (k,b.2)
 |_=>.no
def zea(g:Dt->Dt->R Dt)(fe:De)(f:DC):DC:=fun d Z=>(fe Z).bind fun b=>(g d b.1).bind fun z=>match z with
 |.bl true=>f b.1 b.2
 |.bl false=>.ok (false,b.2)
 |_=>.no
def zvG(fa:De)(f:DC):DT:=fun Z=>(fa Z).bind fun a=>f a.1 a.2
section
variable{X:Cx}{C:Cn}{pos:Pos}{op op':CmpOp}{ops:List CmpOp}{e:Expr}{r':Sem Value}{rs:List (Sem Value)}{g:Dt->Dt->R Dt}{r:R2}{fe:De}{f:DC}
theorem zst(ho:OpR X (compareOp op) r)(h2:Op2 X.K r g)(hn:zhC g)(he:JE X C e fe):PCh X C pos [op] [eval e X.env] (zmh g fe):=fun pS s Y H u x G w Z d Q I rel hd ru p=>by
 refine test_last (thn (he pS s Y H (fun y H1=>∃ G1 w1 Z1 d1,Rel X.K C G1 w1 Z1 Y H1/\zbv G H w G1 H1 w1/\Rep X.K G1 d1 y/\zcp C.ex (kT X.K C Y Q G1 H1 w1) ((g d d1).bind fun z=>match z with|.bl k=>.ok (k,Z1)|_=>.no)) I
  (zdb (κ:=fun G H w=>kT X.K C Y Q G H w) zh2 rel p fun d1 Z1 v G1 H1 w1 r1 s1 q1 p1=>⟨G1,w1,Z1,d1,r1,s1,q1,p1⟩)) fun b s1 ⟨y,H1,I1,ry,G1,w1,Z1,d1,r1,s1',q1,p1⟩=>?_)
 cases eg:g d d1 with
 |er n=>exact absurd eg (hn _ _ _)
 |no=>rw[eg] at p1;exact p1.elim
 |ok z =>
  rw[eg] at p1
  cases z <;> first|exact False.elim p1|skip
  rename_i k
  refine thn (ho pS s1 Y H1 x y u b (fun z H2=>z=.bl k/\Q k H2) I1 ru ry (h2 G1 H1 x y d d1 (.bl k) _ r1.gh (hd.same s1'.g) q1 eg fun v3 G3 H3 gr q3=>⟨zd0 q3,p1 G3 H3 w1 gr.step (r1.grow gr)⟩)) fun c s2 ⟨z,H2,I2,rz,ez,q⟩=>?_
  subst ez
  cases rz
  exact wpAny_truthy_bool ⟨H2,I2,q⟩
theorem zkw(ho:OpR X (compareOp op) r)(h2:Op2 X.K r g)(hn:zhC g)(he:JE X C e fe)(hf:PCh X C pos (op'::ops) (r'::rs) f):PCh X C pos (op::op'::ops) (eval e X.env::r'::rs) (zea g fe f):=fun pS s Y H u x G w Z d Q I rel hd ru p=>by
 refine test_link (thn (he pS s Y H (fun y H1=>∃ G1 w1 Z1 d1,Rel X.K C G1 w1 Z1 Y H1/\zbv G H w G1 H1 w1/\Rep X.K G1 d1 y/\zcp C.ex (kT X.K C Y Q G1 H1 w1) ((g d d1).bind fun z=>match z with|.bl true=>f d1 Z1|.bl false=>.ok (false,Z1)|_=>.no)) I
  (zdb (κ:=fun G H w=>kT X.K C Y Q G H w) zh2 rel p fun d1 Z1 v G1 H1 w1 r1 s1 q1 p1=>⟨G1,w1,Z1,d1,r1,s1,q1,p1⟩)) fun b s1 ⟨y,H1,I1,ry,G1,w1,Z1,d1,r1,s1',q1,p1⟩=>?_)
 cases eg:g d d1 with
 |er n=>exact absurd eg (hn _ _ _)
 |no=>rw[eg] at p1;exact p1.elim
 |ok z =>
  rw[eg] at p1
  cases z <;> first|exact False.elim p1|skip
  rename_i k
  refine thn (ho pS s1 Y H1 x y u b (fun z H2=>z=.bl k/\∃ G2,Rel X.K C G2 w1 Z1 Y H2/\zcq G1 G2/\zcp C.ex (kT X.K C Y Q G2 H2 w1) (match (Dt.bl k) with|.bl true=>f d1 Z1|.bl false=>.ok (false,Z1)|_=>.no)) I1 ru ry
   (h2 G1 H1 x y d d1 (.bl k) _ r1.gh (hd.same s1'.g) q1 eg fun v3 G3 H3 gr q3=>⟨zd0 q3,G3,r1.grow gr,gr.g,zcp.step (κ:=fun G H w=>kT X.K C Y Q G H w) zh2 gr.step p1⟩)) fun c s2 ⟨z,H2,I2,rz,ez,G2,r2,sg,p2⟩=>?_
  subst ez
  cases rz
  refine wpAny_truthy_bool ?_
  cases k with
  |false=>exact ite_ff ⟨H2,I2,p2 _ _ _ (.refl _ _ _) r2⟩
  |true=>exact ite_tt (hf pS s2 Y H2 b y G2 w1 Z1 d1 Q I2 r2 (q1.same sg) ry p2)
theorem zoU{l r1 r2:Expr}{rs:List Expr}{fa:De}(ha:JE X C l fa)(hf:PCh X C pos (op::op'::ops) (eval r1 X.env::eval r2 X.env::evalEach rs X.env) f)(hm:lastMarks (op::op'::ops) (r1::r2::rs)=false:=by with_unfolding_all rfl) :
  JT X C (.Compare l (op::op'::ops) (r1::r2::rs) pos) (zvG fa f):=fun pS s Y H Q I ⟨G,w,Z,rel,p⟩=>by
 refine isTrue_chain (thn (ha pS s Y H (fun y H1=>∃ G1 w1 Z1 d1,Rel X.K C G1 w1 Z1 Y H1/\Rep X.K G1 d1 y/\zcp C.ex (kT X.K C Y Q G1 H1 w1) (f d1 Z1)) I
  (zdb (κ:=fun G H w=>kT X.K C Y Q G H w) zh2 rel p fun d1 Z1 v G1 H1 w1 r1 s1 q1 p1=>⟨G1,w1,Z1,d1,r1,q1,p1⟩)) fun u s1 ⟨y,H1,I1,ry,G1,w1,Z1,d1,r1,q1,p1⟩=>?_) hm
 exact hf pS s1 Y H1 u y G1 w1 Z1 d1 Q I1 r1 q1 ry p1
end
def zve(lo:Int)(n:Nat):It:=⟨fun i _=>i<n,fun i H x H'=>H'=H/\x=.int (lo+i * 2),fun i _=>n<=i⟩
theorem zlr{P:Program}{w:World}{K:PySem.W.Frag}{tg:Expr}(it:Addr)(lo:Int)(n:Nat):zoO P w K tg (zve lo n) [it] it (fun i h=>IsRangeIter h it (lo+(i:Nat) * 2) ((n:Int)-(i:Nat)) 2) where
 mem:=by simp
 obj:=fun i h st b hb=>by
  have e:b=it:=by simpa using hb
  subst e
  exact ⟨_,st,fun v z=>by
   have z':Data.fields _=Data.cell v:=z
   cases z'⟩
 keep:=fun i h h' st k=>k it xws _ st
 item:=by
  intro X hP hw hK hc i pS s Y H E I hf st hg
  subst hP hw hK
  obtain ⟨f0,f1,f2,f3,f4,f5⟩:=hf it xws
  have W:=Walks.range (prog:=X.prog) (w:=X.w) (I.ok.hd hc) it lo 2 n
  refine W.item i s _ _ hg st fun v h' tk hv st' kk=>?_
  obtain ⟨t,rfl⟩:=hv
  have I1:L2.Inv X pS Y H { s with heap:=h',toks:=tk }:=I.turned (fun b o hb e=>kk b o (by simpa using hb) e) f0 f1 f3 f4 f5
  exact ⟨_,rfl,zqv (s:={ s with heap:=h',toks:=tk }) (n:="range_iterator") st' rfl rfl xwd ⟨.int (lo+i * 2),H,I1,⟨t,rfl⟩,⟨rfl,rfl⟩,st',fun b hb=>(hf b hb).1⟩⟩
 done:=by
  intro X hP hw hK hc i pS s Y H E I hf st hg
  subst hP hw hK
  obtain ⟨f0,f1,f2,f3,f4,f5⟩:=hf it xws
  exact wpAny_pyNext_range_end (I.ok.hd hc) st (by have:n<=i:=hg;omega) fun h' eb=>⟨rfl,I.turned (t':=s.toks) (fun b o hb e=>eb b o hb e) f0 f1 f3 f4 f5⟩
 self:=fun _ _ _ _ _ st h=>wpAny_pyIter_rangeiter st h
def n2(i j:Int):Nat:=if i<j then ((j-i-1) / 2+1).toNat else 0
def zeT(lo:Int)(n:Nat):List Dt:=(List.range n).map fun k=>.int (lo+(k:Nat) * 2)
theorem zrX{K:W.Frag}{G:Hp}{lo:Int}{n:Nat}:znm K (zve lo n) G (zeT lo n):=fun i G1 H s1 s2=>by
 refine ⟨fun d e=>?_,fun h=>show n<=i by simpa [zeT] using h⟩
 unfold zeT at e
 rw[List.getElem?_map] at e
 by_cases hi:i<n
 ·rw[List.getElem?_range hi] at e
  cases e
  refine ⟨hi,fun x H' y=>?_⟩
  obtain ⟨rfl,rfl⟩:=y
  exact ⟨G1,.refl s2,by unfold Rep;rfl⟩
 ·rw[List.getElem?_eq_none (by simpa using hi)] at e
  cases e
def zkb(j:Int):Bool:=decide (0<=j) && decide (j<1000000)
def znd(fa fb:De):DA:=fun Z=>(fa Z).bind fun a=>(fb a.2).bind fun b=>match a.1,b.1 with
 |.int i,.int j=>if (zkb i && zkb j)=true then .ok (zeT i (n2 i j),b.2) else .no
 |_,_=>.no
section
variable{X:Cx}{C:Cn}{tg e e':Expr}{fa fb:De}{p ps p3:Pos}{k3:Nat}
theorem zof(hg:Gl X "range")(hm:X.mg "range"=none)(he:JE X C e fa)(he':JE X C e' fb)
  (hs:starEach [e,e',.Constant (.int 2) k3 p3] X.env=(false,eval e X.env)::starEach [e',.Constant (.int 2) k3 p3] X.env:=by rfl) (hs2:starEach [e',.Constant (.int 2) k3 p3] X.env=(false,eval e' X.env)::starEach [.Constant (.int 2) k3 p3] X.env:=by rfl) (hs3:starEach [.Constant (.int 2) k3 p3] X.env=(false,eval (.Constant (.int 2) k3 p3) X.env)::starEach [] X.env:=by rfl)
  (hpl:(backTo ps (starEach [e',.Constant (.int 2) k3 p3] X.env)).any (·.1)=false:=by rfl):JI X C tg (.Call (.Name "range" p) [e,e',.Constant (.int 2) k3 p3] [] ps) (znd fa fb):=by
 intro pS s Y H R I ⟨G,w,Z,r,pp⟩
 refine PyProof.Rows.Call_ (zeA I hg hm PyProof.Rows.boot_range (PyProof.Rows.callWith_type1 (thn (zac he (zac he' (zac (zai (C:=C)) zap hs3) hs2) hs ps pS s Y H (fun vs H1=>∃ i j:Int,vs=[.int i,.int j,.int 2]/\(zkb i && zkb j)=true/\R (zve i (n2 i j)) H1) I ?_) fun us s1 ⟨vs,H1,I1,r1,q1⟩=>?_) hs hpl))
 ·refine ⟨G,w,Z,r,?_⟩
  unfold znd at pp
  unfold dA dC dA0
  cases e:fa Z with
  |ok x =>
   obtain ⟨d,Z1⟩:=x
   rw[e] at pp
   simp only[PV.R.bind_ok] at pp ⊢
   cases e2:fb Z1 with
   |ok y =>
    obtain ⟨d2,Z2⟩:=y
    rw[e2] at pp
    simp only[PV.R.bind_ok] at pp ⊢
    intro vs G1 H1 w1 s1 r1 q
    obtain ⟨v,t,rfl,k1,q2⟩:=q.cons_inv
    obtain ⟨v2,t2,rfl,k2,q3⟩:=q2.cons_inv
    obtain ⟨v3,t3,rfl,k3,q4⟩:=q3.cons_inv
    rw[q4.nil_inv]
    split at pp
    ·rename_i i j
     split at pp
     ·rename_i hm
      exact ⟨i,j,by rw[zas k1,zas k2,zas k3],hm,pp _ G1 H1 w1 s1 r1 zrX⟩
     ·exact pp.elim
    ·exact pp.elim
   |er n=>rw[e2] at pp;exact pp
   |no=>rw[e2] at pp;exact pp
  |er n=>rw[e] at pp;exact pp
  |no=>rw[e] at pp;exact pp
 ·obtain ⟨i,j,rfl,hm,q⟩:=q1
  rw[Bool.and_eq_true] at hm
  unfold zkb at hm
  simp only[wae,war] at hm
  obtain ⟨⟨b1,b2⟩,b3,b4⟩:=hm
  cases r1 with
  |cons c1 t1 =>
   cases t1 with
   |cons c2 t2 =>
    cases t2 with
    |cons c3 t3 =>
     cases t3
     obtain ⟨ta,rfl⟩:=c1
     obtain ⟨tb,rfl⟩:=c2
     obtain ⟨tc,rfl⟩:=c3
     have esz:Builtin.Range.rangeSize i j 2=(n2 i j:Int):=by
      unfold Builtin.Range.rangeSize n2
      simp only[show (2:Int) > 0 by decide,if_true]
      split <;> omega
     have small:Builtin.Range.small i j 2=true:=by
      unfold Builtin.Range.small
      rw[esz]
      have:(n2 i j:Int)<=1000000:=by unfold n2;split <;> omega
      simp only[Builtin.Range.rangeFitsLong,wae,Bool.or_eq_true,war,beq_iff_eq,show (2:Int) > 0 by decide,if_true]
      omega
     refine call_range_3 xwd ?_ (Or.inl (PyProof.noPylong_small xwo))
     refine wpAny_pyIter_range (IsRange.new ..) small ?_
     have I2:L2.Inv X pS Y H1 { s1 with heap:=s1.heap.push { cls:=.type "range",data:=.fields #[.int i ta,.int j tb,.int 2 tc] },toks:=s1.toks }:=I1.kept fun b o e=>waa _ e
     refine ⟨(s1.heap.push { cls:=.type "range",data:=.fields #[.int i ta,.int j tb,.int 2 tc] }).objs.size,[(s1.heap.push { cls:=.type "range",data:=.fields #[.int i ta,.int j tb,.int 2 tc] }).objs.size],_,_,H1,rfl,
      I2.kept (t':=s1.toks) fun b o e=>waa _ e,zlr _ i (n2 i j),?_,fun b hb=>?_,q⟩
     ·show IsRangeIter _ _ (i+((0:Nat):Int) * 2) (((n2 i j:Nat):Int)-((0:Nat):Int)) 2
      rw[show i+((0:Nat):Int) * 2=i by simp,show ((n2 i j:Nat):Int)-((0:Nat):Int)=Builtin.Range.rangeSize i j 2 by rw[esz];simp]
      exact waj _ rfl
     ·have e:b=(s1.heap.push { cls:=.type "range",data:=.fields #[.int i ta,.int j tb,.int 2 tc] }).objs.size:=by simpa using hb
      subst e
      exact I2.fpOk (wal _) (I2.hok.fresh (wal _))
end
theorem zn5(r:Addr)(n i:Int)(t u v tk:Tok) :
  Meets (Builtin.«range.__contains__» ⟨[.ref r,.int i tk],[]⟩) (fun _ R s=>s.heap.get? r=some { cls:=.type "range",data:=.fields #[.int 0 t,.int n u,.int 1 v] }/\R (.ok (.ret (.bool (Builtin.Range.rangePlace? 0 n 1 i).isSome))) s) :=
 .of_wp fun prog w A R s h=>by
  obtain ⟨hp,g,d,tk',os⟩:=s;obtain ⟨hl,h⟩:=h
  wp_walk using wpAny_field hl rfl (x:=.int 0 t) rfl,wpAny_field hl rfl (x:=.int n u) rfl,wpAny_field hl rfl (x:=.int 1 v) rfl
  exact ⟨_,rfl,h⟩
theorem zqF(n i:Int):(Builtin.Range.rangePlace? 0 n 1 i).isSome=(decide (0<=i) && decide (i<n)):=by
 unfold Builtin.Range.rangePlace?
 simp only[show (1:Int) > 0 by decide,if_true,Int.sub_zero,Int.emod_one]
 cases h:(decide (0<=i) && decide (i<n)) <;> simp[h]
def zm6(fa fb:De):DT:=fun Z=>(fa Z).bind fun a=>(fb a.2).bind fun b=>match a.1,b.1 with
 |.int i,.int n=>.ok (!(decide (0<=i) && decide (i<n)),b.2)
 |_,_=>.no
section
variable{X:Cx}{C:Cn}{a e:Expr}{fa fb:De}{p ps pos:Pos}
theorem zoK(hg:Gl X "range")(hm:X.mg "range"=none)(ha:JE X C a fa)(he:JE X C e fb)(hs:starEach [e] X.env=[(false,eval e X.env)]:=by rfl)(hmk:behindInMarks .NotIn (.Call (.Name "range" p) [e] [] ps)=false:=by rfl) :
  JT X C (.Compare a [.NotIn] [.Call (.Name "range" p) [e] [] ps] pos) (zm6 fa fb):=by
 refine PT.weak (zox (t:=fun Y H Q=>tE X.K C fa Y H fun x H1=>ztU (tAd X.K C (dA fb dA0)) Y H1 fun y H2=>∃ i n r,x=.int i/\y=.ref r/\H2 r=some (.rng 0 n)/\Q (.bl (!(decide (0<=i) && decide (i<n)))) H2) ?_ hmk) fun Y H Q ⟨G,w,Z,r,pp⟩=>?_
 ·intro pS s Y H Q I h
  refine thn (ha pS s Y H _ I h) fun u s1 ⟨x,H1,I1,rx,q1⟩=>thn (zr2 hg hm (zac he zap (by rw[hs];rfl)) hs pS s1 Y H1 _ I1 q1) fun v s2 ⟨y,H2,I2,ry,i,n,ad,ex,ey,hr,q2⟩=>?_
  subst ex ey
  obtain ⟨tk,rfl⟩:=rx
  cases ry
  obtain ⟨t1,t2,t3,ho⟩:=(show zbO X.prog X.w H2 s2.heap ad (.rng 0 n) from I2.hok ad _ hr)
  have hT:s2.TypeIs (.ref ad) "range":=⟨_,ho,rfl⟩
  show wpAny _ _ ((do return Value.bool (!(<- contains (.ref ad) (.int i tk)))):Sem Value) _ _ s2
  refine wab (wpAny_contains_slot hT PySem.F.slot_range_contains (call_meets (Q:=fun v s'=>wpAny _ X.A (truthy v) (fun b s''=>wpAny _ X.A (pure (Value.bool (!b))) _ X.xe s'') X.xe s') PySem.F.slot_range_contains hT PySem.F.entry_range_contains (PySem.F.args_range_contains_2 _ _) (zn5 ad n i t1 t2 t3 tk) ⟨ho,?_⟩))
  rw[zqF]
  exact wad (wad ⟨.bl (!(decide (0<=i) && decide (i<n))),H2,I2,rfl,q2⟩)
 ·unfold zm6 at pp
  refine zdb (κ:=fun G H w=>kT X.K C Y Q G H w) zh2 r pp fun d Z1 v G1 H1 w1 r1 s1 q1 p1=>?_
  refine ⟨G1,w1,Z1,r1,?_⟩
  unfold dA dA0
  dsimp only at p1
  cases e2:fb Z1 with
  |ok y =>
   obtain ⟨d2,Z2⟩:=y
   rw[e2] at p1
   simp only[PV.R.bind_ok] at p1 ⊢
   intro vs G2 H2 w2 s2 r2 q
   obtain ⟨v2,t,rfl,k1,q2⟩:=q.cons_inv
   rw[q2.nil_inv]
   split at p1
   case h_2=>exact p1.elim
   rename_i i n
   refine ⟨n,by rw[zas k1],fun ad had=>?_⟩
   have gr:zdU G2 H2 G2 (upd H2 ad (.rng 0 n)):=.newH r2.gh had
   exact ⟨i,n,ad,zas q1,rfl,zan,_,rfl,p1 _ _ _ (s2.trans gr.step) (r2.grow gr)⟩
  |er n=>rw[e2] at p1;exact p1
  |no=>rw[e2] at p1;exact p1
end
def zaJ{α:Type}(b:Nat)(l:List α):List α:=(List.range ((l.length+1-b) / 2)).filterMap fun m=>l[b+m * 2]?
section
variable{prog:Program}{w:World}{A:Around}{E:Value->Shared->Prop}{s:Shared}
theorem zn4{b n:Nat}(hb:b<=1):Builtin.Slice.sliceAdjust (if b=0 then none else some (b:Int)) none 2 (n:Int)=(((min b n:Nat):Int),(n:Int))/\Builtin.Slice.slicePlaces ((min b n:Nat):Int) (n:Int) 2=(n+1-b) / 2:=by
 constructor
 ·unfold Builtin.Slice.sliceAdjust
  by_cases h:b=0
  ·subst h;simp
  ·have:b=1:=by omega
   subst this
   simp
   omega
 ·unfold Builtin.Slice.slicePlaces
  simp only[show (2:Int) > 0 by decide,if_true]
  split <;> omega
theorem zfP{sl:Addr}{vl:Value}{t:Tok}{b n:Nat}{Q:Int×Int×Nat->Shared->Prop}(hb:b<=1)(hvl:(b=0/\vl=.none)\/(b=1/\∃ tb,vl=.int 1 tb))(hs:s.heap.IsSliceOf sl vl .none (.int 2 t))(h:Q (((min b n:Nat):Int),2,(n+1-b) / 2) s):wpAny (model prog w) A (Builtin.Slice.sliceApplied (.ref sl) (pure (n:Int))) Q E s:=by
 obtain ⟨os,hos,hcs,hds⟩:=id hs
 unfold Builtin.Slice.sliceApplied Builtin.Slice.sliceFields
 refine wab (wab (wpAny_field hos hds (x:=vl) rfl (wab (wpAny_field hos hds (x:=.none) rfl (wab (wpAny_field hos hds (x:=.int 2 t) rfl (wad ?_)))))))
 refine wab (slicePart_int ?_)
 show wpAny _ _ (if ((2:Int) == 0)=true then _ else _) _ _ s
 rw[if_neg xwd]
 have fin:wpAny (model prog w) A (match Builtin.Slice.sliceAdjust (if b=0 then none else some (b:Int)) none 2 (n:Int) with|(lo,hi)=>(pure (lo,(2:Int),Builtin.Slice.slicePlaces lo hi 2):Sem (Int×Int×Nat))) Q E s:=by
  rw[(zn4 (n:=n) hb).1]
  show wpAny _ _ (pure (((min b n:Nat):Int),(2:Int),Builtin.Slice.slicePlaces ((min b n:Nat):Int) (n:Int) 2)) _ _ s
  rw[(zn4 (n:=n) hb).2]
  exact wad h
 rcases hvl with ⟨rfl,rfl⟩|⟨rfl,tb,rfl⟩
 ·exact wab (slicePart_none (wab (slicePart_none (wab (wad fin)))))
 ·exact wab (slicePart_int (wab (slicePart_none (wab (wad fin)))))
theorem zo6{b:Nat}(hb:b<=1)(xs:Array Value):((List.range ((xs.size+1-b) / 2)).filterMap fun (m:Nat)=>xs[(((min b xs.size:Nat):Int)+(m:Int) * 2).toNat]?).toArray=(zaJ b xs.toList).toArray:=by
 congr 1
 unfold zaJ
 rw[Array.length_toList]
 have key:∀(l:List Nat),(∀ m∈l,m<(xs.size+1-b) / 2)->l.filterMap (fun (m:Nat)=>xs[(((min b xs.size:Nat):Int)+(m:Int) * 2).toNat]?)=l.filterMap (fun m=>xs.toList[b+m * 2]?):=by
  intro l
  induction l with
  |nil=>intro _;rfl
  |cons a r ih =>
   intro h
   have ha:=h a wau
   have e1:(((min b xs.size:Nat):Int)+(a:Int) * 2).toNat=b+a * 2:=by omega
   rw[List.filterMap_cons,List.filterMap_cons,ih fun m hm=>h m (List.mem_cons_of_mem _ hm),e1,Array.getElem?_toList]
 exact key _ fun m hm=>List.mem_range.mp hm
theorem zdd{t sl:Addr}{items:Array Value}{vl:Value}{tk:Tok}{b:Nat}{Q:Value->Shared->Prop}(hb:b<=1)(hvl:(b=0/\vl=.none)\/(b=1/\∃ tb,vl=.int 1 tb))(ht:IsTup s.heap t items)(hs:s.heap.IsSliceOf sl vl .none (.int 2 tk))
  (h:Q (.ref s.heap.objs.size) { s with heap:=s.heap.push { cls:=.type "tuple",data:=.seq (zaJ b items.toList).toArray } }) (hsz:items.size<=sizeLine):wpAny (model prog w) A (getItem (.ref t) (.ref sl)) Q E s:=by
 have htake:sizeOk (.seq (zaJ b items.toList).toArray):=by
  show (zaJ b items.toList).toArray.size<=sizeLine
  rw[List.size_toArray]
  unfold zaJ
  refine Nat.le_trans (List.length_filterMap_le _ _) ?_
  rw[List.length_range,Array.length_toList]
  rw[sizeLine_eq] at hsz ⊢
  omega
 obtain ⟨os,hos,hcs,hds⟩:=id hs
 have hTs:s.TypeIs (.ref sl) "slice":=⟨os,hos,hcs⟩
 unfold getItem
 try with_reducible refine wpAny_holding ?_
 first|refine wab (wad ?_)|skip
 refine wab (wpAny_sequenceKey ht.typeIs xwd ?_)
 refine wab (wpAny_callSpecial?_slot (name:=Str.ofString "__getitem__") ht.typeIs PyProof.Rows.slot_tuple_getitem
  (wpAny_call_entry PyProof.Rows.slot_tuple_getitem ht.typeIs entry_tuple_getitem ?_ (args_tuple_getitem _ _)))
 show wpAny _ _ (Builtin.Tuple.tupleItemsOf (.ref t) >>= _) _ _ s
 refine wab (tupleItemsOf_ ht ?_)
 refine wab (wpAny_typeOf hTs ?_)
 rw[if_pos xwd]
 refine wab (zfP hb hvl hs ?_)
 have hno:¬ (((((min b items.size:Nat):Int)) == 0 && (2:Int) == 1 && (items.size+1-b) / 2 == items.size)=true):=by
  intro q
  rw[Bool.and_eq_true,Bool.and_eq_true] at q
  exact absurd q.1.2 xwd
 show wpAny _ _ (if ((((min b items.size:Nat):Int)) == 0 && (2:Int) == 1 && (items.size+1-b) / 2 == items.size)=true then _ else _) _ _ s
 rw[if_neg hno,zo6 hb]
 first
  |exact wab (m:=Builtin.Tuple.tupleExact _) (wpAny_newObj_type (wad ⟨_,rfl,wad h⟩) htake)
  |exact wab (m:=Builtin.Tuple.tupleExact _) (wpAny_newObj_type (wab (wad (wad ⟨_,rfl,wad h⟩))) htake)
  |exact wab (wab (m:=Builtin.Tuple.tupleExact _) (wpAny_newObj_type (wad (wad ⟨_,rfl,wad h⟩)) htake))
  |exact wab (wab (m:=Builtin.Tuple.tupleExact _) (wpAny_newObj_type (wad ⟨_,rfl,wad h⟩) htake))
end
theorem zlp{F:V->Value->Prop}{vs:List V}{us:List Value}(r:zbc vs us)(b:Nat):∀ l:List Nat,zbc (l.filterMap fun m=>vs[b+m * 2]?) (l.filterMap fun m=>us[b+m * 2]?)
 |[]=>.nil
 |a::l=>by
  rw[List.filterMap_cons,List.filterMap_cons]
  cases e:vs[b+a * 2]? with
  |none=>rw[r.none_of e];exact zlp (F:=F) r b l
  |some v=>obtain ⟨u,e1,e2⟩:=r.get e;rw[e1];exact .cons e2 (zlp (F:=F) r b l)
theorem zkm{vs:List V}{us:List Value}(r:zbc vs us)(b:Nat):zbc (zaJ b vs) (zaJ b us):=by
 unfold zaJ
 rw[r.length]
 exact zlp (F:=zbo) r b _
theorem zkv{K:W.Frag}{G:Hp}{ds:List Dt}{vs:List V}(r:za1 K G ds vs)(b:Nat):∀ l:List Nat,za1 K G (l.filterMap fun m=>ds[b+m * 2]?) (l.filterMap fun m=>vs[b+m * 2]?)
 |[]=>za1.nil
 |a::l=>by
  rw[List.filterMap_cons,List.filterMap_cons]
  cases e:ds[b+a * 2]? with
  |none =>
   have:vs[b+a * 2]? = none:=by
    rw[List.getElem?_eq_none_iff] at e ⊢
    rw[<- r.length];exact e
   rw[this];exact zkv r b l
  |some v=>obtain ⟨u,e1,e2⟩:=r.get e;rw[e1];exact za1.cons e2 (zkv r b l)
theorem zjy{K:W.Frag}{G:Hp}{ds:List Dt}{vs:List V}(r:za1 K G ds vs)(b:Nat):za1 K G (zaJ b ds) (zaJ b vs):=by
 unfold zaJ
 rw[r.length]
 exact zkv r b _
theorem zoZ{α:Type}{l:List α}(b:Nat)(h:l.length<=sizeLine):(zaJ b l).length<=sizeLine:=by
 unfold zaJ
 refine Nat.le_trans (List.length_filterMap_le _ _) ?_
 rw[List.length_range]
 rw[sizeLine_eq] at h ⊢
 omega
def zqP(b:Nat)(fa:De):De:=fun Z=>(fa Z).bind fun a=>match a.1 with
 |.tup ds=>.ok (.tup (zaJ b ds),a.2)
 |_=>.no
section
variable{X:Cx}{C:Cn}{a:Expr}{fa:De}{pos:Pos}
theorem zq2{k1:Nat}{p1 p3:Pos}(ha:JE X C a fa):JE X C (.Subscript a (.Slice none none (some (.Constant (.int 2) k1 p1)) p3) pos) (zqP 0 fa):=by
 intro pS s Y H Q I ⟨G,w,Z,r,p⟩
 refine PyProof.Rows.Subscript_ (thn (ha pS s Y H (fun x H1=>∃ ad vs,x=.ref ad/\SqT X.K H1 ad vs/\∀ p,H1 p=none->Q (.ref p) (upd H1 p (.tup (zaJ 0 vs)))) I ?_) fun v s1 ⟨x,H1,I1,r1,ad,vs,ex,hx,q1⟩=>?_)
 ·refine zdb (κ:=fun G H w=>kE X.K C Y Q G H w) zcc r p fun d Z1 v G1 H1 w1 r1 s1 q1 p1=>?_
  cases d with
  |tup ds =>
   obtain ⟨ad,vs,rfl,h1,h2⟩:=zdH q1
   refine ⟨ad,vs,rfl,zaD r1.gh h1.sq,fun p hp=>?_⟩
   have gr:zdU G1 H1 (upd G1 p (.tup (zaJ 0 vs))) (upd H1 p (.tup (zaJ 0 vs))):=.new r1.gh hp
   exact p1 _ _ _ w1 gr.step (r1.grow gr) (by unfold Rep;exact ⟨p,_,rfl,zhM.of zan,(zjy h2 0).same gr.g⟩)
  |_=>exact p1.elim
 subst ex
 cases r1
 refine wpAny_Slice (evalPart_none_step (evalPart_none_step (evalPart_some_step (thn (zj6 pS s1 Y H1 (fun x H2=>x=.int 2/\H2=H1) I1 ⟨rfl,rfl⟩) fun vk s2 ⟨y,H2,I2,r2,ey,eH⟩=>?_))))
 subst ey
 subst eH
 obtain ⟨t,rfl⟩:=r2
 have I4:L2.Inv X pS Y H2 { s2 with heap:=s2.heap.push { cls:=.type "slice",data:=.fields #[.none,.none,.int 2 t] } }:=I2.kept (t':=s2.toks) fun b ob q=>waa _ q
 obtain ⟨its4,rv4,ht4,hz4⟩:=I4.tuple hx
 have hlen4:=rv4.length
 show wpAny (model X.prog X.w) X.A (PyProof.Rows.subscriptTail a (.Slice none none (some (.Constant (.int 2) k1 p1)) p3) (.ref ad) (.ref s2.heap.objs.size)) (EP X pS Y Q) X.xe { s2 with heap:=s2.heap.push { cls:=.type "slice",data:=.fields #[.none,.none,.int 2 t] } }
 refine PyProof.Rows.tail_any (ops:=[.ref ad,.ref s2.heap.objs.size]) ht4.typeIs PyProof.Rows.slot_tuple_getitem.lookup ?_ (by with_unfolding_all rfl)
 refine zdd (b:=0) xwo (.inl ⟨rfl,rfl⟩) ht4 (Heap.IsSliceOf.new ..) ?_ (by rw[List.size_toArray] <;> omega)
 refine ⟨.ref _,_,I4.laid (t':=s2.toks) (o:=.tup (zaJ 0 vs)) (fun b ob q=>waa _ q) (wal _) ?_,rfl,q1 _ (I4.hok.fresh (wal _))⟩
 exact ⟨zoZ 0 hz4,zaJ 0 its4,zkm rv4 0,0,waj _ rfl⟩
theorem zpG{k0 k1:Nat}{p0 p1 p3:Pos}(ha:JE X C a fa):JE X C (.Subscript a (.Slice (some (.Constant (.int 1) k0 p0)) none (some (.Constant (.int 2) k1 p1)) p3) pos) (zqP 1 fa):=by
 intro pS s Y H Q I ⟨G,w,Z,r,p⟩
 refine PyProof.Rows.Subscript_ (thn (ha pS s Y H (fun x H1=>∃ ad vs,x=.ref ad/\SqT X.K H1 ad vs/\∀ p,H1 p=none->Q (.ref p) (upd H1 p (.tup (zaJ 1 vs)))) I ?_) fun v s1 ⟨x,H1,I1,r1,ad,vs,ex,hx,q1⟩=>?_)
 ·refine zdb (κ:=fun G H w=>kE X.K C Y Q G H w) zcc r p fun d Z1 v G1 H1 w1 r1 s1 q1 p1=>?_
  cases d with
  |tup ds =>
   obtain ⟨ad,vs,rfl,h1,h2⟩:=zdH q1
   refine ⟨ad,vs,rfl,zaD r1.gh h1.sq,fun p hp=>?_⟩
   have gr:zdU G1 H1 (upd G1 p (.tup (zaJ 1 vs))) (upd H1 p (.tup (zaJ 1 vs))):=.new r1.gh hp
   exact p1 _ _ _ w1 gr.step (r1.grow gr) (by unfold Rep;exact ⟨p,_,rfl,zhM.of zan,(zjy h2 1).same gr.g⟩)
  |_=>exact p1.elim
 subst ex
 cases r1
 refine wpAny_Slice (evalPart_some_step (thn (zj6 pS s1 Y H1 (fun x H2=>x=.int 1/\H2=H1) I1 ⟨rfl,rfl⟩) fun vk0 s0 ⟨y0,H0,I0,r0,ey0,eH0⟩=>?_))
 subst ey0
 subst eH0
 obtain ⟨t0,rfl⟩:=r0
 refine evalPart_none_step (evalPart_some_step (thn (zj6 pS s0 Y H0 (fun x H2=>x=.int 2/\H2=H0) I0 ⟨rfl,rfl⟩) fun vk s2 ⟨y,H2,I2,r2,ey,eH⟩=>?_))
 subst ey
 subst eH
 obtain ⟨t,rfl⟩:=r2
 have I4:L2.Inv X pS Y H2 { s2 with heap:=s2.heap.push { cls:=.type "slice",data:=.fields #[.int 1 t0,.none,.int 2 t] } }:=I2.kept (t':=s2.toks) fun b ob q=>waa _ q
 obtain ⟨its4,rv4,ht4,hz4⟩:=I4.tuple hx
 have hlen4:=rv4.length
 show wpAny (model X.prog X.w) X.A (PyProof.Rows.subscriptTail a (.Slice (some (.Constant (.int 1) k0 p0)) none (some (.Constant (.int 2) k1 p1)) p3) (.ref ad) (.ref s2.heap.objs.size)) (EP X pS Y Q) X.xe { s2 with heap:=s2.heap.push { cls:=.type "slice",data:=.fields #[.int 1 t0,.none,.int 2 t] } }
 refine PyProof.Rows.tail_any (ops:=[.ref ad,.ref s2.heap.objs.size]) ht4.typeIs PyProof.Rows.slot_tuple_getitem.lookup ?_ (by with_unfolding_all rfl)
 refine zdd (b:=1) xwo (.inr ⟨rfl,t0,rfl⟩) ht4 (Heap.IsSliceOf.new ..) ?_ (by rw[List.size_toArray] <;> omega)
 refine ⟨.ref _,_,I4.laid (t':=s2.toks) (o:=.tup (zaJ 1 vs)) (fun b ob q=>waa _ q) (wal _) ?_,rfl,q1 _ (I4.hok.fresh (wal _))⟩
 exact ⟨zoZ 1 hz4,zaJ 1 its4,zkm rv4 1,0,waj _ rfl⟩
end
def zit:Dt->Bool
 |.non=>true
 |_=>false
theorem zoo{K:W.Frag}{G:Hp}:∀{d:Dt}{v:V},Rep K G d v->decide (v=V.non)=zit d
 |.non,v,h=>by unfold Rep at h;subst h;rfl
 |.bl _,v,h=>by unfold Rep at h;subst h;rfl
 |.int _,v,h=>by unfold Rep at h;subst h;rfl
 |.str _,v,h=>by unfold Rep at h;subst h;rfl
 |.tup _,v,h=>by unfold Rep at h;obtain ⟨a,vs,rfl,_⟩:=h;rfl
 |.lst _,v,h=>by unfold Rep at h;obtain ⟨a,vs,rfl,_⟩:=h;rfl
 |.dct,v,h=>by unfold Rep at h;obtain ⟨a,rfl,_⟩:=h;rfl
 |.scr _,v,h=>by unfold Rep at h;obtain ⟨a,rfl,_⟩:=h;rfl
def zq5(b:Bool)(fa:De):DT:=fun Z=>(fa Z).bind fun a=>.ok (b == zit a.1,a.2)
section
variable{X:Cx}{C:Cn}{a:Expr}{fa:De}{pos pn:Pos}{j:Nat}
theorem zov(ha:JE X C a fa):JT X C (.Compare a [.IsNot] [.Constant .none j pn] pos) (zq5 false fa) :=
 PT.weak (zox (zsS ha)) fun Y H Q ⟨G,w,Z,r,p⟩=>by
  unfold zq5 at p
  refine zdb (κ:=fun G H w=>kT X.K C Y Q G H w) zh2 r p fun d Z1 v G1 H1 w1 r1 s1 q1 p1=>⟨_,rfl,?_⟩
  rw[zoo q1]
  have:=p1 _ _ _ (.refl _ _ _) r1
  simpa using this
end
end PV
end
section
namespace Lw
open PySem PySem.Spec L2 PV
def top(i:Nat):Stmt:=PySem.Challenge.pw_standtogether_k15_bars_looked_over.main.body.getD i (.Pass ⟨0,0,0,0⟩)
def xvC(cls:Nat->Addr):Nat->Value:=fun n=>.ref (cls n)
abbrev zgJ:Str:=((Str.ofString "least_bar")++".<locals>.")++"<lambda>"
abbrev zcS:Str:=((Str.ofString "law")++".<locals>.")++"<lambda>"
abbrev Uf(K:W.Frag)(mg:Str->Option Value)(x:String)(i:Nat):Prop:=∃ f fd,Fun K (Str.ofString x) (Str.ofString x) (top i) f fd/\mg (Str.ofString x)=some (.ref f)
structure Tx(K:W.Frag)(mg:Str->Option Value)(cls:Nat->Addr):Prop where
 xc:∀ n,n<8->Xin K (cls n)
 xm0:mg (Str.ofString "NoGuests")=some (.ref (cls 0))
 xm1:mg (Str.ofString "NoParties")=some (.ref (cls 1))
 xm2:mg (Str.ofString "NoNumber")=some (.ref (cls 2))
 xm3:mg (Str.ofString "NoOrder")=some (.ref (cls 3))
 xm4:mg (Str.ofString "NoWeb")=some (.ref (cls 4))
 xm5:mg (Str.ofString "NoText")=some (.ref (cls 5))
 xm6:mg (Str.ofString "NoLine")=some (.ref (cls 6))
 xm7:mg (Str.ofString "NoDeed")=some (.ref (cls 7))
 xS:∃ Cs,Xin K Cs/\mg (Str.ofString "SeatError")=some (.ref Cs)/\∀ n,n<8->W.subIn K (.ref (cls n)) (.ref Cs)=some true
 xi:∀ n k,n<8->k<8->W.kitOne K (.ref (cls n)) (.ref (cls k))=some (n == k)
 xV:∀ n,n<8->W.kitOne K (.ref (cls n)) (.type "ValueError")=some true
 u_is_whole:Uf K mg "is_whole" 13
 u_check_guests:Uf K mg "check_guests" 14
 u_is_guest:Uf K mg "is_guest" 16
 u_are_guests:Uf K mg "are_guests" 17
 u_rises:Uf K mg "rises" 18
 u_is_party:Uf K mg "is_party" 19
 u_is_parties:Uf K mg "is_parties" 20
 u_check_parties:Uf K mg "check_parties" 15
 u_is_party_number:Uf K mg "is_party_number" 22
 u_links:Uf K mg "links" 23
 u_is_way:Uf K mg "is_way" 24
 u_legs:Uf K mg "legs" 25
 u_are_ways:Uf K mg "are_ways" 26
 u_is_bar:Uf K mg "is_bar" 27
 u_least_way:Uf K mg "least_way" 28
 u_bar_past:Uf K mg "bar_past" 29
 u_length_of:Uf K mg "length_of" 30
 u__law_refused:Uf K mg "_law_refused" 43
 u_least_bar:Uf K mg "least_bar" 31
 u__law_cell_at:Uf K mg "_law_cell_at" 33
 u__law_state:Uf K mg "_law_state" 34
 u__law_take:Uf K mg "_law_take" 35
 u__law_mixed_row:Uf K mg "_law_mixed_row" 36
 u__law_party:Uf K mg "_law_party" 37
 u__law_side:Uf K mg "_law_side" 38
 u__law_parties:Uf K mg "_law_parties" 39
 u__law_whole:Uf K mg "_law_whole" 40
 u__law_is_way:Uf K mg "_law_is_way" 41
 u__law_is_bar:Uf K mg "_law_is_bar" 42
 u__law_way:Uf K mg "_law_way" 44
 u__law_drawn:Uf K mg "_law_drawn" 45
 u__law_bent:Uf K mg "_law_bent" 46
 u_law:Uf K mg "law" 47
 b_ValueError:mg (Str.ofString "ValueError")=none
 b_all:mg (Str.ofString "all")=none
 b_bool:mg (Str.ofString "bool")=none
 b_enumerate:mg (Str.ofString "enumerate")=none
 b_int:mg (Str.ofString "int")=none
 b_isinstance:mg (Str.ofString "isinstance")=none
 b_len:mg (Str.ofString "len")=none
 b_list:mg (Str.ofString "list")=none
 b_max:mg (Str.ofString "max")=none
 b_min:mg (Str.ofString "min")=none
 b_range:mg (Str.ofString "range")=none
 b_sorted:mg (Str.ofString "sorted")=none
 b_sum:mg (Str.ofString "sum")=none
 b_tuple:mg (Str.ofString "tuple")=none
 b_zip:mg (Str.ofString "zip")=none
 g_MOST_GUESTS:∃ t,mg (Str.ofString "MOST_GUESTS")=some (.int 7 t)
 g_MOST_PARTIES:∃ t,mg (Str.ofString "MOST_PARTIES")=some (.int 8 t)
section
variable{P:Program}{w:World}{K:W.Frag}{mg:Str->Option Value}{base:Heap}{xv:Nat->Value}{cls:Nat->Addr}
abbrev zmB:List Str:=["thing"]
abbrev zfM:List Str:=["thing"]
theorem zls:zax zmB zfM (zaj (top 13)):=⟨rfl,rfl,rfl,xwD,rfl,xwD,xwD⟩
def zif:DS:=(zbN (zhD (zcZ "int" (zab 0)) (zt2 (zcZ "bool" (zab 0)))))
def zbR:FD:=zaq false [false] 0 zif
theorem zga(T:Tx K mg cls):Dfn false P w K mg base (CXe P w) (xvC cls) 3 (Str.ofString "is_whole") [false] zbR:=by
  obtain ⟨f,fd,U,hm⟩:=T.u_is_whole
  refine ⟨f,fd,zfM,?_,hm,U.kp,U.binds (ps:=zfM) fun _ _ _ _ _ _ us hl=>match us,hl with|[_],_=>rfl,zau⟩
  refine xwQ (k:=2) false zaC U zls rfl rfl fun _ _ _ _ _ _ _ _ _ _ _ hnw hr hx hpo=>?_
  exact (zam (by exact (za2 hnw (zeE (zd4 znx rfl T.b_isinstance zd5 rfl T.b_int zr1 (zaa 0)) (zgA (zrt (zd4 zi4 rfl T.b_isinstance zd5 rfl T.b_bool zkQ (zaa 0))))))))
abbrev zhG:List Str:=["n"]
abbrev zdq:List Str:=["n"]
theorem zhq:zax zhG zdq (zaj (top 14)):=⟨rfl,rfl,rfl,xwD,rfl,xwD,xwD⟩
def zbW:DS:=(dIf (zdW (zaP (dTB (zag zbR (dR (zab 0) dR0)))) (zdW (dTB (dOp gLt (zab 0) (dC (.int 1)))) (dTB (dOp gGt (zab 0) (dC (.int 7)))))) (zin 0 (dA (dC (.str (Str.ofString "the guests are no whole number from 1 to 7"))) dA0)) dNx)
def zaA:FD:=zaq false [false] 0 zbW
theorem zeD(T:Tx K mg cls):Dfn false P w K mg base (CXe P w) (xvC cls) 6 (Str.ofString "check_guests") [false] zaA:=by
  obtain ⟨f,fd,U,hm⟩:=T.u_check_guests
  refine ⟨f,fd,zdq,?_,hm,U.kp,U.binds (ps:=zdq) fun _ _ _ _ _ _ us hl=>match us,hl with|[_],_=>rfl,zau⟩
  refine xwQ (k:=5) false zaC U zhq rfl rfl fun _ _ _ _ _ _ _ _ _ _ _ hnw hr hx hpo=>?_
  exact (zam (by exact (zcd (JW.jt (zd2 (zcr (zcf (zaE (zga T) hr xwo hx (zad (zaa 0) zar)))) (zd2 (znK (zaa 0) zai) (zd3 (zqG (zaa 0) (znr rfl T.g_MOST_GUESTS.choose_spec)))))) (zam (by exact (zlN hx rfl (T.xc 0 xwd).cls T.xm0 rfl (zac zpg zap)))) zaK)))
abbrev zmI:List Str:=["n","thing"]
abbrev zfS:List Str:=["n","thing"]
theorem zkt:zax zmI zfS (zaj (top 16)):=⟨rfl,rfl,rfl,xwD,rfl,xwD,xwD⟩
def ze0:DS:=(zbN (zhD (zag zbR (dR (zab 1) dR0)) (zgC gLe gLt (dC (.int 0)) (zab 1) (zab 0))))
def zbd:FD:=zaq false [false,false] 0 ze0
theorem zfX(T:Tx K mg cls):Dfn false P w K mg base (CXe P w) (xvC cls) 6 (Str.ofString "is_guest") [false,false] zbd:=by
  obtain ⟨f,fd,U,hm⟩:=T.u_is_guest
  refine ⟨f,fd,zfS,?_,hm,U.kp,U.binds (ps:=zfS) fun _ _ _ _ _ _ us hl=>match us,hl with|[_,_],_=>rfl,zau⟩
  refine xwQ (k:=5) false zaC U zkt rfl rfl fun _ _ _ _ _ _ _ _ _ _ _ hnw hr hx hpo=>?_
  exact (zam (by exact (za2 hnw (zeE (zaE (zga T) hr xwo hx (zad (zaa 1) zar)) (zgA (zly zsI zcu zbQ zkG zcu zbQ zai (zaa 1) (zaa 0)))))))
abbrev zkj:List Str:=["n","thing"]
abbrev zeo:List Str:=["n","thing"]
theorem ziZ:zax zkj zeo (zaj (top 17)):=⟨rfl,rfl,rfl,xwD,rfl,xwD,xwD⟩
abbrev zdx:List Str:=["n","thing","part"]
theorem zhy:zdx.Nodup:=by decide +kernel
def zdh:DS:=(zbN (zhD (zcZ "tuple" (zab 1)) (dFn zjl (dA (dFz (za0 (dIt (zab 1)) (zaM 2) dTT (zag zbd (dR (zab 0) (dR (zab 2) dR0))) 1)) dA0))))
def zc8:FD:=zaq false [false,false] 0 zdh
theorem zjI(T:Tx K mg cls):Dfn false P w K mg base (CXe P w) (xvC cls) 9 (Str.ofString "are_guests") [false,false] zc8:=by
  obtain ⟨f,fd,U,hm⟩:=T.u_are_guests
  refine ⟨f,fd,zeo,?_,hm,U.kp,U.binds (ps:=zeo) fun _ _ _ _ _ _ us hl=>match us,hl with|[_,_],_=>rfl,zau⟩
  refine xwQ (k:=8) false zaC U ziZ rfl rfl fun _ _ _ _ _ _ _ _ _ _ _ hnw hr hx hpo=>?_
  exact (zam (by exact (za2 hnw (zeE (zd4 zcT rfl T.b_isinstance zd5 rfl T.b_tuple zdj (zaa 1)) (zgA (zjZ rfl T.b_all (za6 (zcb (zcF (zaa 1)) rfl (N':=zdx) (m:=1) xwk rfl (zaI xwk) (zbj xwk) (zbs xwk) (fun cl L s H fp G H' w Y=>⟨(zaT (i:=2) zhy rfl xwO (xwN rfl)),zbZ,(zaE (zfX T) hr xwo (zjz fun _ z=>z) (zad (zaa 0) (zad (zaa 2) zar)))⟩)))))))))
abbrev zrM:List Str:=["numbers"]
abbrev zkO:List Str:=["numbers"]
theorem zqZ:zax zrM zkO (zaj (top 18)):=⟨rfl,rfl,rfl,xwD,rfl,xwD,xwD⟩
abbrev zg8:List Str:=["numbers","k"]
theorem zmA:zg8.Nodup:=by decide +kernel
def zlq:DS:=(zbN (dFn zjl (dA (dFz (za0 (zbt (dOp zhI (dFn zbz (dA (zab 0) dA0)) (dC (.int 1)))) (zaM 1) dTT (dOp gLt (dOp gIx (zab 0) (zab 1)) (dOp gIx (zab 0) (dOp zbe (zab 1) (dC (.int 1))))) 1)) dA0)))
def zhv:FD:=zaq false [false] 0 zlq
theorem zpt(T:Tx K mg cls):Dfn false P w K mg base (CXe P w) (xvC cls) 3 (Str.ofString "rises") [false] zhv:=by
  obtain ⟨f,fd,U,hm⟩:=T.u_rises
  refine ⟨f,fd,zkO,?_,hm,U.kp,U.binds (ps:=zkO) fun _ _ _ _ _ _ us hl=>match us,hl with|[_],_=>rfl,zau⟩
  refine xwQ (k:=2) false zaC U zqZ rfl rfl fun _ _ _ _ _ _ _ _ _ _ _ hnw hr hx hpo=>?_
  exact (zam (by exact (za2 hnw (zjZ rfl T.b_all (za6 (zcb (zbH rfl T.b_range (zl4 (zcJ T.b_len (zaa 0)) zai)) rfl (N':=zg8) (m:=1) xwk rfl (zaI xwk) (zbj xwk) (zbs xwk) (fun cl L s H fp G H' w Y=>⟨(zaT (i:=1) zmA rfl xwO (xwN rfl)),zbZ,(zv8 (zbw (zaa 0) (zaa 1)) (zbw (zaa 0) (zbS (zaa 1) zai)))⟩)))))))
abbrev znh:List Str:=["n","thing"]
abbrev zgp:List Str:=["n","thing"]
theorem zla:zax znh zgp (zaj (top 19)):=⟨rfl,rfl,rfl,xwD,rfl,xwD,xwD⟩
def zfQ:DS:=(zaF (dEx (zag zaA (dR (zab 0) dR0))) (zbN (zhD (zag zc8 (dR (zab 0) (dR (zab 1) dR0))) (zhD (dOp gGt (dFn zbz (dA (zab 1) dA0)) (dC (.int 0))) (zag zhv (dR (zab 1) dR0))))))
def ze1:FD:=zaq false [false,false] 0 zfQ
theorem zmD(T:Tx K mg cls):Dfn false P w K mg base (CXe P w) (xvC cls) 12 (Str.ofString "is_party") [false,false] ze1:=by
  obtain ⟨f,fd,U,hm⟩:=T.u_is_party
  refine ⟨f,fd,zgp,?_,hm,U.kp,U.binds (ps:=zgp) fun _ _ _ _ _ _ us hl=>match us,hl with|[_,_],_=>rfl,zau⟩
  refine xwQ (k:=11) false zaC U zla rfl rfl fun _ _ _ _ _ _ _ _ _ _ _ hnw hr hx hpo=>?_
  exact (zae (by exact (zdt (zaE (zeD T) hr xwo hx (zad (zaa 0) zar)))) (zam (by exact (za2 hnw (zeE (zaE (zjI T) hr xwo hx (zad (zaa 0) (zad (zaa 1) zar))) (zeE (zvF (zcJ T.b_len (zaa 1)) zai) (zgA (zaE (zpt T) hr xwo hx (zad (zaa 1) zar)))))))))
abbrev zkn:List Str:=["n","thing"]
abbrev zer:List Str:=["n","thing"]
theorem zjg:zax zkn zer (zaj (top 20)):=⟨rfl,rfl,rfl,xwD,rfl,xwD,xwD⟩
abbrev zdw:List Str:=["n","thing","part"]
theorem zhn:zdw.Nodup:=by decide +kernel
def zc7:DS:=(zaF (dEx (zag zaA (dR (zab 0) dR0))) (zaF (dIf (zdW (zaP (dTB (zcZ "list" (zab 1)))) (dTB (dOp gGt (dFn zbz (dA (zab 1) dA0)) (dC (.int 8))))) (zbN (dC (.bl false))) dNx) (zbN (dFn zjl (dA (dFz (za0 (dIt (zab 1)) (zaM 2) dTT (zag ze1 (dR (zab 0) (dR (zab 2) dR0))) 1)) dA0)))))
def zc3:FD:=zaq false [false,false] 0 zc7
theorem zkc(T:Tx K mg cls):Dfn false P w K mg base (CXe P w) (xvC cls) 15 (Str.ofString "is_parties") [false,false] zc3:=by
  obtain ⟨f,fd,U,hm⟩:=T.u_is_parties
  refine ⟨f,fd,zer,?_,hm,U.kp,U.binds (ps:=zer) fun _ _ _ _ _ _ us hl=>match us,hl with|[_,_],_=>rfl,zau⟩
  refine xwQ (k:=14) false zaC U zjg rfl rfl fun _ _ _ _ _ _ _ _ _ _ _ hnw hr hx hpo=>?_
  exact (zae (by exact (zdt (zaE (zeD T) hr xwo hx (zad (zaa 0) zar)))) (zae (by exact (zcd (JW.jt (zd2 (zcr (zcf (zd4 zrd rfl T.b_isinstance zd5 rfl T.b_list zoY (zaa 1)))) (zd3 (zqG (zcJ T.b_len (zaa 1)) (znr rfl T.g_MOST_PARTIES.choose_spec))))) (zam (by exact (za2 hnw zcR))) zaK)) (zam (by exact (za2 hnw (zjZ rfl T.b_all (za6 (zcb (zcF (zaa 1)) rfl (N':=zdw) (m:=1) xwk rfl (zaI xwk) (zbj xwk) (zbs xwk) (fun cl L s H fp G H' w Y=>⟨(zaT (i:=2) zhn rfl xwO (xwN rfl)),zbZ,(zaE (zmD T) hr xwo (zjz fun _ z=>z) (zad (zaa 0) (zad (zaa 2) zar)))⟩)))))))))
abbrev zhp:List Str:=["n","thing"]
abbrev zcV:List Str:=["n","thing"]
theorem zgN:zax zhp zcV (zaj (top 15)):=⟨rfl,rfl,rfl,xwD,rfl,xwD,xwD⟩
def zbf:DS:=(dIf (zaP (dTB (zag zc3 (dR (zab 0) (dR (zab 1) dR0))))) (zin 1 (dA (dC (.str (Str.ofString "these are no parties of so many guests"))) dA0)) dNx)
def zaS:FD:=zaq false [false,false] 0 zbf
theorem zel(T:Tx K mg cls):Dfn false P w K mg base (CXe P w) (xvC cls) 18 (Str.ofString "check_parties") [false,false] zaS:=by
  obtain ⟨f,fd,U,hm⟩:=T.u_check_parties
  refine ⟨f,fd,zcV,?_,hm,U.kp,U.binds (ps:=zcV) fun _ _ _ _ _ _ us hl=>match us,hl with|[_,_],_=>rfl,zau⟩
  refine xwQ (k:=17) false zaC U zgN rfl rfl fun _ _ _ _ _ _ _ _ _ _ _ hnw hr hx hpo=>?_
  exact (zam (by exact (zcd (zcr (zcf (zaE (zkc T) hr xwo hx (zad (zaa 0) (zad (zaa 1) zar))))) (zam (by exact (zlN hx rfl (T.xc 1 xwd).cls T.xm1 rfl (zac zpg zap)))) zaK)))
end
section
variable{P:Program}{w:World}{K:W.Frag}{mg:Str->Option Value}{base:Heap}{xv:Nat->Value}{cls:Nat->Addr}
abbrev zgd:List Str:=["parties","thing"]
abbrev zcx:List Str:=["parties","thing"]
theorem zfB:zax zgd zcx (zaj (top 22)):=⟨rfl,rfl,rfl,xwD,rfl,xwD,xwD⟩
def zct:DS:=(zbN (zhD (zag zbR (dR (zab 1) dR0)) (zgC gLe gLt (dC (.int 0)) (zab 1) (dFn zbz (dA (zab 0) dA0)))))
def zby:FD:=zaq false [false,false] 0 zct
theorem zfZ(T:Tx K mg cls):Dfn false P w K mg base (CXe P w) (xvC cls) 6 (Str.ofString "is_party_number") [false,false] zby:=by
  obtain ⟨f,fd,U,hm⟩:=T.u_is_party_number
  refine ⟨f,fd,zcx,?_,hm,U.kp,U.binds (ps:=zcx) fun _ _ _ _ _ _ us hl=>match us,hl with|[_,_],_=>rfl,zau⟩
  refine xwQ (k:=5) false zaC U zfB rfl rfl fun _ _ _ _ _ _ _ _ _ _ _ hnw hr hx hpo=>?_
  exact (zam (by exact (za2 hnw (zeE (zaE (zga T) hr xwo hx (zad (zaa 1) zar)) (zgA (zly zsI zcu zbQ zkG zcu zbQ zai (zaa 1) (zcJ T.b_len (zaa 0))))))))
abbrev zsZ:List Str:=["party","one","other","third"]
abbrev zkL:List Str:=["party","one","other","third"]
theorem zqo:zax zsZ zkL (zaj (top 23)):=⟨rfl,rfl,rfl,xwD,rfl,xwD,xwD⟩
def zkN:DS:=(zbN (zhD (dOp (gIn false) (zab 1) (zab 0)) (zhD (dOp (gIn false) (zab 2) (zab 0)) (dOp (gIn true) (zab 3) (zab 0)))))
def zeU:FD:=zaq false [false,false,false,false] 0 zkN
theorem zoW(T:Tx K mg cls):Dfn false P w K mg base (CXe P w) (xvC cls) 3 (Str.ofString "links") [false,false,false,false] zeU:=by
  obtain ⟨f,fd,U,hm⟩:=T.u_links
  refine ⟨f,fd,zkL,?_,hm,U.kp,U.binds (ps:=zkL) fun _ _ _ _ _ _ us hl=>match us,hl with|[_,_,_,_],_=>rfl,zau⟩
  refine xwQ (k:=2) false zaC U zqo rfl rfl fun _ _ _ _ _ _ _ _ _ _ _ hnw hr hx hpo=>?_
  exact (zam (by exact (za2 hnw (zeE (zt8 (zqW hr) (zaa 1) (zaa 0)) (zeE (zt8 (zqW hr) (zaa 2) (zaa 0)) (zgA (zqB (zqW hr) (zaa 3) (zaa 0))))))))
abbrev zqN:List Str:=["n","parties","thing","one","other","third","guests","numbers"]
abbrev ziH:List Str:=["n","parties","thing","one","other","third"]
theorem zh9:zax zqN ziH (zaj (top 24)):=⟨rfl,rfl,rfl,xwD,rfl,xwD,xwD⟩
abbrev zfu:List Str:=["n","parties","thing","one","other","third","guests","numbers","part"]
theorem zln:zfu.Nodup:=by decide +kernel
abbrev zfw:List Str:=["n","parties","thing","one","other","third","guests","numbers","part"]
theorem zk8:zfw.Nodup:=by decide +kernel
abbrev zfo:List Str:=["n","parties","thing","one","other","third","guests","numbers","k","number"]
theorem zkI:zfo.Nodup:=by decide +kernel
def zdF:DS:=(zaF (dIf (zdW (zaP (dTB (zcZ "tuple" (zab 2)))) (zdW (dTB (dOp gLt (dFn zbz (dA (zab 2) dA0)) (dC (.int 3)))) (dTB (dOp (gEq false) (dOp zkf (dFn zbz (dA (zab 2) dA0)) (dC (.int 2))) (dC (.int 0)))))) (zbN (dC (.bl false))) dNx) (zaF (zb1 6 (zqP 0 (zab 2))) (zaF (zb1 7 (zqP 1 (zab 2))) (zaF (dIf (zaP (dTB (dFn zjl (dA (dFz (za0 (dIt (zab 6)) (zaM 8) dTT (zag zbd (dR (zab 0) (dR (zab 8) dR0))) 1)) dA0)))) (zbN (dC (.bl false))) dNx) (zaF (dIf (zaP (dTB (dFn zjl (dA (dFz (za0 (dIt (zab 7)) (zaM 8) dTT (zag zby (dR (zab 1) (dR (zab 8) dR0))) 1)) dA0)))) (zbN (dC (.bl false))) dNx) (zaF (dIf (zdW (dTB (dOp (gEq true) (dOp gIx (zab 6) (dC (.int 0))) (zab 3))) (dTB (dOp (gEq true) (dOp gIx (zab 6) (zjn (dC (.int 1)))) (zab 4)))) (zbN (dC (.bl false))) dNx) (zbN (dFn zjl (dA (dFz (za0 (zlG (zab 7)) (zeh 8 9) dTT (zag zeU (dR (dOp gIx (zab 1) (zab 9)) (dR (dOp gIx (zab 6) (zab 8)) (dR (dOp gIx (zab 6) (dOp zbe (zab 8) (dC (.int 1)))) (dR (zab 5) dR0))))) 2)) dA0)))))))))
def zfn:FD:=zaq false [false,false,false,false,false,false] 2 zdF
theorem zqV(T:Tx K mg cls):Dfn false P w K mg base (CXe P w) (xvC cls) 9 (Str.ofString "is_way") [false,false,false,false,false,false] zfn:=by
  obtain ⟨f,fd,U,hm⟩:=T.u_is_way
  refine ⟨f,fd,ziH,?_,hm,U.kp,U.binds (ps:=ziH) fun _ _ _ _ _ _ us hl=>match us,hl with|[_,_,_,_,_,_],_=>rfl,zau⟩
  refine xwQ (k:=8) false zaC U zh9 rfl rfl fun _ _ _ _ _ _ _ _ _ _ _ hnw hr hx hpo=>?_
  exact (zae (by exact (zcd (JW.jt (zd2 (zcr (zcf (zd4 zcT rfl T.b_isinstance zd5 rfl T.b_tuple zdj (zaa 2)))) (zd2 (znK (zcJ T.b_len (zaa 2)) zai) (zd3 (zmr (zhh hr) (zgz (zcJ T.b_len (zaa 2)) zai) zai))))) (zam (by exact (za2 hnw zcR))) zaK)) (zae (by exact (zaY (i:=6) zh9.nd rfl xwO (xwN rfl) (zq2 (zaa 2)))) (zae (by exact (zaY (i:=7) zh9.nd rfl xwO (xwN rfl) (zpG (zaa 2)))) (zae (by exact (zcd (zcr (zcf (zjZ rfl T.b_all (za6 (zcb (zcF (zaa 6)) rfl (N':=zfu) (m:=1) xwk rfl (zaI xwk) (zbj xwk) (zbs xwk) (fun cl L s H fp G H' w Y=>⟨(zaT (i:=8) zln rfl xwO (xwN rfl)),zbZ,(zaE (zfX T) hr xwo (zjz fun _ z=>z) (zad (zaa 0) (zad (zaa 8) zar)))⟩)))))) (zam (by exact (za2 hnw zcR))) zaK)) (zae (by exact (zcd (zcr (zcf (zjZ rfl T.b_all (za6 (zcb (zcF (zaa 7)) rfl (N':=zfw) (m:=1) xwk rfl (zaI xwk) (zbj xwk) (zbs xwk) (fun cl L s H fp G H' w Y=>⟨(zaT (i:=8) zk8 rfl xwO (xwN rfl)),zbZ,(zaE (zfZ T) hr xwo (zjz fun _ z=>z) (zad (zaa 1) (zad (zaa 8) zar)))⟩)))))) (zam (by exact (za2 hnw zcR))) zaK)) (zae (by exact (zcd (JW.jt (zd2 (zgo (zhh hr) (zbw (zaa 6) zai) (zaa 3)) (zd3 (zgo (zhh hr) (zbw (zaa 6) (zik zai)) (zaa 4))))) (zam (by exact (za2 hnw zcR))) zaK)) (zam (by exact (za2 hnw (zjZ rfl T.b_all (za6 (zcb (zqb rfl T.b_enumerate (zaa 7)) rfl (N':=zfo) (m:=2) xwk rfl (zaI xwk) (zbj xwk) (zbs xwk) (fun cl L s H fp G H' w Y=>⟨(zky (i:=8) (j:=9) rfl zkI rfl rfl xwO xwO (xwN rfl) (xwN rfl)),zbZ,(zaE (zoW T) hr xwo (zjz fun _ z=>z) (zad (zbw (zaa 1) (zaa 9)) (zad (zbw (zaa 6) (zaa 8)) (zad (zbw (zaa 6) (zbS (zaa 8) zai)) (zad (zaa 5) zar)))))⟩)))))))))))))
abbrev zuD:List Str:=["a","b","c"]
abbrev zow:List Str:=["a","b","c"]
theorem zsb:zax zuD zow (zaj (top 25)):=⟨rfl,rfl,rfl,xwD,rfl,xwD,xwD⟩
def znA:DS:=(zbN (dFz (zbU (dA (zb9 (dA (zab 0) (dA (zab 1) (dA (zab 2) dA0)))) (dA (zb9 (dA (zab 0) (dA (zab 2) (dA (zab 1) dA0)))) (dA (zb9 (dA (zab 1) (dA (zab 2) (dA (zab 0) dA0)))) dA0))))))
def zht:FD:=zaq false [false,false,false] 0 znA
theorem zrC(T:Tx K mg cls):Dfn false P w K mg base (CXe P w) (xvC cls) 3 (Str.ofString "legs") [false,false,false] zht:=by
  obtain ⟨f,fd,U,hm⟩:=T.u_legs
  refine ⟨f,fd,zow,?_,hm,U.kp,U.binds (ps:=zow) fun _ _ _ _ _ _ us hl=>match us,hl with|[_,_,_],_=>rfl,zau⟩
  refine xwQ (k:=2) false zaC U zsb rfl rfl fun _ _ _ _ _ _ _ _ _ _ _ hnw hr hx hpo=>?_
  exact (zam (by exact (za2 hnw (za6 (zb3 (zac (zaX (zac (zaa 0) (zac (zaa 1) (zac (zaa 2) zap)))) (zac (zaX (zac (zaa 0) (zac (zaa 2) (zac (zaa 1) zap)))) (zac (zaX (zac (zaa 1) (zac (zaa 2) (zac (zaa 0) zap)))) zap))))))))
abbrev zmQ:List Str:=["n","parties","thing","wanted"]
abbrev zfY:List Str:=["n","parties","thing","wanted"]
theorem zlf:zax zmQ zfY (zaj (top 26)):=⟨rfl,rfl,rfl,xwD,rfl,xwD,xwD⟩
abbrev zei:List Str:=["n","parties","thing","wanted","way","leg"]
theorem ziW:zei.Nodup:=by decide +kernel
def zgg:DS:=(zaF (dIf (zdW (zaP (dTB (zcZ "tuple" (zab 2)))) (dTB (dOp (gEq true) (dFn zbz (dA (zab 2) dA0)) (dFn zbz (dA (zab 3) dA0))))) (zbN (dC (.bl false))) dNx) (zbN (dFn zjl (dA (dFz (za0 (zqs (zab 2) (zab 3)) (zeh 4 5) dTT (zag zfn (dR (zab 0) (dR (zab 1) (dR (zab 4) (dR (dOp gIx (zab 5) (dC (.int 0))) (dR (dOp gIx (zab 5) (dC (.int 1))) (dR (dOp gIx (zab 5) (dC (.int 2))) dR0))))))) 2)) dA0))))
def zfT:FD:=zaq false [false,false,false,false] 0 zgg
theorem zmt(T:Tx K mg cls):Dfn false P w K mg base (CXe P w) (xvC cls) 12 (Str.ofString "are_ways") [false,false,false,false] zfT:=by
  obtain ⟨f,fd,U,hm⟩:=T.u_are_ways
  refine ⟨f,fd,zfY,?_,hm,U.kp,U.binds (ps:=zfY) fun _ _ _ _ _ _ us hl=>match us,hl with|[_,_,_,_],_=>rfl,zau⟩
  refine xwQ (k:=11) false zaC U zlf rfl rfl fun _ _ _ _ _ _ _ _ _ _ _ hnw hr hx hpo=>?_
  exact (zae (by exact (zcd (JW.jt (zd2 (zcr (zcf (zd4 zcT rfl T.b_isinstance zd5 rfl T.b_tuple zdj (zaa 2)))) (zd3 (zgo (zhh hr) (zcJ T.b_len (zaa 2)) (zcJ T.b_len (zaa 3)))))) (zam (by exact (za2 hnw zcR))) zaK)) (zam (by exact (za2 hnw (zjZ rfl T.b_all (za6 (zcb (zsl rfl T.b_zip (zaa 2) (zaa 3)) rfl (N':=zei) (m:=2) xwk rfl (zaI xwk) (zbj xwk) (zbs xwk) (fun cl L s H fp G H' w Y=>⟨(zky (i:=4) (j:=5) rfl ziW rfl rfl xwO xwO (xwN rfl) (xwN rfl)),zbZ,(zaE (zqV T) hr xwo (zjz fun _ z=>z) (zad (zaa 0) (zad (zaa 1) (zad (zaa 4) (zad (zbw (zaa 5) zai) (zad (zbw (zaa 5) zai) (zad (zbw (zaa 5) zai) zar)))))))⟩))))))))
abbrev zqq:List Str:=["n","parties","thing","trio"]
abbrev zjb:List Str:=["n","parties","thing"]
theorem zjE:zax zqq zjb (zaj (top 27)):=⟨rfl,rfl,rfl,xwD,rfl,xwD,xwD⟩
abbrev zfA:List Str:=["n","parties","thing","trio","part"]
theorem zkP:zfA.Nodup:=by decide +kernel
def zfm:DS:=(zaF (dEx (zag zaS (dR (zab 0) (dR (zab 1) dR0)))) (zaF (dIf (zdW (zaP (dTB (zcZ "tuple" (zab 2)))) (dTB (dOp (gEq true) (dFn zbz (dA (zab 2) dA0)) (dC (.int 4))))) (zbN (dC (.bl false))) dNx) (zaF (zb1 3 (zbn (zab 2) dO0 (dO1 (dC (.int 3))))) (zaF (dIf (zdW (zaP (dTB (dFn zjl (dA (dFz (za0 (dIt (zab 3)) (zaM 4) dTT (zag zbd (dR (zab 0) (dR (zab 4) dR0))) 1)) dA0)))) (zaP (dTB (zag zhv (dR (zab 3) dR0))))) (zbN (dC (.bl false))) dNx) (zbN (zag zfT (dR (zab 0) (dR (zab 1) (dR (dOp gIx (zab 2) (dC (.int 3))) (dR (zag zht (dR (dOp gIx (zab 3) (dC (.int 0))) (dR (dOp gIx (zab 3) (dC (.int 1))) (dR (dOp gIx (zab 3) (dC (.int 2))) dR0)))) dR0))))))))))
def zbP:FD:=zaq false [false,false,false] 1 zfm
theorem ziw(T:Tx K mg cls):Dfn false P w K mg base (CXe P w) (xvC cls) 21 (Str.ofString "is_bar") [false,false,false] zbP:=by
  obtain ⟨f,fd,U,hm⟩:=T.u_is_bar
  refine ⟨f,fd,zjb,?_,hm,U.kp,U.binds (ps:=zjb) fun _ _ _ _ _ _ us hl=>match us,hl with|[_,_,_],_=>rfl,zau⟩
  refine xwQ (k:=20) false zaC U zjE rfl rfl fun _ _ _ _ _ _ _ _ _ _ _ hnw hr hx hpo=>?_
  exact (zae (by exact (zdt (zaE (zel T) hr xwo hx (zad (zaa 0) (zad (zaa 1) zar))))) (zae (by exact (zcd (JW.jt (zd2 (zcr (zcf (zd4 zcT rfl T.b_isinstance zd5 rfl T.b_tuple zdj (zaa 2)))) (zd3 (zgo (zhh hr) (zcJ T.b_len (zaa 2)) zai)))) (zam (by exact (za2 hnw zcR))) zaK)) (zae (by exact (zaY (i:=3) zjE.nd rfl xwO (xwN rfl) (zb6 (zaa 2) zb5 (zbg zai)))) (zae (by exact (zcd (JW.jt (zd2 (zcr (zcf (zjZ rfl T.b_all (za6 (zcb (zcF (zaa 3)) rfl (N':=zfA) (m:=1) xwk rfl (zaI xwk) (zbj xwk) (zbs xwk) (fun cl L s H fp G H' w Y=>⟨(zaT (i:=4) zkP rfl xwO (xwN rfl)),zbZ,(zaE (zfX T) hr xwo (zjz fun _ z=>z) (zad (zaa 0) (zad (zaa 4) zar)))⟩)))))) (zd3 (zcr (zcf (zaE (zpt T) hr xwo hx (zad (zaa 3) zar))))))) (zam (by exact (za2 hnw zcR))) zaK)) (zam (by exact (za2 hnw (zaE (zmt T) hr xwo hx (zad (zaa 0) (zad (zaa 1) (zad (zbw (zaa 2) zai) (zad (zaE (zrC T) hr xwo hx (zad (zbw (zaa 3) zai) (zad (zbw (zaa 3) zai) (zad (zbw (zaa 3) zai) zar)))) zar))))))))))))
end
section
variable{P:Program}{w:World}{K:W.Frag}{mg:Str->Option Value}{base:Heap}{xv:Nat->Value}{cls:Nat->Addr}
abbrev zkK:List Str:=["parties","one","other","third","found","waiting","guest","number","party","mate"]
abbrev zeO:List Str:=["parties","one","other","third"]
theorem zce:zax zkK zeO (zaj (top 28)):=⟨rfl,rfl,rfl,xwD,rfl,xwD,xwD⟩
def zeR:DS:=(zaF (zoB 4 (zab 1) (zb9 (dA (zab 1) dA0))) (zaF (zbF 5 (zbU (dA (zab 1) dA0))) (zaF (zcI (dTB (dOp gGt (zdS 5) (dC (.int 0)))) (zaF (zb1 6 (zf6 5 (dC (.int 0)))) (ze4 (zoX (zab 0)) (zeh 7 8) (ze4 (dIt (zab 8)) (zaM 9) (dIf (zfI (zur false 4 (zab 9)) (dTB (zag zeU (dR (zab 8) (dR (zab 6) (dR (zab 9) (dR (zab 3) dR0))))))) (zaF (zmy 4 (zab 9) (dOp zbm (zlk 4 (zab 6)) (zb9 (dA (zab 7) (dA (zab 9) dA0))))) (dEx (zft 5 (zab 9)))) dNx)))) 10) (zbN (zp0 4 (zab 2))))))
def zcw:FD:=zaq false [false,false,false,false] 6 zeR
theorem zkJ(T:Tx K mg cls):Dfn false P w K mg base (CXe P w) (xvC cls) 6 (Str.ofString "least_way") [false,false,false,false] zcw:=by
  obtain ⟨f,fd,U,hm⟩:=T.u_least_way
  refine ⟨f,fd,zeO,?_,hm,U.kp,U.binds (ps:=zeO) fun _ _ _ _ _ _ us hl=>match us,hl with|[_,_,_,_],_=>rfl,zau⟩
  refine xwQ (k:=5) false zaC U zce rfl rfl fun _ _ _ _ _ _ _ _ _ _ _ hnw hr hx hpo=>?_
  exact (zae (by exact (zsJ (i:=4) zce.nd rfl xwO (xwN rfl) (zaa 1) (zaX (zac (zaa 1) zap)))) (zae (by exact (zdr (i:=5) zce.nd rfl xwO (xwN rfl) (zb3 (zac (zaa 1) zap)))) (zae (by exact (zlL 10 hpo (zqG (zir 5 rfl T.b_len) zai) (zae (by exact (zaY (i:=6) zce.nd rfl xwO (xwN rfl) (zlB 5 zai))) (zam (by exact (zeC hpo rfl (zsx rfl T.b_enumerate (zaa 0)) (zky (i:=7) (j:=8) rfl zce.nd rfl rfl xwO xwO (xwN rfl) (xwN rfl)) (zam (by exact (zeC hpo rfl (zcF (zaa 8)) (zaT (i:=9) zce.nd rfl xwO (xwN rfl)) (zam (by exact (zcd (JW.jt (zo9 (zop 4 hr (zaa 9)) (zkX (zcf (zaE (zoW T) hr xwo hx (zad (zaa 8) (zad (zaa 6) (zad (zaa 9) (zad (zaa 3) zar))))))))) (zae (by exact (zsF 4 hr (zaa 9) (zbI (zsk 4 hr (zaa 6)) (zaX (zac (zaa 7) (zac (zaa 9) zap)))))) (zam (by exact (zdt (ziX 5 (zaa 9)))))) zaK)))))))))))) (zam (by exact (za2 hnw (zqM 4 hr (zaa 2))))))))
abbrev zmS:List Str:=["parties","a","b","c","ways"]
abbrev zgj:List Str:=["parties","a","b","c"]
theorem zgX:zax zmS zgj (zaj (top 29)):=⟨rfl,rfl,rfl,xwD,rfl,xwD,xwD⟩
abbrev zee:List Str:=["parties","a","b","c","ways","leg"]
theorem zi2:zee.Nodup:=by decide +kernel
def zd1:DS:=(zaF (zb1 4 (dFz (za0 (dIt (zag zht (dR (zab 1) (dR (zab 2) (dR (zab 3) dR0))))) (zaM 5) dTT (zag zcw (dR (zab 0) (dR (dOp gIx (zab 5) (dC (.int 0))) (dR (dOp gIx (zab 5) (dC (.int 1))) (dR (dOp gIx (zab 5) (dC (.int 2))) dR0))))) 1))) (zbN (zuQ (dTB (dOp (gIn false) (dC .non) (zab 4))) (dC .non) (zb9 (dA (zab 1) (dA (zab 2) (dA (zab 3) (dA (dFn zdu (dA (zab 4) dA0)) dA0))))))))
def zcs:FD:=zaq false [false,false,false,false] 1 zd1
theorem zmU(T:Tx K mg cls):Dfn false P w K mg base (CXe P w) (xvC cls) 9 (Str.ofString "bar_past") [false,false,false,false] zcs:=by
  obtain ⟨f,fd,U,hm⟩:=T.u_bar_past
  refine ⟨f,fd,zgj,?_,hm,U.kp,U.binds (ps:=zgj) fun _ _ _ _ _ _ us hl=>match us,hl with|[_,_,_,_],_=>rfl,zau⟩
  refine xwQ (k:=8) false zaC U zgX rfl rfl fun _ _ _ _ _ _ _ _ _ _ _ hnw hr hx hpo=>?_
  exact (zae (by exact (zgu (i:=4) zgX.nd rfl xwO (xwN rfl) (zcF (zaE (zrC T) hr xwo hx (zad (zaa 1) (zad (zaa 2) (zad (zaa 3) zar))))) rfl (N':=zee) (m:=1) xwk rfl (zaI xwk) (zbj xwk) (zbs xwk) (fun cl L s H fp G H' w Y=>⟨(zaT (i:=5) zi2 rfl xwO (xwN rfl)),zbZ,(zaE (zkJ T) hr xwo (zjz fun _ z=>z) (zad (zaa 0) (zad (zbw (zaa 5) zai) (zad (zbw (zaa 5) zai) (zad (zbw (zaa 5) zai) zar)))))⟩))) (zam (by exact (za2 hnw (ztw (zsU (zqW hr) zfz (zaa 4)) zfz (zaX (zac (zaa 1) (zac (zaa 2) (zac (zaa 3) (zac (ziv T.b_tuple (zaa 4)) zap))))))))))
abbrev zlo:List Str:=["bar"]
abbrev zfi:List Str:=["bar"]
theorem zj5:zax zlo zfi (zaj (top 30)):=⟨rfl,rfl,rfl,xwD,rfl,xwD,xwD⟩
abbrev zdM:List Str:=["bar","way"]
theorem zhJ:zdM.Nodup:=by decide +kernel
def zeQ:DS:=(zbN (dFn zmG (dA (dFz (za0 (dIt (dOp gIx (zab 0) (dC (.int 3)))) (zaM 1) dTT (dFn zbz (dA (zab 1) dA0)) 1)) dA0)))
def zcP:FD:=zaq false [false] 0 zeQ
theorem zkr(T:Tx K mg cls):Dfn false P w K mg base (CXe P w) (xvC cls) 3 (Str.ofString "length_of") [false] zcP:=by
  obtain ⟨f,fd,U,hm⟩:=T.u_length_of
  refine ⟨f,fd,zfi,?_,hm,U.kp,U.binds (ps:=zfi) fun _ _ _ _ _ _ us hl=>match us,hl with|[_],_=>rfl,zau⟩
  refine xwQ (k:=2) false zaC U zj5 rfl rfl fun _ _ _ _ _ _ _ _ _ _ _ hnw hr hx hpo=>?_
  exact (zam (by exact (za2 hnw (ztr rfl T.b_sum (za6 (zcb (zcF (zbw (zaa 0) zai)) rfl (N':=zdM) (m:=1) xwk rfl (zaI xwk) (zbj xwk) (zbs xwk) (fun cl L s H fp G H' w Y=>⟨(zaT (i:=1) zhJ rfl xwO (xwN rfl)),zbZ,(zcJ T.b_len (zaa 1))⟩)))))))
end
section
variable{P:Program}{w:World}{K:W.Frag}{mg:Str->Option Value}{base:Heap}{xv:Nat->Value}{cls:Nat->Addr}
abbrev zc0:List Str:=["call","error","e","kinds"]
theorem zbk:zax zc0 ["call"] (zaj (top 43)):=⟨rfl,rfl,rfl,xwD,rfl,xwD,xwD⟩
abbrev zcO:List Str:=["call","error","e","kinds","k"]
theorem zfO:zcO.Nodup:=by decide +kernel
def zaQ(n:Nat)(Cc:Addr):DS:=(zaF (zb1 1 (dC .non)) (zaF (znI 0 1 2 Cc) (zaF (zb1 3 (dFz (zbU (dA (zhS 1 Cc (n == 0)) (dA (zhS 1 Cc (n == 1)) (dA (zhS 1 Cc (n == 2)) dA0)))))) (zaF (zb1 3 (dFz (zfG (zab 3) (dFz (zbU (dA (zhS 1 Cc (n == 3)) (dA (zhS 1 Cc (n == 4)) (dA (zhS 1 Cc (n == 5)) dA0)))))))) (zaF (zb1 3 (dFz (zfG (zab 3) (dFz (zbU (dA (zhS 1 Cc (n == 6)) (dA (zhS 1 Cc (n == 7)) dA0))))))) (zaF (dIf (zaP (dTB (zhS 1 Cc true))) dNo dNx) (zf9 (za0 (zbt (dC (.int 8))) (zaM 4) (dTB (dOp gIx (zab 3) (zab 4))) (zab 4) 1))))))))
theorem zeG(T:Tx K mg cls){C:Cn}{k:Nat}{f:Addr}(XR:Cx)(CR:Cn)(n:Nat)(Fa:Addr)(hn:n<8)(hX:∃ cdv A outer s H E,XR=ziN (CXe P w) P w K mg base zc0 (Str.ofString "_law_refused") (zaj (top 43)) f cdv A outer s H E)(hC:∃ G H,CR=zqx C G H (L2.start zc0 [.ref Fa]))(hr:zcY (k+1) XR.A)
  (hF:∀ pS Y H s,L2.Inv XR pS Y H s->zcq CR.H₀ H->codeAny (model XR.prog XR.w) XR.A (.call (.ref Fa) ⟨[],[]⟩) (fun r s'=>∃ e,r=.error e/\CXf XR.prog XR.w XR.stack H s (EL (cls n) H) e s') s)
  (hFn:∀ pS Y H s,L2.Inv XR pS Y H s->zcq CR.H₀ H->W.FnAt Fa s.heap):JSs XR CR (zcj (top 43)) (zaQ n (cls n)):=by
  obtain ⟨cdv,A,outer,s,H,E,rfl⟩:=hX
  obtain ⟨G,H',rfl⟩:=hC
  obtain ⟨Cs,xs,hmS,hsub⟩:=T.xS
  have hnw:(zqx C G H' (L2.start zc0 [.ref Fa])).nw=true:=rfl
  exact (zae (by exact (zaY (i:=1) zbk.nd rfl xwO (show 1∉([0]:List Nat) by decide) zfz)) (zae (by exact (zpa rfl zbk.nd rfl rfl rfl rfl rfl hF hFn xs (hsub n hn) hmS rfl rfl rfl rfl xwd xwd xwd rfl rfl rfl)) (zae (by exact (zaY (i:=3) zbk.nd rfl xwO (show 3∉([0]:List Nat) by decide) (za6 (zb3 (zac (zg1 1 (T.xc n hn) (T.xi n 0 hn xwd) rfl T.b_isinstance rfl T.xm0) (zac (zg1 1 (T.xc n hn) (T.xi n 1 hn xwd) rfl T.b_isinstance rfl T.xm1) (zac (zg1 1 (T.xc n hn) (T.xi n 2 hn xwd) rfl T.b_isinstance rfl T.xm2) zap))))))) (zae (by exact (zaY (i:=3) zbk.nd rfl xwO (show 3∉([0]:List Nat) by decide) (za6 (by refine zhg (zaa 3) ?_;exact (za6 (zb3 (zac (zg1 1 (T.xc n hn) (T.xi n 3 hn xwd) rfl T.b_isinstance rfl T.xm3) (zac (zg1 1 (T.xc n hn) (T.xi n 4 hn xwd) rfl T.b_isinstance rfl T.xm4) (zac (zg1 1 (T.xc n hn) (T.xi n 5 hn xwd) rfl T.b_isinstance rfl T.xm5) zap))))))))) (zae (by exact (zaY (i:=3) zbk.nd rfl xwO (show 3∉([0]:List Nat) by decide) (za6 (by refine zhg (zaa 3) ?_;exact (za6 (zb3 (zac (zg1 1 (T.xc n hn) (T.xi n 6 hn xwd) rfl T.b_isinstance rfl T.xm6) (zac (zg1 1 (T.xc n hn) (T.xi n 7 hn xwd) rfl T.b_isinstance rfl T.xm7) zap)))))))) (zae (by exact (zcd (zcr (zcf (zrU 1 (T.xc n hn) (T.xV n hn) rfl T.b_isinstance rfl T.b_ValueError rfl))) (zam zpS) zaK)) (zam (by exact (zkx hnw (zcb (zbH rfl T.b_range zai) rfl (N':=zcO) (m:=1) xwk rfl (zaI xwk) (zbj xwk) (zbs xwk) (fun cl L s H fp G H' w Y=>⟨(zaT (i:=4) zfO rfl xwO (xwN rfl)),(zgq (zcf (zbw (zaa 3) (zaa 4)))),(zaa 4)⟩)))))))))))
theorem zdR:∀(n:Nat)(Cc:Addr),n<8->∃ Z,zaQ n Cc (some .opq::List.replicate 3 none)=.ok (.rt (.lst [.int n]),Z):=by
 intro n Cc h
 match n,h with
 |0,_=>exact ⟨_,by simp[zaQ,zaF,znI,zhS,zb1,zbF,dFz,zbU,dA,dA0,dC,zfG,zab,zfV,dIf,zaP,dTB,dNx,dNo,zf9,za0,zb0,zbt,za7,zaM,dOp,gIx,ixN,zdT,R.bind];try rfl⟩
 |1,_=>exact ⟨_,by simp[zaQ,zaF,znI,zhS,zb1,zbF,dFz,zbU,dA,dA0,dC,zfG,zab,zfV,dIf,zaP,dTB,dNx,dNo,zf9,za0,zb0,zbt,za7,zaM,dOp,gIx,ixN,zdT,R.bind];try rfl⟩
 |2,_=>exact ⟨_,by simp[zaQ,zaF,znI,zhS,zb1,zbF,dFz,zbU,dA,dA0,dC,zfG,zab,zfV,dIf,zaP,dTB,dNx,dNo,zf9,za0,zb0,zbt,za7,zaM,dOp,gIx,ixN,zdT,R.bind];try rfl⟩
 |3,_=>exact ⟨_,by simp[zaQ,zaF,znI,zhS,zb1,zbF,dFz,zbU,dA,dA0,dC,zfG,zab,zfV,dIf,zaP,dTB,dNx,dNo,zf9,za0,zb0,zbt,za7,zaM,dOp,gIx,ixN,zdT,R.bind];try rfl⟩
 |4,_=>exact ⟨_,by simp[zaQ,zaF,znI,zhS,zb1,zbF,dFz,zbU,dA,dA0,dC,zfG,zab,zfV,dIf,zaP,dTB,dNx,dNo,zf9,za0,zb0,zbt,za7,zaM,dOp,gIx,ixN,zdT,R.bind];try rfl⟩
 |5,_=>exact ⟨_,by simp[zaQ,zaF,znI,zhS,zb1,zbF,dFz,zbU,dA,dA0,dC,zfG,zab,zfV,dIf,zaP,dTB,dNx,dNo,zf9,za0,zb0,zbt,za7,zaM,dOp,gIx,ixN,zdT,R.bind];try rfl⟩
 |6,_=>exact ⟨_,by simp[zaQ,zaF,znI,zhS,zb1,zbF,dFz,zbU,dA,dA0,dC,zfG,zab,zfV,dIf,zaP,dTB,dNx,dNo,zf9,za0,zb0,zbt,za7,zaM,dOp,gIx,ixN,zdT,R.bind];try rfl⟩
 |7,_=>exact ⟨_,by simp[zaQ,zaF,znI,zhS,zb1,zbF,dFz,zbU,dA,dA0,dC,zfG,zab,zfV,dIf,zaP,dTB,dNx,dNo,zf9,za0,zb0,zbt,za7,zaM,dOp,gIx,ixN,zdT,R.bind];try rfl⟩
abbrev zk3:List Str:=["n","parties","<tab>","bars","c","b"]
abbrev zfc:List Str:=["n","parties"]
theorem zc4:zax zk3 zfc (zaj (top 31)):=⟨rfl,rfl,rfl,xwD,rfl,xwD,xwD⟩
abbrev zdL:List Str:=["n","parties","<tab>","bars","c","b","a"]
theorem zhR:zdL.Nodup:=by decide +kernel
abbrev zdN:List Str:=["n","parties","<tab>","bars","c","b","bar"]
theorem zhN:zdN.Nodup:=by decide +kernel
def zfe:DS:=(zaF (dEx (zag zaS (dR (zab 0) (dR (zab 1) dR0)))) (zaF (zbF 3 (zbU dA0)) (zaF (ze4 (zbt (zab 0)) (zaM 4) (ze4 (zbt (zab 4)) (zaM 5) (dEx (zmp 3 (dFz (za0 (zbt (zab 5)) (zaM 6) dTT (zag zcs (dR (zab 1) (dR (zab 6) (dR (zab 5) (dR (zab 4) dR0))))) 1)))))) (zaF (zbF 3 (za0 (dIt (zfV 3)) (zaM 6) (zq5 false (zab 6)) (zab 6) 1)) (zbN (zp8 2 zgJ (zb9 (dA (zag zcP (dR (zab 0) dR0)) (dA (zab 0) dA0))) (zfV 3)))))))
def zcy:FD:=zaq false ([false,false]++[true]) 3 zfe
theorem zlc(T:Tx K mg cls){f PT cL:Addr}{fd:FuncData}(U:Fun K (Str.ofString "least_bar") (Str.ofString "least_bar") (top 31) f fd)(hmx:mg (Str.ofString "least_bar")=some (.ref f))(hcL:fd.code=.ref cL)(hch:W.codeHdIn K cL PT=true)(hbm:base.BuiltinsAt mg PT)(hKb:K.In base):zvc P w K mg base (CXe P w) (xvC cls) 21 (Str.ofString "least_bar") ([false,false]++[true]) PT zcy:=by
  obtain ⟨fR,fdR,UR,hmR⟩:=T.u__law_refused
  refine ⟨f,fd,zfc,?_,hmx,U.kp,U.binds (ps:=zfc) fun _ _ _ _ _ _ us hl=>match us,hl with|[_,_],_=>rfl,zau⟩
  refine zqS (k:=20) (ks:=[false,false]) (m:=3) (xt:="<tab>") U hcL hch zc4 rfl rfl rfl (by unfold Vis;decide +kernel) hbm hKb fun X C hX hpp hσ0 hxv hnw hr hx hpo hLB=>?_
  obtain ⟨cdv,A,outer,s,H,E,rfl⟩:=hX
  obtain ⟨cG,cH,cw,cpp,cσ,cex,cxv,cnw⟩:=C
  dsimp only at hpp hσ0 hxv hnw
  subst hpp hxv hnw
  have hnw:(false:Bool)=false:=rfl
  exact (zae (by exact (zdt (zaE (zel T) hr xwo hx (zad (zaa 0) (zad (zaa 1) zar))))) (zae (by exact (zdr (i:=3) zc4.nd rfl xwO (show 3∉zaB ([false,false]++[true]) by decide) (zb3 zap))) (zae (by exact (zeC hpo rfl (zbH rfl T.b_range (zaa 0)) (zaT (i:=4) zc4.nd rfl xwO (show 4∉zaB ([false,false]++[true]) by decide)) (zam (by exact (zeC hpo rfl (zbH rfl T.b_range (zaa 4)) (zaT (i:=5) zc4.nd rfl xwO (show 5∉zaB ([false,false]++[true]) by decide)) (zam (by exact (zdt (zsw 3 (za6 (zcb (zbH rfl T.b_range (zaa 5)) rfl (N':=zdL) (m:=1) xwk rfl (zaI xwk) (zbj xwk) (zbs xwk) (fun cl L s H fp G H' w Y=>⟨(zaT (i:=6) zhR rfl xwO (xwN rfl)),zbZ,(zaE (zmU T) hr xwo (zjz fun _ z=>z) (zad (zaa 1) (zad (zaa 6) (zad (zaa 5) (zad (zaa 4) zar)))))⟩)))))))))))) (zae (by exact (zeS (i:=3) zc4.nd rfl xwO (show 3∉zaB ([false,false]++[true]) by decide) (zcF (zgx 3)) rfl (N':=zdN) (m:=1) xwk rfl (zaI xwk) (zbj xwk) (zbs xwk) (fun cl L s H fp G H' w Y=>⟨(zaT (i:=6) zhN rfl xwO (xwN rfl)),(zgq (zov (zaa 6))),(zaa 6)⟩))) (zam (by exact (za2 hnw (zrR (k:=3) (x:="bar") hLB (show 2∈zaB ([false,false]++[true]) by decide) hσ0 (hr.mono xwo) (fun XL CL hXL hpp hcv hnw hr hx=>by
   obtain ⟨Fa,cdv,A,outer,s,H,E,rfl⟩:=hXL
   obtain ⟨cG,cH,cw,cpp,cσ,cex,cxv,cnw⟩:=CL
   dsimp only at hpp hcv hnw
   subst hpp hcv hnw
   exact (zaX (zac (zaE (zkr T) hr xwo hx (zad (zaa 0) zar)) (zac (zaa 0) zap)))) ⟨rfl,rfl,rfl,xwD,rfl,xwD,xwD⟩ rfl T.b_min (zgx 3) (fun _ _ _ _ _=>.of_eq rfl)))))))))
end
section
variable{P:Program}{w:World}{K:W.Frag}{mg:Str->Option Value}{base:Heap}{xv:Nat->Value}{cls:Nat->Addr}
abbrev zhQ:List Str:=["script","k"]
abbrev zdl:List Str:=["script","k"]
theorem zh7:zax zhQ zdl (zaj (top 33)):=⟨rfl,rfl,rfl,xwD,rfl,xwD,xwD⟩
def zbV:DS:=(zaF (dIf (dTB (dOp gLt (zab 1) (dFn zbz (dA (zab 0) dA0)))) (zbN (dOp gIx (zab 0) (zab 1))) dNx) (zbN (dC (.int 0))))
def zcz:FD:=zaq false [false,false] 0 zbV
theorem zhT(T:Tx K mg cls):Dfn false P w K mg base (CXe P w) (xvC cls) 3 (Str.ofString "_law_cell_at") [false,false] zcz:=by
  obtain ⟨f,fd,U,hm⟩:=T.u__law_cell_at
  refine ⟨f,fd,zdl,?_,hm,U.kp,U.binds (ps:=zdl) fun _ _ _ _ _ _ us hl=>match us,hl with|[_,_],_=>rfl,zau⟩
  refine xwQ (k:=2) false zaC U zh7 rfl rfl fun _ _ _ _ _ _ _ _ _ _ _ hnw hr hx hpo=>?_
  exact (zae (by exact (zcd (znK (zaa 1) (zcJ T.b_len (zaa 0))) (zam (by exact (za2 hnw (zbw (zaa 0) (zaa 1))))) zaK)) (zam (by exact (za2 hnw zai))))
abbrev zjF:List Str:=["script","k","cell"]
abbrev zek:List Str:=["script","k"]
theorem zfl:zax zjF zek (zaj (top 34)):=⟨rfl,rfl,rfl,xwD,rfl,xwD,xwD⟩
def zc2:DS:=(zaF (zb1 2 (zag zcz (dR (zab 0) (dR (zab 1) dR0)))) (zaF (dIf (dTB (dOp gGe (zab 2) (dOp zqm (dC (.int 10)) (dC (.int 18))))) (zf9 (zbU (dA (dOp zhI (zab 2) (dOp zqm (dC (.int 10)) (dC (.int 18)))) (dA (dC (.bl true)) dA0)))) dNx) (zf9 (zbU (dA (dOp zkf (zab 2) (dC (.int 2147483647))) (dA (dC (.bl false)) dA0))))))
def zc9:FD:=zaq true [false,false] 1 zc2
theorem zjR(T:Tx K mg cls):Dfn true P w K mg base (CXe P w) (xvC cls) 6 (Str.ofString "_law_state") [false,false] zc9:=by
  obtain ⟨f,fd,U,hm⟩:=T.u__law_state
  refine ⟨f,fd,zek,?_,hm,U.kp,U.binds (ps:=zek) fun _ _ _ _ _ _ us hl=>match us,hl with|[_,_],_=>rfl,zau⟩
  refine xwQ (k:=5) true zaC U zfl rfl rfl fun _ _ _ _ _ _ _ _ _ _ _ hnw hr hx hpo=>?_
  exact (zae (by exact (zaY (i:=2) zfl.nd rfl xwO (xwN rfl) (zaE (zhT T) hr xwo hx (zad (zaa 0) (zad (zaa 1) zar))))) (zae (by exact (zcd (zvl (zaa 2) (zr3 zai zai)) (zam (by exact (zkx hnw (zb3 (zac (zl4 (zaa 2) (zr3 zai zai)) (zac zcR zap)))))) zaK)) (zam (by exact (zkx hnw (zb3 (zac (zgz (zaa 2) zai) (zac zcR zap))))))))
abbrev zle:List Str:=["state","many","found","stirred"]
abbrev zeM:List Str:=["state","many"]
theorem zdi:zax zle zeM (zaj (top 35)):=⟨rfl,rfl,rfl,xwD,rfl,xwD,xwD⟩
def zeX:DS:=(zaF (dIf (dTB (zll 0 (dC (.int 1)))) (zaF (zb1 2 (dOp zkf (zll 0 (dC (.int 0))) (zab 1))) (zaF (zoR 0 (dOp zqd (zll 0 (dC (.int 0))) (zab 1)) (dC (.int 0))) (zbN (zab 2)))) dNx) (zaF (zoR 0 (dOp zkf (dOp zbe (dOp znP (zll 0 (dC (.int 0))) (dC (.int 48271))) (dC (.int 29))) (dC (.int 2147483647))) (dC (.int 0))) (zaF (zb1 3 (dOp zkf (dOp zbe (dOp zbe (dOp znP (zll 0 (dC (.int 0))) (zll 0 (dC (.int 0)))) (dOp znP (dC (.int 39373)) (zll 0 (dC (.int 0))))) (dC (.int 7))) (dC (.int 2147483629)))) (zaF (zb1 3 (dOp zkf (dOp zbe (dOp znP (zab 3) (zab 3)) (dOp znP (dC (.int 16807)) (zab 3))) (dC (.int 2147483587)))) (zbN (dOp zkf (dOp zqd (zab 3) (dC (.int 8))) (zab 1)))))))
def zaf:FD:=zaq false [true,false] 2 zeX
theorem za4(T:Tx K mg cls):Dfn false P w K mg base (CXe P w) (xvC cls) 3 (Str.ofString "_law_take") [true,false] zaf:=by
  obtain ⟨f,fd,U,hm⟩:=T.u__law_take
  refine ⟨f,fd,zeM,?_,hm,U.kp,U.binds (ps:=zeM) fun _ _ _ _ _ _ us hl=>match us,hl with|[_,_],_=>rfl,zau⟩
  refine xwQ (k:=2) false zaC U zdi rfl rfl fun _ _ _ _ _ _ _ _ _ _ _ hnw hr hx hpo=>?_
  exact (zae (by exact (zcd (zcf (zf3 0 (hb:=zai))) (zae (by exact (zaY (i:=2) zdi.nd rfl xwO (xwN rfl) (zgz (zf3 0 (hb:=zai)) (zaa 1)))) (zae (by exact (zoz 0 (zrn (zf3 0 (hb:=zai)) (zaa 1)) zai)) (zam (by exact (za2 hnw (zaa 2)))))) zaK)) (zae (by exact (zoz 0 (zgz (zbS (zjL (zf3 0 (hb:=zai)) zai) zai) zai) zai)) (zae (by exact (zaY (i:=3) zdi.nd rfl xwO (xwN rfl) (zgz (zbS (zbS (zjL (zf3 0 (hb:=zai)) (zf3 0 (hb:=zai))) (zjL zai (zf3 0 (hb:=zai)))) zai) zai))) (zae (by exact (zaY (i:=3) zdi.nd rfl xwO (xwN rfl) (zgz (zbS (zjL (zaa 3) (zaa 3)) (zjL zai (zaa 3))) zai))) (zam (by exact (za2 hnw (zgz (zrn (zaa 3) zai) (zaa 1)))))))))
abbrev zgO:List Str:=["state","things","left","found"]
abbrev zcC:List Str:=["state","things"]
theorem zcv:zax zgO zcC (zaj (top 36)):=⟨rfl,rfl,rfl,xwD,rfl,xwD,xwD⟩
def zcD:DS:=(zaF (zbF 2 (zgS zfd (dA (zab 1) dA0))) (zaF (zbF 3 (zbU dA0)) (zaF (zcI (dTB (ztm true 2 (dFz (zbU dA0)))) (dEx (zft 3 (zf6 2 (zag zaf (dRO 0 (dR (zdS 2) dR0)))))) 10) (zbN (zfV 3)))))
def za9:FD:=zaq false [true,false] 2 zcD
theorem zdQ(T:Tx K mg cls):Dfn false P w K mg base (CXe P w) (xvC cls) 6 (Str.ofString "_law_mixed_row") [true,false] za9:=by
  obtain ⟨f,fd,U,hm⟩:=T.u__law_mixed_row
  refine ⟨f,fd,zcC,?_,hm,U.kp,U.binds (ps:=zcC) fun _ _ _ _ _ _ us hl=>match us,hl with|[_,_],_=>rfl,zau⟩
  refine xwQ (k:=5) false zaC U zcv rfl rfl fun _ _ _ _ _ _ _ _ _ _ _ hnw hr hx hpo=>?_
  exact (zae (by exact (zdr (i:=2) zcv.nd rfl xwO (xwN rfl) (zl5 T.b_list (zaa 1)))) (zae (by exact (zdr (i:=3) zcv.nd rfl xwO (xwN rfl) (zb3 zap))) (zae (by exact (zlL 10 hpo (zuh 2 (zhh hr) (za6 (zb3 zap))) (zam (by exact (zdt (ziX 3 (zlB 2 (zaE (za4 T) hr xwo hx (zbh 0 (zad (zir 2 rfl T.b_len) zar)))))))))) (zam (by exact (za2 hnw (zgx 3)))))))
abbrev zki:List Str:=["state","n","found"]
abbrev zes:List Str:=["state","n"]
theorem zfD:zax zki zes (zaj (top 37)):=⟨rfl,rfl,rfl,xwD,rfl,xwD,xwD⟩
abbrev zdv:List Str:=["state","n","found","guest"]
theorem zhd:zdv.Nodup:=by decide +kernel
def zc5:DS:=(zaF (zb1 2 (dFn zdu (dA (dFz (za0 (zbt (zab 1)) (zaM 3) (dTB (dOp (gEq false) (zag zaf (dRO 0 (dR (dC (.int 2)) dR0))) (dC (.int 1)))) (zab 3) 1)) dA0))) (zaF (dIf (dTB (dOp (gEq false) (zab 2) (zb9 dA0))) (zbN (zb9 (dA (zag zaf (dRO 0 (dR (zab 1) dR0))) dA0))) dNx) (zbN (zab 2))))
def zb4:FD:=zaq false [true,false] 1 zc5
theorem zg7(T:Tx K mg cls):Dfn false P w K mg base (CXe P w) (xvC cls) 6 (Str.ofString "_law_party") [true,false] zb4:=by
  obtain ⟨f,fd,U,hm⟩:=T.u__law_party
  refine ⟨f,fd,zes,?_,hm,U.kp,U.binds (ps:=zes) fun _ _ _ _ _ _ us hl=>match us,hl with|[_,_],_=>rfl,zau⟩
  refine xwQ (k:=5) false zaC U zfD rfl rfl fun _ _ _ _ _ _ _ _ _ _ _ hnw hr hx hpo=>?_
  exact (zae (by exact (zaY (i:=2) zfD.nd rfl xwO (xwN rfl) (ziv T.b_tuple (za6 (zcb (zbH rfl T.b_range (zaa 1)) rfl (N':=zdv) (m:=1) xwk rfl (zaI xwk) (zbj xwk) (zbs xwk) (fun cl L s H fp G H' w Y=>⟨(zaT (i:=3) zhd rfl xwO (xwN rfl)),(zgq (zmr (zhh hr) (zaE (za4 T) hr xwo (zjz fun _ z=>z) (zbh 0 (zad zai zar))) zai)),(zaa 3)⟩)))))) (zae (by exact (zcd (zmr (zhh hr) (zaa 2) (zaX zap)) (zam (by exact (za2 hnw (zaX (zac (zaE (za4 T) hr xwo hx (zbh 0 (zad (zaa 1) zar))) zap))))) zaK)) (zam (by exact (za2 hnw (zaa 2))))))
abbrev zlb:List Str:=["state","row","first"]
abbrev zeV:List Str:=["state","row"]
theorem zg3:zax zlb zeV (zaj (top 38)):=⟨rfl,rfl,rfl,xwD,rfl,xwD,xwD⟩
def zeK:DS:=(zaF (zb1 2 (zag zaf (dRO 0 (dR (dFn zbz (dA (zab 1) dA0)) dR0)))) (zbN (dFn zdu (dA (dFz (zgS zdO (dA (dFz (zp5 (zab 1) (dO1 (zab 2)) (dO1 (dOp zbe (dOp zbe (zab 2) (dC (.int 1))) (zag zaf (dRO 0 (dR (dOp zhI (dFn zbz (dA (zab 1) dA0)) (zab 2)) dR0))))))) dA0))) dA0))))
def zb7:FD:=zaq false [true,false] 1 zeK
theorem zhj(T:Tx K mg cls):Dfn false P w K mg base (CXe P w) (xvC cls) 6 (Str.ofString "_law_side") [true,false] zb7:=by
  obtain ⟨f,fd,U,hm⟩:=T.u__law_side
  refine ⟨f,fd,zeV,?_,hm,U.kp,U.binds (ps:=zeV) fun _ _ _ _ _ _ us hl=>match us,hl with|[_,_],_=>rfl,zau⟩
  refine xwQ (k:=5) false zaC U zg3 rfl rfl fun _ _ _ _ _ _ _ _ _ _ _ hnw hr hx hpo=>?_
  exact (zae (by exact (zaY (i:=2) zg3.nd rfl xwO (xwN rfl) (zaE (za4 T) hr xwo hx (zbh 0 (zad (zcJ T.b_len (zaa 1)) zar))))) (zam (by exact (za2 hnw (ziv T.b_tuple (za6 (zlO rfl T.b_sorted (za6 (zrE (zaa 1) (zbg (zaa 2)) (zbg (zbS (zbS (zaa 2) zai) (zaE (za4 T) hr xwo hx (zbh 0 (zad (zl4 (zcJ T.b_len (zaa 1)) (zaa 2)) zar))))))))))))))
abbrev zhK:List Str:=["state","n","most","row","way","found"]
abbrev zdo:List Str:=["state","n","most"]
theorem zbL:zax zhK zdo (zaj (top 39)):=⟨rfl,rfl,rfl,xwD,rfl,xwD,xwD⟩
abbrev zcU:List Str:=["state","n","most","row","way","found","turn"]
theorem zgm:zcU.Nodup:=by decide +kernel
abbrev zcW:List Str:=["state","n","most","row","way","found","party"]
theorem zfN:zcW.Nodup:=by decide +kernel
def zdm:DS:=(zaF (zb1 3 (zag za9 (dRO 0 (dR (dFz (zhb (zab 1))) dR0)))) (zaF (zb1 4 (zag zaf (dRO 0 (dR (dC (.int 4)) dR0)))) (zaF (zbF 5 (za0 (zbt (zag zaf (dRO 0 (dR (dOp zbe (zab 2) (dC (.int 1))) dR0)))) (zaM 6) dTT (zag zb7 (dRO 0 (dR (zab 3) dR0))) 1)) (zaF (dIf (zfI (dTB (dOp (gEq false) (zab 4) (dC (.int 1)))) (dTB (dOp gLt (zdS 5) (zab 2)))) (dEx (zmZ 5 (zag zaf (dRO 0 (dR (dOp zbe (zdS 5) (dC (.int 1))) dR0))) (zag zb4 (dRO 0 (dR (zab 1) dR0))))) dNx) (zaF (dIf (dTB (dOp gGt (zab 4) (dC (.int 1)))) (zbF 5 (za0 (dIt (zfV 5)) (zaM 6) dTT (dOp gIx (dFz (zbU (dA (zag zb7 (dRO 0 (dR (zab 3) dR0))) (dA (zag zb4 (dRO 0 (dR (zab 1) dR0))) dA0)))) (zag zaf (dRO 0 (dR (dC (.int 2)) dR0)))) 1)) dNx) (zbN (zfV 5)))))))
def zbX:FD:=zaq false [true,false,false] 3 zdm
theorem zhL(T:Tx K mg cls):Dfn false P w K mg base (CXe P w) (xvC cls) 9 (Str.ofString "_law_parties") [true,false,false] zbX:=by
  obtain ⟨f,fd,U,hm⟩:=T.u__law_parties
  refine ⟨f,fd,zdo,?_,hm,U.kp,U.binds (ps:=zdo) fun _ _ _ _ _ _ us hl=>match us,hl with|[_,_,_],_=>rfl,zau⟩
  refine xwQ (k:=8) false zaC U zbL rfl rfl fun _ _ _ _ _ _ _ _ _ _ _ hnw hr hx hpo=>?_
  exact (zae (by exact (zaY (i:=3) zbL.nd rfl xwO (xwN rfl) (zaE (zdQ T) hr xwo hx (zbh 0 (zad (za6 (zpj rfl rfl T.b_list rfl T.b_range (zaa 1))) zar))))) (zae (by exact (zaY (i:=4) zbL.nd rfl xwO (xwN rfl) (zaE (za4 T) hr xwo hx (zbh 0 (zad zai zar))))) (zae (by exact (zeS (i:=5) zbL.nd rfl xwO (xwN rfl) (zbH rfl T.b_range (zaE (za4 T) hr xwo hx (zbh 0 (zad (zbS (zaa 2) zai) zar)))) rfl (N':=zcU) (m:=1) xwk rfl (zaI xwk) (zbj xwk) (zbs xwk) (fun cl L s H fp G H' w Y=>⟨(zaT (i:=6) zgm rfl xwO (xwN rfl)),zbZ,(zaE (zhj T) hr xwo (zjz fun _ z=>z) (zbh 0 (zad (zaa 3) zar)))⟩))) (zae (by exact (zcd (JW.jt (zo9 (zmr (zhh hr) (zaa 4) zai) (zkX (znK (zir 5 rfl T.b_len) (zaa 2))))) (zam (by exact (zdt (zsz 5 (zaE (za4 T) hr xwo hx (zbh 0 (zad (zbS (zir 5 rfl T.b_len) zai) zar))) (zaE (zg7 T) hr xwo hx (zbh 0 (zad (zaa 1) zar))))))) zaK)) (zae (by exact (zcd (zqG (zaa 4) zai) (zam (by exact (zeS (i:=5) zbL.nd rfl xwO (xwN rfl) (zcF (zgx 5)) rfl (N':=zcW) (m:=1) xwk rfl (zaI xwk) (zbj xwk) (zbs xwk) (fun cl L s H fp G H' w Y=>⟨(zaT (i:=6) zfN rfl xwO (xwN rfl)),zbZ,(zbw (za6 (zb3 (zac (zaE (zhj T) hr xwo (zjz fun _ z=>z) (zbh 0 (zad (zaa 3) zar))) (zac (zaE (zg7 T) hr xwo (zjz fun _ z=>z) (zbh 0 (zad (zaa 1) zar))) zap)))) (zaE (za4 T) hr xwo (zjz fun _ z=>z) (zbh 0 (zad zai zar))))⟩)))) zaK)) (zam (by exact (za2 hnw (zgx 5)))))))))
end
section
variable{P:Program}{w:World}{K:W.Frag}{mg:Str->Option Value}{base:Heap}{xv:Nat->Value}{cls:Nat->Addr}
abbrev zj7:List Str:=["thing"]
abbrev zdY:List Str:=["thing"]
theorem ziA:zax zj7 zdY (zaj (top 40)):=⟨rfl,rfl,rfl,xwD,rfl,xwD,xwD⟩
def zgF:DS:=(zbN (zhD (zcZ "int" (zab 0)) (zt2 (zcZ "bool" (zab 0)))))
def zbq:FD:=zaq false [false] 0 zgF
theorem zgB(T:Tx K mg cls):Dfn false P w K mg base (CXe P w) (xvC cls) 3 (Str.ofString "_law_whole") [false] zbq:=by
  obtain ⟨f,fd,U,hm⟩:=T.u__law_whole
  refine ⟨f,fd,zdY,?_,hm,U.kp,U.binds (ps:=zdY) fun _ _ _ _ _ _ us hl=>match us,hl with|[_],_=>rfl,zau⟩
  refine xwQ (k:=2) false zaC U ziA rfl rfl fun _ _ _ _ _ _ _ _ _ _ _ hnw hr hx hpo=>?_
  exact (zam (by exact (za2 hnw (zeE (zd4 znx rfl T.b_isinstance zd5 rfl T.b_int zr1 (zaa 0)) (zgA (zrt (zd4 zi4 rfl T.b_isinstance zd5 rfl T.b_bool zkQ (zaa 0))))))))
abbrev ziI:List Str:=["n","parties","one","other","third","thing","at","party"]
abbrev zdK:List Str:=["n","parties","one","other","third","thing"]
theorem zdp:zax ziI zdK (zaj (top 41)):=⟨rfl,rfl,rfl,xwD,rfl,xwD,xwD⟩
abbrev zdf:List Str:=["n","parties","one","other","third","thing","at","party","number"]
theorem zgH:zdf.Nodup:=by decide +kernel
def zdC:DS:=(zaF (dIf (zdW (zaP (dTB (zcZ "tuple" (zab 5)))) (zdW (dTB (dOp gLt (dFn zbz (dA (zab 5) dA0)) (dC (.int 3)))) (dTB (dOp (gEq false) (dOp zkf (dFn zbz (dA (zab 5) dA0)) (dC (.int 2))) (dC (.int 0)))))) (zbN (dC (.bl false))) dNx) (zaF (dIf (zdW (dTB (dOp zfq (dFz (za0 (dIt (zab 5)) (zaM 8) (zaP (dTB (zag zbq (dR (zab 8) dR0)))) (zab 8) 1)) (dFz (zbU dA0)))) (zdW (dTB (dOp (gEq true) (dOp gIx (zab 5) (dC (.int 0))) (zab 2))) (dTB (dOp (gEq true) (dOp gIx (zab 5) (zjn (dC (.int 1)))) (zab 3))))) (zbN (dC (.bl false))) dNx) (zaF (ze4 (znd (dC (.int 1)) (dFn zbz (dA (zab 5) dA0))) (zaM 6) (zaF (dIf (zm6 (dOp gIx (zab 5) (zab 6)) (dFn zbz (dA (zab 1) dA0))) (zbN (dC (.bl false))) dNx) (zaF (zb1 7 (dOp gIx (zab 1) (dOp gIx (zab 5) (zab 6)))) (dIf (zdW (dTB (dOp (gIn true) (dOp gIx (zab 5) (dOp zhI (zab 6) (dC (.int 1)))) (zab 7))) (zdW (dTB (dOp (gIn true) (dOp gIx (zab 5) (dOp zbe (zab 6) (dC (.int 1)))) (zab 7))) (dTB (dOp (gIn false) (zab 4) (zab 7))))) (zbN (dC (.bl false))) dNx)))) (zbN (dC (.bl true))))))
def zbr:FD:=zaq false [false,false,false,false,false,false] 2 zdC
theorem zdB(T:Tx K mg cls):Dfn false P w K mg base (CXe P w) (xvC cls) 6 (Str.ofString "_law_is_way") [false,false,false,false,false,false] zbr:=by
  obtain ⟨f,fd,U,hm⟩:=T.u__law_is_way
  refine ⟨f,fd,zdK,?_,hm,U.kp,U.binds (ps:=zdK) fun _ _ _ _ _ _ us hl=>match us,hl with|[_,_,_,_,_,_],_=>rfl,zau⟩
  refine xwQ (k:=5) false zaC U zdp rfl rfl fun _ _ _ _ _ _ _ _ _ _ _ hnw hr hx hpo=>?_
  exact (zae (by exact (zcd (JW.jt (zd2 (zcr (zcf (zd4 zcT rfl T.b_isinstance zd5 rfl T.b_tuple zdj (zaa 5)))) (zd2 (znK (zcJ T.b_len (zaa 5)) zai) (zd3 (zmr (zhh hr) (zgz (zcJ T.b_len (zaa 5)) zai) zai))))) (zam (by exact (za2 hnw zcR))) zaK)) (zae (by exact (zcd (JW.jt (zd2 (zlZ (zhh hr) (za6 (zcb (zcF (zaa 5)) rfl (N':=zdf) (m:=1) xwk rfl (zaI xwk) (zbj xwk) (zbs xwk) (fun cl L s H fp G H' w Y=>⟨(zaT (i:=8) zgH rfl xwO (xwN rfl)),(zgq (zcr (zcf (zaE (zgB T) hr xwo (zjz fun _ z=>z) (zad (zaa 8) zar))))),(zaa 8)⟩))) (za6 (zb3 zap))) (zd2 (zgo (zhh hr) (zbw (zaa 5) zai) (zaa 2)) (zd3 (zgo (zhh hr) (zbw (zaa 5) (zik zai)) (zaa 3)))))) (zam (by exact (za2 hnw zcR))) zaK)) (zae (by exact (zeC hpo rfl (zof rfl T.b_range zai (zcJ T.b_len (zaa 5))) (zaT (i:=6) zdp.nd rfl xwO (xwN rfl)) (zae (by exact (zcd (zoK rfl T.b_range (zbw (zaa 5) (zaa 6)) (zcJ T.b_len (zaa 1))) (zam (by exact (za2 hnw zcR))) zaK)) (zae (by exact (zaY (i:=7) zdp.nd rfl xwO (xwN rfl) (zbw (zaa 1) (zbw (zaa 5) (zaa 6))))) (zam (by exact (zcd (JW.jt (zd2 (zi9 (zqW hr) (zbw (zaa 5) (zl4 (zaa 6) zai)) (zaa 7)) (zd2 (zi9 (zqW hr) (zbw (zaa 5) (zbS (zaa 6) zai)) (zaa 7)) (zd3 (zsU (zqW hr) (zaa 4) (zaa 7)))))) (zam (by exact (za2 hnw zcR))) zaK))))))) (zam (by exact (za2 hnw zcR))))))
abbrev zi1:List Str:=["n","parties","thing","a","b","c","ways","good"]
abbrev zdJ:List Str:=["n","parties","thing"]
theorem zbC:zax zi1 zdJ (zaj (top 42)):=⟨rfl,rfl,rfl,xwD,rfl,xwD,xwD⟩
abbrev zdk:List Str:=["n","parties","thing","a","b","c","ways","good","one"]
theorem zgG:zdk.Nodup:=by decide +kernel
def zcK:DS:=(zaF (dIf (zdW (zaP (dTB (zcZ "tuple" (zab 2)))) (zdW (dTB (dOp (gEq true) (dFn zbz (dA (zab 2) dA0)) (dC (.int 4)))) (zdW (zaP (dTB (zcZ "tuple" (dOp gIx (zab 2) (dC (.int 3)))))) (dTB (dOp (gEq true) (dFn zbz (dA (dOp gIx (zab 2) (dC (.int 3))) dA0)) (dC (.int 3))))))) (zbN (dC (.bl false))) dNx) (zaF (zrA (zab 2) (zmF [3,4,5,6])) (zaF (dIf (zdW (dTB (dOp zfq (dFz (za0 (dIt (zbn (zab 2) dO0 (dO1 (dC (.int 3))))) (zaM 8) (zaP (dTB (zag zbq (dR (zab 8) dR0)))) (zab 8) 1)) (dFz (zbU dA0)))) (zaP (zvG (dC (.int 0)) (zea gLe (zab 3) (zea gLt (zab 4) (zea gLt (zab 5) (zmh gLt (zab 0)))))))) (zbN (dC (.bl false))) dNx) (zaF (zb1 7 (dFz (zbU (dA (zag zbr (dR (zab 0) (dR (zab 1) (dR (zab 3) (dR (zab 4) (dR (zab 5) (dR (dOp gIx (zab 6) (dC (.int 0))) dR0))))))) (dA (zag zbr (dR (zab 0) (dR (zab 1) (dR (zab 3) (dR (zab 5) (dR (zab 4) (dR (dOp gIx (zab 6) (dC (.int 1))) dR0))))))) dA0))))) (zbN (zhD (dOp (gEq false) (zab 7) (dC (.lst [(.bl true),(.bl true)]))) (zag zbr (dR (zab 0) (dR (zab 1) (dR (zab 4) (dR (zab 5) (dR (zab 3) (dR (dOp gIx (zab 6) (dC (.int 2))) dR0)))))))))))))
def zcn:FD:=zaq false [false,false,false] 5 zcK
theorem ziK(T:Tx K mg cls):Dfn false P w K mg base (CXe P w) (xvC cls) 9 (Str.ofString "_law_is_bar") [false,false,false] zcn:=by
  obtain ⟨f,fd,U,hm⟩:=T.u__law_is_bar
  refine ⟨f,fd,zdJ,?_,hm,U.kp,U.binds (ps:=zdJ) fun _ _ _ _ _ _ us hl=>match us,hl with|[_,_,_],_=>rfl,zau⟩
  refine xwQ (k:=8) false zaC U zbC rfl rfl fun _ _ _ _ _ _ _ _ _ _ _ hnw hr hx hpo=>?_
  exact (zae (by exact (zcd (JW.jt (zd2 (zcr (zcf (zd4 zcT rfl T.b_isinstance zd5 rfl T.b_tuple zdj (zaa 2)))) (zd2 (zgo (zhh hr) (zcJ T.b_len (zaa 2)) zai) (zd2 (zcr (zcf (zd4 zcT rfl T.b_isinstance zd5 rfl T.b_tuple zdj (zbw (zaa 2) zai)))) (zd3 (zgo (zhh hr) (zcJ T.b_len (zbw (zaa 2) zai)) zai)))))) (zam (by exact (za2 hnw zcR))) zaK)) (zae (by exact (zod (zaa 2) (zr8 rfl (zcg (i:=3) zbC.nd rfl xwO (xwN rfl) (zcg (i:=4) zbC.nd rfl xwO (xwN rfl) (zcg (i:=5) zbC.nd rfl xwO (xwN rfl) (zcg (i:=6) zbC.nd rfl xwO (xwN rfl) zkM)))) rfl) (hw:=by kernel_rfl))) (zae (by exact (zcd (JW.jt (zd2 (zlZ (zhh hr) (za6 (zcb (zcF (zb6 (zaa 2) zb5 (zbg zai))) rfl (N':=zdk) (m:=1) xwk rfl (zaI xwk) (zbj xwk) (zbs xwk) (fun cl L s H fp G H' w Y=>⟨(zaT (i:=8) zgG rfl xwO (xwN rfl)),(zgq (zcr (zcf (zaE (zgB T) hr xwo (zjz fun _ z=>z) (zad (zaa 8) zar))))),(zaa 8)⟩))) (za6 (zb3 zap))) (zd3 (zcr (zoU zai (zkw zsI zcu zbQ (zaa 3) (zkw zkG zcu zbQ (zaa 4) (zkw zkG zcu zbQ (zaa 5) (zst zkG zcu zbQ (zaa 0)))))))))) (zam (by exact (za2 hnw zcR))) zaK)) (zae (by exact (zaY (i:=7) zbC.nd rfl xwO (xwN rfl) (za6 (zb3 (zac (zaE (zdB T) hr xwo hx (zad (zaa 0) (zad (zaa 1) (zad (zaa 3) (zad (zaa 4) (zad (zaa 5) (zad (zbw (zaa 6) zai) zar))))))) (zac (zaE (zdB T) hr xwo hx (zad (zaa 0) (zad (zaa 1) (zad (zaa 3) (zad (zaa 5) (zad (zaa 4) (zad (zbw (zaa 6) zai) zar))))))) zap)))))) (zam (by exact (za2 hnw (zeE (zvf (zhh hr) (zaa 7) (by refine jd 40 ?_;kernel_rfl)) (zgA (zaE (zdB T) hr xwo hx (zad (zaa 0) (zad (zaa 1) (zad (zaa 4) (zad (zaa 5) (zad (zaa 3) (zad (zbw (zaa 6) zai) zar))))))))))))))))
abbrev znb:List Str:=["state","n","parties","one","other","third","way","turn","some","number","ends"]
abbrev zgl:List Str:=["state","n","parties","one","other","third"]
theorem zbG:zax znb zgl (zaj (top 44)):=⟨rfl,rfl,rfl,xwD,rfl,xwD,xwD⟩
abbrev zed:List Str:=["state","n","parties","one","other","third","way","turn","some","number","ends","guest"]
theorem ziD:zed.Nodup:=by decide +kernel
abbrev zeg:List Str:=["state","n","parties","one","other","third","way","turn","some","number","ends","pair"]
theorem ziS:zeg.Nodup:=by decide +kernel
def zgh:DS:=(zaF (zb1 6 (zb9 (dA (zab 3) dA0))) (zaF (ze4 (zbt (dC (.int 4))) (zaM 7) (zaF (zb1 8 (dFz (zbU dA0))) (zaF (ze4 (zbt (dFn zbz (dA (zab 2) dA0))) (zaM 9) (dIf (zfI (dTB (dOp (gIn false) (dOp gIx (zab 6) (zjn (dC (.int 1)))) (dOp gIx (zab 2) (zab 9)))) (dTB (dOp (gIn true) (zab 5) (dOp gIx (zab 2) (zab 9))))) (zb1 8 (dFz (zfG (zab 8) (dFz (za0 (dIt (dOp gIx (zab 2) (zab 9))) (zaM 11) dTT (zb9 (dA (zab 9) (dA (zab 11) dA0))) 1))))) dNx)) (zaF (zb1 10 (dFz (za0 (dIt (zab 8)) (zaM 11) (dTB (dOp (gEq false) (dOp gIx (zab 11) (dC (.int 1))) (zab 4))) (zab 11) 1))) (zaF (dIf (dTB (dOp (gEq true) (zab 10) (dFz (zbU dA0)))) (zbN (dOp zbm (zab 6) (dOp gIx (zab 10) (zag zaf (dRO 0 (dR (dFn zbz (dA (zab 10) dA0)) dR0)))))) dNx) (dIf (dTB (dOp (gEq true) (zab 8) (dFz (zbU dA0)))) (zb1 6 (dOp zbm (zab 6) (dOp gIx (zab 8) (zag zaf (dRO 0 (dR (dFn zbz (dA (zab 8) dA0)) dR0)))))) dNx)))))) (zbN (dOp zbm (zab 6) (zb9 (dA (dC (.int 0)) (dA (zab 4) dA0)))))))
def zcL:FD:=zaq false [true,false,false,false,false,false] 5 zgh
theorem zgk(T:Tx K mg cls):Dfn false P w K mg base (CXe P w) (xvC cls) 6 (Str.ofString "_law_way") [true,false,false,false,false,false] zcL:=by
  obtain ⟨f,fd,U,hm⟩:=T.u__law_way
  refine ⟨f,fd,zgl,?_,hm,U.kp,U.binds (ps:=zgl) fun _ _ _ _ _ _ us hl=>match us,hl with|[_,_,_,_,_,_],_=>rfl,zau⟩
  refine xwQ (k:=5) false zaC U zbG rfl rfl fun _ _ _ _ _ _ _ _ _ _ _ hnw hr hx hpo=>?_
  exact (zae (by exact (zaY (i:=6) zbG.nd rfl xwO (xwN rfl) (zaX (zac (zaa 3) zap)))) (zae (by exact (zeC hpo rfl (zbH rfl T.b_range zai) (zaT (i:=7) zbG.nd rfl xwO (xwN rfl)) (zae (by exact (zaY (i:=8) zbG.nd rfl xwO (xwN rfl) (za6 (zb3 zap)))) (zae (by exact (zeC hpo rfl (zbH rfl T.b_range (zcJ T.b_len (zaa 2))) (zaT (i:=9) zbG.nd rfl xwO (xwN rfl)) (zam (by exact (zcd (JW.jt (zo9 (zsU (zqW hr) (zbw (zaa 6) (zik zai)) (zbw (zaa 2) (zaa 9))) (zkX (zi9 (zqW hr) (zaa 5) (zbw (zaa 2) (zaa 9)))))) (zam (by exact (zaY (i:=8) zbG.nd rfl xwO (xwN rfl) (za6 (by refine zhg (zaa 8) ?_;exact (za6 (zcb (zcF (zbw (zaa 2) (zaa 9))) rfl (N':=zed) (m:=1) xwk rfl (zaI xwk) (zbj xwk) (zbs xwk) (fun cl L s H fp G H' w Y=>⟨(zaT (i:=11) ziD rfl xwO (xwN rfl)),zbZ,(zaX (zac (zaa 9) (zac (zaa 11) zap)))⟩)))))))) zaK))))) (zae (by exact (zgu (i:=10) zbG.nd rfl xwO (xwN rfl) (zcF (zaa 8)) rfl (N':=zeg) (m:=1) xwk rfl (zaI xwk) (zbj xwk) (zbs xwk) (fun cl L s H fp G H' w Y=>⟨(zaT (i:=11) ziS rfl xwO (xwN rfl)),(zgq (zmr (zhh hr) (zbw (zaa 11) zai) (zaa 4))),(zaa 11)⟩))) (zae (by exact (zcd (zgo (zhh hr) (zaa 10) (za6 (zb3 zap))) (zam (by exact (za2 hnw (zbI (zaa 6) (zbw (zaa 10) (zaE (za4 T) hr xwo hx (zbh 0 (zad (zcJ T.b_len (zaa 10)) zar)))))))) zaK)) (zam (by exact (zcd (zgo (zhh hr) (zaa 8) (za6 (zb3 zap))) (zam (by exact (zaY (i:=6) zbG.nd rfl xwO (xwN rfl) (zbI (zaa 6) (zbw (zaa 8) (zaE (za4 T) hr xwo hx (zbh 0 (zad (zcJ T.b_len (zaa 8)) zar)))))))) zaK))))))))) (zam (by exact (za2 hnw (zbI (zaa 6) (zaX (zac zai (zac (zaa 4) zap)))))))))
abbrev zjA:List Str:=["state","n","parties","a","b","c","ways"]
abbrev zet:List Str:=["state","n","parties"]
theorem zck:zax zjA zet (zaj (top 45)):=⟨rfl,rfl,rfl,xwD,rfl,xwD,xwD⟩
def zef:DS:=(zaF (zrA (dFz (zgS zdO (dA (dFz (zp5 (zag za9 (dRO 0 (dR (dFz (zhb (zab 1))) dR0))) dO0 (dO1 (dC (.int 3))))) dA0))) (ziB [3,4,5])) (zaF (zb1 6 (zb9 (dA (zag zcL (dRO 0 (dR (zab 1) (dR (zab 2) (dR (zab 3) (dR (zab 4) (dR (zab 5) dR0))))))) (dA (zag zcL (dRO 0 (dR (zab 1) (dR (zab 2) (dR (zab 3) (dR (zab 5) (dR (zab 4) dR0))))))) dA0)))) (zbN (zb9 (dA (zab 3) (dA (zab 4) (dA (zab 5) (dA (dOp zbm (zab 6) (zb9 (dA (zag zcL (dRO 0 (dR (zab 1) (dR (zab 2) (dR (zab 4) (dR (zab 5) (dR (zab 3) dR0))))))) dA0))) dA0))))))))
def zbJ:FD:=zaq false [true,false,false] 4 zef
theorem zjT(T:Tx K mg cls):Dfn false P w K mg base (CXe P w) (xvC cls) 9 (Str.ofString "_law_drawn") [true,false,false] zbJ:=by
  obtain ⟨f,fd,U,hm⟩:=T.u__law_drawn
  refine ⟨f,fd,zet,?_,hm,U.kp,U.binds (ps:=zet) fun _ _ _ _ _ _ us hl=>match us,hl with|[_,_,_],_=>rfl,zau⟩
  refine xwQ (k:=8) false zaC U zck rfl rfl fun _ _ _ _ _ _ _ _ _ _ _ hnw hr hx hpo=>?_
  exact (zae (by exact (zod (za6 (zlO rfl T.b_sorted (za6 (zrE (zaE (zdQ T) hr xwo hx (zbh 0 (zad (za6 (zpj rfl rfl T.b_list rfl T.b_range (zaa 1))) zar))) zb5 (zbg zai))))) (ztt rfl (zcg (i:=3) zck.nd rfl xwO (xwN rfl) (zcg (i:=4) zck.nd rfl xwO (xwN rfl) (zcg (i:=5) zck.nd rfl xwO (xwN rfl) zkM))) rfl) (hw:=by kernel_rfl))) (zae (by exact (zaY (i:=6) zck.nd rfl xwO (xwN rfl) (zaX (zac (zaE (zgk T) hr xwo hx (zbh 0 (zad (zaa 1) (zad (zaa 2) (zad (zaa 3) (zad (zaa 4) (zad (zaa 5) zar))))))) (zac (zaE (zgk T) hr xwo hx (zbh 0 (zad (zaa 1) (zad (zaa 2) (zad (zaa 3) (zad (zaa 5) (zad (zaa 4) zar))))))) zap))))) (zam (by exact (za2 hnw (zaX (zac (zaa 3) (zac (zaa 4) (zac (zaa 5) (zac (zbI (zaa 6) (zaX (zac (zaE (zgk T) hr xwo hx (zbh 0 (zad (zaa 1) (zad (zaa 2) (zad (zaa 4) (zad (zaa 5) (zad (zaa 3) zar))))))) zap))) zap))))))))))
end
section
variable{P:Program}{w:World}{K:W.Frag}{mg:Str->Option Value}{base:Heap}{xv:Nat->Value}{cls:Nat->Addr}
abbrev zk0:List Str:=["state","n","bar","a","b","c","ways","k","way","at","number","some","others","odd"]
abbrev zeY:List Str:=["state","n","bar"]
theorem za8:zax zk0 zeY (zaj (top 46)):=⟨rfl,rfl,rfl,xwD,rfl,xwD,xwD⟩
def zfg:DS:=(zaF (zrA (zab 2) (zmF [3,4,5,6])) (zaF (zb1 7 (zag zaf (dRO 0 (dR (dC (.int 3)) dR0)))) (zaF (zb1 8 (dOp gIx (zab 6) (zab 7))) (zaF (zb1 9 (zag zaf (dRO 0 (dR (dFn zbz (dA (zab 8) dA0)) dR0)))) (zaF (zb1 10 (zag zaf (dRO 0 (dR (dC (.int 9)) dR0)))) (zaF (zbF 11 (zbU (dA (dOp zbm (dOp zbm (zbn (zab 8) dO0 (dO1 (zab 9))) (zb9 (dA (zab 10) dA0))) (zbn (zab 8) (dO1 (dOp zbe (zab 9) (dC (.int 1)))) dO0)) (dA (dOp zbm (zbn (zab 8) dO0 (dO1 (zab 9))) (zbn (zab 8) (dO1 (dOp zbe (zab 9) (dC (.int 1)))) dO0)) (dA (dOp zbm (zab 8) (zbn (zab 8) (dO1 (zjn (dC (.int 2)))) dO0)) (dA (zmW (zab 8)) (dA (zbn (zab 8) dO0 (dO1 (zjn (dC (.int 2))))) dA0))))))) (zaF (dEx (zft 11 (dFz (zgS zfd (dA (zab 8) dA0))))) (zaF (zbF 11 (zfG (zfV 11) (dFz (zbU (dA (dOp zbm (dOp zbm (zbn (zab 8) dO0 (dO1 (zab 9))) (dC (.tup [(.bl true)]))) (zbn (zab 8) (dO1 (dOp zbe (zab 9) (dC (.int 1)))) dO0)) (dA (dOp zbm (dOp zbm (dOp zbm (zbn (zab 8) dO0 (dO1 (dC (.int 1)))) (zbn (zab 8) (dO1 (dC (.int 1))) (dO1 (dC (.int 2))))) (zbn (zab 8) dO0 (dO1 (dC (.int 1))))) (zbn (zab 8) (dO1 (dC (.int 1))) dO0)) (dA (zb9 dA0) (dA (dC .non) (dA (zbn (zab 8) dO0 (dO1 (dC (.int 1)))) dA0))))))))) (zaF (zb1 12 (dOp zbm (dOp zbm (zbn (zab 6) dO0 (dO1 (zab 7))) (zb9 (dA (zll 11 (zag zaf (dRO 0 (dR (dC (.int 11)) dR0)))) dA0))) (zbn (zab 6) (dO1 (dOp zbe (zab 7) (dC (.int 1)))) dO0))) (zaF (zbF 13 (zbU (dA (zb9 (dA (zab 3) (dA (zab 4) (dA (zab 5) (dA (zab 12) dA0))))) (dA (zb9 (dA (zab 3) (dA (zab 4) (dA (zab 5) (dA (zab 12) dA0))))) (dA (zb9 (dA (zab 3) (dA (zab 4) (dA (zab 5) (dA (zab 12) dA0))))) (dA (zb9 (dA (zab 3) (dA (zab 5) (dA (zab 4) (dA (zab 6) dA0))))) (dA (zb9 (dA (zab 4) (dA (zab 3) (dA (zab 5) (dA (zab 6) dA0))))) dA0))))))) (zaF (dEx (zft 13 (zb9 (dA (zab 3) (dA (zab 4) (dA (zab 5) (dA (zbn (zab 6) dO0 (dO1 (dC (.int 2)))) dA0))))))) (zaF (zbF 13 (zfG (zfV 13) (dFz (zbU (dA (zb9 (dA (zab 3) (dA (zab 4) (dA (zab 5) (dA (zmW (zab 6)) dA0))))) (dA (zb9 (dA (zab 3) (dA (zab 4) (dA (zab 5) (dA (dFz (zgS zfd (dA (zab 6) dA0))) dA0))))) (dA (dFz (zbU (dA (zab 3) (dA (zab 4) (dA (zab 5) (dA (zab 6) dA0)))))) (dA (zb9 (dA (zab 3) (dA (zab 4) (dA (zab 5) dA0)))) (dA (zb9 (dA (zab 3) (dA (zab 4) (dA (zab 1) (dA (zab 6) dA0))))) (dA (dC .non) (dA (dC .dct) (dA (zab 3) dA0)))))))))))) (zaF (zbF 13 (zfG (zfV 13) (dFz (zbU (dA (zb9 (dA (zab 3) (dA (zab 4) (dA (zab 5) (dA (dOp zbm (zab 6) (zbn (zab 6) dO0 (dO1 (dC (.int 1))))) dA0))))) (dA (zb9 (dA (dC (.bl false)) (dA (zab 4) (dA (zab 5) (dA (zab 6) dA0))))) (dA (zb9 (dA (zb9 (dA (zab 3) (dA (zab 4) (dA (zab 5) dA0)))) (dA (zab 6) dA0))) (dA (zb9 (dA (zab 3) (dA (zab 3) (dA (zab 5) (dA (zab 6) dA0))))) dA0)))))))) (zbN (zll 13 (zag zaf (dRO 0 (dR (dC (.int 18)) dR0))))))))))))))))))
def zaR:FD:=zaq false [true,false,false] 11 zfg
theorem zhm(T:Tx K mg cls):Dfn false P w K mg base (CXe P w) (xvC cls) 6 (Str.ofString "_law_bent") [true,false,false] zaR:=by
  obtain ⟨f,fd,U,hm⟩:=T.u__law_bent
  refine ⟨f,fd,zeY,?_,hm,U.kp,U.binds (ps:=zeY) fun _ _ _ _ _ _ us hl=>match us,hl with|[_,_,_],_=>rfl,zau⟩
  refine xwQ (k:=5) false zaC U za8 rfl rfl fun _ _ _ _ _ _ _ _ _ _ _ hnw hr hx hpo=>?_
  exact (zae (by exact (zod (zaa 2) (zr8 rfl (zcg (i:=3) za8.nd rfl xwO (xwN rfl) (zcg (i:=4) za8.nd rfl xwO (xwN rfl) (zcg (i:=5) za8.nd rfl xwO (xwN rfl) (zcg (i:=6) za8.nd rfl xwO (xwN rfl) zkM)))) rfl) (hw:=by kernel_rfl))) (zae (by exact (zaY (i:=7) za8.nd rfl xwO (xwN rfl) (zaE (za4 T) hr xwo hx (zbh 0 (zad zai zar))))) (zae (by exact (zaY (i:=8) za8.nd rfl xwO (xwN rfl) (zbw (zaa 6) (zaa 7)))) (zae (by exact (zaY (i:=9) za8.nd rfl xwO (xwN rfl) (zaE (za4 T) hr xwo hx (zbh 0 (zad (zcJ T.b_len (zaa 8)) zar))))) (zae (by exact (zaY (i:=10) za8.nd rfl xwO (xwN rfl) (zaE (za4 T) hr xwo hx (zbh 0 (zad zai zar))))) (zae (by exact (zdr (i:=11) za8.nd rfl xwO (xwN rfl) (zb3 (zac (zbI (zbI (zb6 (zaa 8) zb5 (zbg (zaa 9))) (zaX (zac (zaa 10) zap))) (zb6 (zaa 8) (zbg (zbS (zaa 9) zai)) zb5)) (zac (zbI (zb6 (zaa 8) zb5 (zbg (zaa 9))) (zb6 (zaa 8) (zbg (zbS (zaa 9) zai)) zb5)) (zac (zbI (zaa 8) (zb6 (zaa 8) (zbg (zik zai)) zb5)) (zac (znB (zaa 8)) (zac (zb6 (zaa 8) zb5 (zbg (zik zai))) zap)))))))) (zae (by exact (zdt (ziX 11 (za6 (zl5 T.b_list (zaa 8)))))) (zae (by exact (zdr (i:=11) za8.nd rfl xwO (xwN rfl) (by refine zhg (zgx 11) ?_;exact (za6 (zb3 (zac (zbI (zbI (zb6 (zaa 8) zb5 (zbg (zaa 9))) (by refine jd 40 ?_;kernel_rfl)) (zb6 (zaa 8) (zbg (zbS (zaa 9) zai)) zb5)) (zac (zbI (zbI (zbI (zb6 (zaa 8) zb5 (zbg zai)) (zb6 (zaa 8) (zbg zai) (zbg zai))) (zb6 (zaa 8) zb5 (zbg zai))) (zb6 (zaa 8) (zbg zai) zb5)) (zac (zaX zap) (zac zfz (zac (zb6 (zaa 8) zb5 (zbg zai)) zap)))))))))) (zae (by exact (zaY (i:=12) za8.nd rfl xwO (xwN rfl) (zbI (zbI (zb6 (zaa 6) zb5 (zbg (zaa 7))) (zaX (zac (zf3 11 (hb:=(zaE (za4 T) hr xwo hx (zbh 0 (zad zai zar))))) zap))) (zb6 (zaa 6) (zbg (zbS (zaa 7) zai)) zb5)))) (zae (by exact (zdr (i:=13) za8.nd rfl xwO (xwN rfl) (zb3 (zac (zaX (zac (zaa 3) (zac (zaa 4) (zac (zaa 5) (zac (zaa 12) zap))))) (zac (zaX (zac (zaa 3) (zac (zaa 4) (zac (zaa 5) (zac (zaa 12) zap))))) (zac (zaX (zac (zaa 3) (zac (zaa 4) (zac (zaa 5) (zac (zaa 12) zap))))) (zac (zaX (zac (zaa 3) (zac (zaa 5) (zac (zaa 4) (zac (zaa 6) zap))))) (zac (zaX (zac (zaa 4) (zac (zaa 3) (zac (zaa 5) (zac (zaa 6) zap))))) zap)))))))) (zae (by exact (zdt (ziX 13 (zaX (zac (zaa 3) (zac (zaa 4) (zac (zaa 5) (zac (zb6 (zaa 6) zb5 (zbg zai)) zap)))))))) (zae (by exact (zdr (i:=13) za8.nd rfl xwO (xwN rfl) (by refine zhg (zgx 13) ?_;exact (za6 (zb3 (zac (zaX (zac (zaa 3) (zac (zaa 4) (zac (zaa 5) (zac (znB (zaa 6)) zap))))) (zac (zaX (zac (zaa 3) (zac (zaa 4) (zac (zaa 5) (zac (za6 (zl5 T.b_list (zaa 6))) zap))))) (zac (za6 (zb3 (zac (zaa 3) (zac (zaa 4) (zac (zaa 5) (zac (zaa 6) zap)))))) (zac (zaX (zac (zaa 3) (zac (zaa 4) (zac (zaa 5) zap)))) (zac (zaX (zac (zaa 3) (zac (zaa 4) (zac (zaa 1) (zac (zaa 6) zap))))) (zac zfz (zac zoT (zac (zaa 3) zap))))))))))))) (zae (by exact (zdr (i:=13) za8.nd rfl xwO (xwN rfl) (by refine zhg (zgx 13) ?_;exact (za6 (zb3 (zac (zaX (zac (zaa 3) (zac (zaa 4) (zac (zaa 5) (zac (zbI (zaa 6) (zb6 (zaa 6) zb5 (zbg zai))) zap))))) (zac (zaX (zac zcR (zac (zaa 4) (zac (zaa 5) (zac (zaa 6) zap))))) (zac (zaX (zac (zaX (zac (zaa 3) (zac (zaa 4) (zac (zaa 5) zap)))) (zac (zaa 6) zap))) (zac (zaX (zac (zaa 3) (zac (zaa 3) (zac (zaa 5) (zac (zaa 6) zap))))) zap))))))))) (zam (by exact (za2 hnw (zf3 13 (hb:=(zaE (za4 T) hr xwo hx (zbh 0 (zad zai zar)))))))))))))))))))))
end
section
variable{P:Program}{w:World}{K:W.Frag}{mg:Str->Option Value}{base:Heap}{xv:Nat->Value}{cls:Nat->Addr}
abbrev zvD:List Str:=["script","k","state","n","parties","bars","told","bar","thing","found","bad","<tab>","<tab2>"]
abbrev ztQ:List Str:=["script"]
theorem zdP:zax zvD ztQ (zaj (top 47)):=⟨rfl,rfl,rfl,xwD,rfl,xwD,xwD⟩
abbrev zih:List Str:=["script","k","state","n","parties","bars","told","bar","thing","found","bad","<tab>","<tab2>","turn"]
theorem zqE:zih.Nodup:=by decide +kernel
def zlj:DS:=(zaF (ze4 (zbt (dFn ziz (dA (dC (.int 1)) (dA (dFn zjd (dA (dFn zbz (dA (zab 0) dA0)) (dA (dC (.int 5)) dA0))) dA0)))) (zaM 1) (zaF (zbF 2 (zg0 zc9 (dR (zab 0) (dR (zab 1) dR0)))) (zaF (zb1 3 (dOp zbe (dC (.int 3)) (zag zaf (dRO 2 (dR (dC (.int 5)) dR0))))) (zaF (zb1 4 (zag zbX (dRO 2 (dR (zab 3) (dR (dC (.int 8)) dR0))))) (zaF (zb1 5 (dFz (za0 (zbt (dC (.int 3))) (zaM 13) dTT (zag zbJ (dRO 2 (dR (zab 3) (dR (zab 4) dR0)))) 1))) (zaF (zb1 6 (zag zcy (dRT 11 (dR (zab 3) (dR (dFz (zgS zfd (dA (zab 4) dA0))) dR0))))) (zaF (dIf (zq5 false (zab 6)) (zb1 5 (dFz (zfG (zab 5) (dFz (zbU (dA (zab 6) (dA (zab 6) dA0))))))) dNx) (zaF (ze4 (dIt (zab 5)) (zaM 7) (ze4 (dIt (dFz (zbU (dA (zab 7) (dA (zag zaR (dRO 2 (dR (zab 3) (dR (zab 7) dR0)))) (dA (zag zaR (dRO 2 (dR (zab 3) (dR (zab 7) dR0)))) dA0)))))) (zaM 8) (zaF (zb1 9 (zag zbP (dR (zab 3) (dR (zab 4) (dR (zab 8) dR0))))) (dIf (zdW (zaP (dTB (zcZ "bool" (zab 9)))) (dTB (dOp (gEq true) (zab 9) (zag zcn (dR (zab 3) (dR (zab 4) (dR (zab 8) dR0))))))) (zbN (dC (.bl false))) dNx)))) (zaF (zb1 10 (dOp gIx (dC (.lst [(.int 0),(.int 8),(.bl true),.non])) (zag zaf (dRO 2 (dR (dC (.int 4)) dR0))))) (zaF (dIf (dTB (dOp (gEq true) (dFz (zp6 12 zcS (zag zbP (dR (zab 10) (dR (dC .non) (dR (dC .non) dR0)))))) (dC (.lst [(.int 0)])))) (zbN (dC (.bl false))) dNx) (dIf (dTB (dOp (gEq true) (dFz (zp6 12 zcS (zag zbP (dR (zab 3) (dR (dFn zdu (dA (zab 4) dA0)) (dR (dC .non) dR0)))))) (dC (.lst [(.int 1)])))) (zbN (dC (.bl false))) dNx))))))))))) (zbN (dC (.bl true))))
theorem zvI(T:Tx K mg cls){f PT QT cM:Addr}{fd:FuncData}(hPQ:PT≠QT)(hcM:fd.code=.ref cM)(hchM:W.codeHdIn K cM QT=true)(hbmQ:base.BuiltinsAt mg QT)(hKb:K.In base)(U:Fun K "law" "law" (top 47) f fd)(DT:zvc P w K mg base (CXe P w) (xvC cls) 21 (Str.ofString "least_bar") ([false,false]++[true]) PT zcy):zhF P w K mg base (CXe P w) 27 f fd ztQ (zt1 K PT QT (zmm 10 zgJ zcS zlj)):=by
  obtain ⟨fR,fdR,UR,hmR⟩:=T.u__law_refused
  refine zsf (k:=26) (m:=10) (xt:="<tab>") (xu:="<tab2>") (q:=zgJ) (q2:=zcS) (xv:=xvC cls) hPQ U hcM hchM zdP rfl rfl (by unfold Vis;decide +kernel) rfl (by unfold Vis;decide +kernel) hbmQ hKb fun X C hX hpp hσ0 hσQ hxv hnw hr hx hpo hLB=>?_
  obtain ⟨cdv,A,outer,s,H,E,rfl⟩:=hX
  obtain ⟨cG,cH,cw,cpp,cσ,cex,cxv,cnw⟩:=C
  dsimp only at hpp hσ0 hσQ hxv hnw
  subst hpp hxv hnw
  have hnw:(false:Bool)=false:=rfl
  exact (zae (by exact (zeC hpo rfl (zbH rfl T.b_range (ztv rfl T.b_max zai (zu8 rfl T.b_min (zcJ T.b_len (zaa 0)) zai))) (zaT (i:=1) zdP.nd rfl xwO (show 1∉([11,12]:List Nat) by decide)) (zae (by exact (zdr (i:=2) zdP.nd rfl xwO (show 2∉([11,12]:List Nat) by decide) (zv3 (zjR T) hr xwo hx (zad (zaa 0) (zad (zaa 1) zar))))) (zae (by exact (zaY (i:=3) zdP.nd rfl xwO (show 3∉([11,12]:List Nat) by decide) (zbS zai (zaE (za4 T) hr xwo hx (zbh 2 (zad zai zar)))))) (zae (by exact (zaY (i:=4) zdP.nd rfl xwO (show 4∉([11,12]:List Nat) by decide) (zaE (zhL T) hr xwo hx (zbh 2 (zad (zaa 3) (zad zai zar)))))) (zae (by exact (zgu (i:=5) zdP.nd rfl xwO (show 5∉([11,12]:List Nat) by decide) (zbH rfl T.b_range zai) rfl (N':=zih) (m:=1) xwk rfl (zaI xwk) (zbj xwk) (zbs xwk) (fun cl L s H fp G H' w Y=>⟨(zaT (i:=13) zqE rfl xwO (xwN rfl)),zbZ,(zaE (zjT T) hr xwo (zjz fun _ z=>z) (zbh 2 (zad (zaa 3) (zad (zaa 4) zar))))⟩))) (zae (by exact (zaY (i:=6) zdP.nd rfl xwO (show 6∉([11,12]:List Nat) by decide) (zub DT hr xwo hx (show 11∈([11,12]:List Nat) by decide) hσ0 (zad (zaa 3) (zad (za6 (zl5 T.b_list (zaa 4))) zar))))) (zae (by exact (zcd (zov (zaa 6)) (zam (by exact (zaY (i:=5) zdP.nd rfl xwO (show 5∉([11,12]:List Nat) by decide) (za6 (by refine zhg (zaa 5) ?_;exact (za6 (zb3 (zac (zaa 6) (zac (zaa 6) zap))))))))) zaK)) (zae (by exact (zeC hpo rfl (zcF (zaa 5)) (zaT (i:=7) zdP.nd rfl xwO (show 7∉([11,12]:List Nat) by decide)) (zam (by exact (zeC hpo rfl (zcF (za6 (zb3 (zac (zaa 7) (zac (zaE (zhm T) hr xwo hx (zbh 2 (zad (zaa 3) (zad (zaa 7) zar)))) (zac (zaE (zhm T) hr xwo hx (zbh 2 (zad (zaa 3) (zad (zaa 7) zar)))) zap)))))) (zaT (i:=8) zdP.nd rfl xwO (show 8∉([11,12]:List Nat) by decide)) (zae (by exact (zaY (i:=9) zdP.nd rfl xwO (show 9∉([11,12]:List Nat) by decide) (zaE (ziw T) hr xwo hx (zad (zaa 3) (zad (zaa 4) (zad (zaa 8) zar)))))) (zam (by exact (zcd (JW.jt (zd2 (zcr (zcf (zd4 zi4 rfl T.b_isinstance zd5 rfl T.b_bool zkQ (zaa 9)))) (zd3 (zgo (zhh hr) (zaa 9) (zaE (ziK T) hr xwo hx (zad (zaa 3) (zad (zaa 4) (zad (zaa 8) zar)))))))) (zam (by exact (za2 hnw zcR))) zaK))))))))) (zae (by exact (zaY (i:=10) zdP.nd rfl xwO (show 10∉([11,12]:List Nat) by decide) (zbw (by refine jd 40 ?_;kernel_rfl) (zaE (za4 T) hr xwo hx (zbh 2 (zad zai zar)))))) (zae (by exact (zcd (zgo (zhh hr) (za6 (zry (k:=21) (st:=top 43) hLB rfl (show 12∈([11,12]:List Nat) by decide) hσQ cls (fun _ _=>rfl) UR zbk rfl (UR.binds (ps:=["call"]) fun _ _ _ _ _ _ us hl=>match us,hl with|[_],_=>rfl) hmR (hr.mono xwo) (zeG T) zdR (fun XL CL hXL hcv hr hx=>by
   obtain ⟨⟨xp,xw,xK,xmg,xb,xA,xN,xs,xH,xenv,xo,xst,xex,xfn,xc,xpn,xxe⟩,cl,Fa,cdv,s,H,E,e1,e2,e3,e4,e5,rfl⟩:=hXL
   obtain ⟨cG,cH,cw,cpp,cσ,cex,cxv,cnw⟩:=CL
   dsimp only at e1 e2 e3 e4 e5 hcv
   subst e1 e2 e3 e4 e5 hcv
   exact (zaE (ziw T) hr xwo hx (zad (zaa 10) (zad zfz (zad zfz zar))))) (hfr:=zbj xwk) (hbind:=fun _ _ _ _=>rfl))) (by refine jd 40 ?_;kernel_rfl)) (zam (by exact (za2 hnw zcR))) zaK)) (zam (by exact (zcd (zgo (zhh hr) (za6 (zry (k:=21) (st:=top 43) hLB rfl (show 12∈([11,12]:List Nat) by decide) hσQ cls (fun _ _=>rfl) UR zbk rfl (UR.binds (ps:=["call"]) fun _ _ _ _ _ _ us hl=>match us,hl with|[_],_=>rfl) hmR (hr.mono xwo) (zeG T) zdR (fun XL CL hXL hcv hr hx=>by
   obtain ⟨⟨xp,xw,xK,xmg,xb,xA,xN,xs,xH,xenv,xo,xst,xex,xfn,xc,xpn,xxe⟩,cl,Fa,cdv,s,H,E,e1,e2,e3,e4,e5,rfl⟩:=hXL
   obtain ⟨cG,cH,cw,cpp,cσ,cex,cxv,cnw⟩:=CL
   dsimp only at e1 e2 e3 e4 e5 hcv
   subst e1 e2 e3 e4 e5 hcv
   exact (zaE (ziw T) hr xwo hx (zad (zaa 3) (zad (ziv T.b_tuple (zaa 4)) (zad zfz zar))))) (hfr:=zbj xwk) (hbind:=fun _ _ _ _=>rfl))) (by refine jd 40 ?_;kernel_rfl)) (zam (by exact (za2 hnw zcR))) zaK)))))))))))))) (zam (by exact (za2 hnw zcR))))
end
theorem zkF{x y:Dt}{bs:List B}:∀{Z:Ev}{k:Nat},ze5 [.d x,.d y] bs k Z = Z
 |[],_=>rfl
 |o::r,k=>by
  show (match zco [.d x,.d y] k with|some j=>bs[j]?|none=>o)::ze5 [.d x,.d y] bs (k+1) r=_
  rw[zkF (Z:=r)];rfl
theorem zhO{F:FD}{fa:De}{Z Z':Ev}{d y:Dt}{l:List B}(h:fa Z=.ok (d,Z'))(hF:F [.val d]=.ok (y,l)):zag F (dR fa dR0) Z=.ok (y,Z'):=by
 unfold zag dR dR0
 rw[h]
 simp only[R.bind_ok,zhE,zaV,if_true,zay,hF]
 rw[zrm]
theorem zhP{F:FD}{fa fb:De}{Z Z' Z'':Ev}{d e y:Dt}{l:List B}(h:fa Z=.ok (d,Z'))(h2:fb Z'=.ok (e,Z''))(hF:F [.val d,.val e]=.ok (y,l)):zag F (dR fa (dR fb dR0)) Z=.ok (y,Z''):=by
 unfold zag dR dR0
 rw[h]
 simp only[R.bind_ok,h2,zhE,zaV,if_true,zay,hF]
 rw[zkF]
theorem zkT{i k:Nat}{d:Dt}:zco [.s i,.d d] k=if i=k then some 0 else none:=by
 unfold zco zbD
 split <;> rfl
theorem zrx{i:Nat}{d:Dt}{b:B}{bs:List B}:∀{Z:Ev}{k:Nat},k<=i->ze5 [.s i,.d d] (b::bs) k Z = Z.set (i-k) (some b)
 |[],k,_=>by simp[ze5]
 |o::r,k,h=>by
  unfold ze5
  rw[zkT]
  by_cases e:i=k
  ·subst e
   simp only[if_true,Nat.sub_self,List.set_cons_zero]
   have:∀(r:Ev)(m:Nat),i<m->ze5 [.s i,.d d] (b::bs) m r=r:=by
    intro r
    induction r with
    |nil=>intro m _;rfl
    |cons o r ih =>
     intro m hm
     unfold ze5
     rw[zkT,if_neg xwo,ih (m+1) xwo]
   rw[this r (i+1) xwo];rfl
  ·rw[if_neg e,zrx (k:=k+1) xwo]
   have:i-k=(i-(k+1))+1:=by omega
   rw[this,List.set_cons_succ]
theorem zk6{F:FD}{fb:De}{i:Nat}{Z:Ev}{d y:Dt}{st st':List Dt}{l:List B}(hi:Z[i]? = some (some (.own st)))(h:fb Z=.ok (d,Z))(hF:F [.own st,.val d]=.ok (y,.own st'::l)):zag F (dRO i (dR fb dR0)) Z=.ok (y,Z.set i (some (.own st'))):=by
 have u:zhE [.s i,.d d]=true:=by
  unfold zhE zaV
  rw[zkT]
  simp[zaV]
 unfold zag dRO dR dR0
 simp only[hi,h,R.bind_ok,u,if_true,zay,zjm,hF]
 rw[zrx (Nat.zero_le _)]
 rfl
theorem zav{nw:Bool}{ks:List Bool}{m:Nat}{body:DS}{bs:List B}{d:Dt}{Z':Ev}{l:List B}(hk:zbx bs=ks)(hb:body (bs.map some++List.replicate m none)=.ok (.rt d,Z'))(hl:zaw ks Z'=.ok l):zaq nw ks m body bs=.ok (d,l):=by
 unfold zaq
 rw[if_pos hk,hb]
 simp only[R.bind_ok,hl]
theorem zo8{ks:List Bool}{m:Nat}{body:DS}{bs:List B}{Z':Ev}{l:List B}(hk:zbx bs=ks)(hb:body (bs.map some++List.replicate m none)=.ok (.nx,Z'))(hl:zaw ks Z'=.ok l):zaq false ks m body bs=.ok (.non,l):=by
 unfold zaq
 rw[if_pos hk,hb]
 simp only[R.bind_ok,hl]
 rfl
def St(st:List Dt):Prop:=∃ s b,st=[.int s,.bl b]
theorem zbb{st:List Dt}{m:Int}(h:St st)(h0:0<m)(h1:m<1073741824):∃(v:Int)(st':List Dt),zaf [.own st,.val (.int m)]=.ok (.int v,[.own st',.val .non])/\St st'/\0<=v/\v<m:=by
 obtain ⟨s,b,rfl⟩:=h
 cases b with
 |true =>
  refine ⟨s % m,[.int (s / m),.bl true],?_,⟨_,_,rfl⟩,Int.emod_nonneg _ xwo,Int.emod_lt_of_pos _ h0⟩
  unfold zaf zaq zeX
  simp[zbx,zjm,zaF,dIf,dTB,zll,dC,atI,ixN,zb1,dOp,zkf,zab,zoR,zqd,zbN,zaw,h0,h1]
 |false =>
  have e1:∃ a,(s * 48271+29) % 2147483647=a/\0<=a/\a<2147483647:=⟨_,rfl,Int.emod_nonneg _ xwd,Int.emod_lt_of_pos _ xwd⟩
  obtain ⟨a,ea,a0,a1⟩:=e1
  have e2:∃ c,(a * a+39373 * a+7) % 2147483629=c/\0<=c/\c<2147483629:=⟨_,rfl,Int.emod_nonneg _ xwd,Int.emod_lt_of_pos _ xwd⟩
  obtain ⟨c,ec,c0,c1⟩:=e2
  have sa:zcX a=true:=by unfold zcX;simp;omega
  have sc:zcX c=true:=by unfold zcX;simp;omega
  have s1:zcX 48271=true:=by decide
  have s2:zcX 39373=true:=by decide
  have s3:zcX 16807=true:=by decide
  refine ⟨(c * c+16807 * c) % 2147483587 / 8 % m,[.int a,.bl false],?_,⟨_,_,rfl⟩,Int.emod_nonneg _ xwo,Int.emod_lt_of_pos _ h0⟩
  unfold zaf zaq zeX
  simp[zbx,zjm,zaF,dIf,dTB,zll,dC,atI,ixN,zb1,dOp,zkf,znP,zbe,zab,zoR,zqd,zbN,dNx,zaw,h0,h1,ea,ec,sa,sc,s1,s2,s3]
theorem ziQ:∀(n:Nat)(d:Dt),okN n d=true->okN (n+1) d=true
 |_,.non,_=>by simp[okN]
 |_,.bl _,_=>by simp[okN]
 |_,.int _,_=>by simp[okN]
 |n,.str x,h=>by cases n <;> simpa [okN] using h
 |0,.tup l,h=>by simp[okN] at h
 |0,.lst l,h=>by simp[okN] at h
 |n+1,.tup l,h=>by
  simp only[okN,List.all_eq_true] at h ⊢
  exact fun d hd=>ziQ n d (h d hd)
 |n+1,.lst l,h=>by
  simp only[okN,List.all_eq_true] at h ⊢
  exact fun d hd=>ziQ n d (h d hd)
 |n,.dct,h=>by cases n <;> simp[okN] at h
 |n,.scr _,h=>by cases n <;> simp[okN] at h
theorem znQ{n m:Nat}{d:Dt}(h:okN n d=true)(hl:n<=m):okN m d=true:=by
 induction hl with
 |refl=>exact h
 |step _ ih=>exact ziQ _ _ ih
theorem zkC{n:Nat}{v:Int}(h0:0<=v)(h1:v<n):ixN n v=some v.toNat:=by
 unfold ixN
 rw[if_pos h0,if_pos h1]
theorem zhX{α:Type}:∀{l:List α}{j:Nat}{d:α},l[j]? = some d->(d::l.eraseIdx j).Perm l
 |[],_,_,h=>by simp at h
 |a::l,0,d,h=>by simp at h;subst h;exact .refl _
 |a::l,j+1,d,h=>by
  have:=zhX (l:=l) (j:=j) (d:=d) (by simpa using h)
  exact (List.Perm.swap a d _).trans (this.cons a)
theorem zg9{neg:Bool}{x y:Dt}(h1:okN 60 x=true)(h2:okN 60 y=true):gEq neg x y=.ok (.bl (if neg then !eqD x y else eqD x y)):=by
 unfold gEq
 rw[h1,h2];rfl
theorem zg4{d:Dt}{l:List Dt}:eqD (.lst (d::l)) (.lst [])=false:=by rw[eqD];simp[zlY]
theorem zhl:eqD (.lst []) (.lst [])=true:=by rw[eqD,zlY]
theorem ztR{st found l:List Dt}{o:Option B}{b:Bool}(h:okN 60 (.lst l)=true)(e:(!eqD (.lst l) (.lst []))=b):dTB (ztm true 2 (dFz (zbU dA0))) [some (.own st),o,some (.own l),some (.own found)]=.ok (b,[some (.own st),o,some (.own l),some (.own found)]):=by
 show (((gEq true (.lst l) (.lst [])).bind fun z=>.ok (z,[some (.own st),o,some (.own l),some (.own found)])).bind fun (a:Dt×Ev)=>match a.1 with|.bl b=>.ok (b,a.2)|_=>.no)=_
 rw[zg9 h rfl]
 simp only[if_true,e]
 rfl
theorem ziq{things:Option B}:∀(n:Nat)(left found:List Dt)(st:List Dt),left.length<n->left.length+found.length<=1000->(∀ d∈left,okN 59 d=true)->St st->∃ st' p,St st'/\p.Perm left /\
  zcI (dTB (ztm true 2 (dFz (zbU dA0)))) (dEx (zft 3 (zf6 2 (zag zaf (dRO 0 (dR (zdS 2) dR0)))))) n [some (.own st),things,some (.own left),some (.own found)]=.ok (.nx,[some (.own st'),things,some (.own []),some (.own (found++p))])
 |0,left,found,st,h,_,_,_=>absurd h (Nat.not_lt_zero _)
 |n+1,[],found,st,h,hl,hk,hs=>by
  refine ⟨st,[],hs,.refl _,?_⟩
  unfold zcI
  rw[ztR (b:=false) rfl (by rw[zhl];rfl)]
  simp
 |n+1,d::left,found,st,h,hl,hk,hs=>by
  obtain ⟨v,st1,e,hs1,v0,v1⟩:=zbb (m:=((d::left).length:Nat)) hs (by simp only[wan];omega) (by simp only[wan] at hl ⊢;omega)
  have hv:v.toNat<(d::left).length:=by omega
  have hget:(d::left)[v.toNat]? = some (d::left)[v.toNat]:=by simp[hv]
  have hel:=zhX hget
  have hlen:((d::left).eraseIdx v.toNat).length=left.length:=by
   have:=hel.length_eq
   simp only[wan] at this
   omega
  obtain ⟨st',p,hs',hp,hw⟩:=ziq (things:=things) n ((d::left).eraseIdx v.toNat) (found++[(d::left)[v.toNat]]) st1 (by simp only[wan] at h;omega) (by simp only[wav,wan,List.length_nil] at hl ⊢;omega)
   (fun x hx=>hk x (hel.mem_iff.mp (wah _ hx))) hs1
  refine ⟨st',(d::left)[v.toNat]::p,hs',((hp.cons _).trans hel),?_⟩
  have hall:((d::left).all (okN 59))=true:=List.all_eq_true.mpr hk
  have ec:zag zaf (dRO 0 (dR (zdS 2) dR0)) [some (.own st),things,some (.own (d::left)),some (.own found)]=.ok (.int v,[some (.own st1),things,some (.own (d::left)),some (.own found)]):=zk6 (Z:=[some (.own st),things,some (.own (d::left)),some (.own found)]) rfl rfl e
  have hm:zfH v=true:=by unfold zfH;simp;simp only[wan] at hl v1;omega
  unfold zcI
  have t1:=ztR (st:=st) (found:=found) (l:=d::left) (o:=things) (b:=true) (show okN 60 (.lst (d::left))=true from hall) (by rw[zg4];rfl)
  rw[t1]
  simp only[R.bind_ok,if_true]
  have t2:dEx (zft 3 (zf6 2 (zag zaf (dRO 0 (dR (zdS 2) dR0))))) [some (.own st),things,some (.own (d::left)),some (.own found)]=.ok (.nx,[some (.own st1),things,some (.own ((d::left).eraseIdx v.toNat)),some (.own (found++[(d::left)[v.toNat]]))]):=by
   have hpop:zkB (d::left) v=some ((d::left)[v.toNat],(d::left).eraseIdx v.toNat):=by
    unfold zkB
    rw[if_pos hm,zkC v0 v1]
    simp only[hget]
   unfold dEx zft zf6
   simp only[List.getElem?_cons_succ,List.getElem?_cons_zero,ec,R.bind_ok,hpop,List.set_cons_succ,List.set_cons_zero]
   rw[if_pos xwo]
   rfl
  rw[t2]
  simp only[R.bind_ok]
  rw[hw]
  simp
theorem zmK{l:List Dt}{st:List Dt}(hs:St st)(hl:l.length<10)(hk:∀ d∈l,okN 59 d=true):∃ st' p,St st'/\p.Perm l/\za9 [.own st,.val (.lst l)]=.ok (.lst p,[.own st',.val .non]):=by
 obtain ⟨st',p,hs',hp,hw⟩:=ziq (things:=some (.val (.lst l))) 10 l [] st hl (by simp;omega) hk hs
 refine ⟨st',p,hs',hp,?_⟩
 have hd:zcD [some (.own st),some (.val (.lst l)),none,none]=.ok (.rt (.lst p),[some (.own st'),some (.val (.lst l)),some (.own []),some (.val (.lst p))]):=by
  unfold zcD
  have e1:zbF 2 (zgS zfd (dA (zab 1) dA0)) [some (.own st),some (.val (.lst l)),none,none]=.ok (.nx,[some (.own st),some (.val (.lst l)),some (.own l),none]):=rfl
  have e2:zbF 3 (zbU dA0) [some (.own st),some (.val (.lst l)),some (.own l),none]=.ok (.nx,[some (.own st),some (.val (.lst l)),some (.own l),some (.own [])]):=rfl
  unfold zaF
  rw[e1]
  simp only[R.bind_ok]
  rw[e2]
  simp only[R.bind_ok]
  rw[hw]
  rfl
 exact zav rfl hd rfl
theorem zao{g:Dt->Dt->R Dt}{fa fb:De}{Z Z1 Z2:Ev}{d e z:Dt}(h1:fa Z=.ok (d,Z1))(h2:fb Z1=.ok (e,Z2))(h3:g d e=.ok z):dOp g fa fb Z=.ok (z,Z2):=by
 unfold dOp
 rw[h1]
 simp only[R.bind_ok,h2,h3]
theorem zaz{f:De}{Z Z1:Ev}{b:Bool}(h:f Z=.ok (.bl b,Z1)):dTB f Z=.ok (b,Z1):=by
 unfold dTB
 rw[h];rfl
theorem zb2{c:DT}{f g:DS}{Z Z1:Ev}(h:c Z=.ok (true,Z1)):dIf c f g Z=f Z1:=by
 unfold dIf
 rw[h];rfl
theorem zch{c:DT}{f g:DS}{Z Z1:Ev}(h:c Z=.ok (false,Z1)):dIf c f g Z=g Z1:=by
 unfold dIf
 rw[h];rfl
theorem zal{f g:DS}{Z Z1:Ev}(h:f Z=.ok (.nx,Z1)):zaF f g Z=g Z1:=by
 unfold zaF
 rw[h];rfl
theorem zaH{f g:DS}{Z Z1:Ev}{d:Dt}(h:f Z=.ok (.rt d,Z1)):zaF f g Z=.ok (.rt d,Z1):=by
 unfold zaF
 rw[h];rfl
theorem zbi{f:De}{Z Z1:Ev}{d:Dt}(h:f Z=.ok (d,Z1)):zbN f Z=.ok (.rt d,Z1):=by
 unfold zbN
 rw[h];rfl
theorem zaO{f:De}{i:Nat}{Z Z1:Ev}{d:Dt}(h:f Z=.ok (d,Z1))(hi:i < Z1.length):zb1 i f Z=.ok (.nx,Z1.set i (some (.val d))):=by
 unfold zb1
 rw[h]
 simp only[R.bind_ok,hi,if_true]
theorem zcl{f:DN}{i:Nat}{Z Z1:Ev}{d:List Dt}(h:f Z=.ok (d,Z1))(hi:i < Z1.length):zbF i f Z=.ok (.nx,Z1.set i (some (.own d))):=by
 unfold zbF
 rw[h]
 simp only[R.bind_ok,hi,if_true]
theorem zaG{f:DN}{Z Z1:Ev}{d:List Dt}(h:f Z=.ok (d,Z1)):dFz f Z=.ok (.lst d,Z1):=by
 unfold dFz
 rw[h];rfl
theorem zhw{f:De}{Z Z1:Ev}{d:Dt}(h:f Z=.ok (d,Z1)):dEx f Z=.ok (.nx,Z1):=by
 unfold dEx
 rw[h];rfl
theorem zbl{g:List Dt->R Dt}{f:De}{Z Z1:Ev}{d z:Dt}(h:f Z=.ok (d,Z1))(hg:g [d]=.ok z):dFn g (dA f dA0) Z=.ok (z,Z1):=by
 unfold dFn dA dA0
 rw[h]
 simp only[R.bind_ok,hg]
theorem zaZ{f g:DT}{Z Z1:Ev}(h:f Z=.ok (false,Z1)):zdW f g Z=g Z1:=by
 unfold zdW
 rw[h];rfl
theorem zcG{f g:DT}{Z Z1:Ev}(h:f Z=.ok (true,Z1)):zdW f g Z=.ok (true,Z1):=by
 unfold zdW
 rw[h];rfl
theorem zgs{f g:DT}{Z Z1:Ev}(h:f Z=.ok (true,Z1)):zfI f g Z=g Z1:=by
 unfold zfI
 rw[h];rfl
theorem zkU{f g:DT}{Z Z1:Ev}(h:f Z=.ok (false,Z1)):zfI f g Z=.ok (false,Z1):=by
 unfold zfI
 rw[h];rfl
theorem zaW{f:DT}{Z Z1:Ev}{b:Bool}(h:f Z=.ok (b,Z1)):zaP f Z=.ok (!b,Z1):=by
 unfold zaP
 rw[h];rfl
theorem zrN{Z0:Ev}{o:Option B}{d:Dt}:zaM Z0.length d (Z0++[o])=.ok (Z0++[some (.val d)]):=by
 unfold zaM
 rw[if_pos xws]
 simp
theorem zhB{Z0:Ev}{d:Dt}:zab Z0.length (Z0++[some (.val d)])=.ok (d,Z0++[some (.val d)]):=by
 unfold zab
 simp
theorem zjw{α:Type}{u f:α->Dt}{fe:De}{Z0:Ev}:∀{l:List α}{o:Option B},(∀ a∈l,fe (Z0++[some (.val (u a))])=.ok (f a,Z0++[some (.val (u a))]))->∃ o',zb0 (zaM Z0.length) dTT fe (l.map u) (Z0++[o])=.ok (l.map f,Z0++[o'])
 |[],o,_=>⟨o,rfl⟩
 |a::l,o,h=>by
  obtain ⟨o',e⟩:=zjw (l:=l) (o:=some (.val (u a))) fun b hb=>h b (by simp[hb])
  refine ⟨o',?_⟩
  rw[List.map_cons,zb0,zrN]
  simp only[R.bind_ok,dTT,if_true]
  rw[h a xws]
  simp only[R.bind_ok]
  rw[e]
  rfl
theorem zbB{α:Type}{u f:α->Dt}{fe:De}{Z0:Ev}{fi:DA}{l:List α}{ds:List Dt}(hi:fi Z0=.ok (ds,Z0))(hd:ds=l.map u)(hl:l.length<=1000)(h:∀ a∈l,fe (Z0++[some (.val (u a))])=.ok (f a,Z0++[some (.val (u a))])){j:Nat}(hj:j = Z0.length) :
  za0 fi (zaM j) dTT fe 1 Z0=.ok (l.map f,Z0):=by
 subst hd;subst hj
 obtain ⟨o',e⟩:=zjw (o:=none) h
 unfold za0
 rw[hi]
 simp only[R.bind_ok]
 rw[if_pos (by unfold zdT;simp;omega)]
 show (match zb0 (zaM Z0.length) dTT fe (l.map u) (Z0++[none]) with|.ok z=>R.ok (z.1,z.2.take Z0.length)|_=>.no)=_
 rw[e]
 simp
theorem eqI{a b:Int}:eqD (.int a) (.int b)=(a == b):=by rw[eqD]
theorem zjj{x:Option B}{zaL:Ev}{o:Option B}{d:Dt}:zaM (zaL.length+1) d (x::(zaL++[o]))=.ok (x::(zaL++[some (.val d)])):=by
 unfold zaM
 rw[if_pos xws]
 simp
theorem zn0{α β:Type}{Rl:α->β->Prop}{u:α->Dt}{v:β->Dt}{fe:De}{zaL:Ev}:∀{l:List α}{st:List Dt}{o:Option B},
  (∀ a∈l,∀ st,St st->∃ y st',St st'/\Rl a y/\fe (some (.own st)::(zaL++[some (.val (u a))]))=.ok (v y,some (.own st')::(zaL++[some (.val (u a))])))->St st ->
  ∃ ys st' o',St st'/\Paired Rl l ys/\zb0 (zaM (zaL.length+1)) dTT fe (l.map u) (some (.own st)::(zaL++[o]))=.ok (ys.map v,some (.own st')::(zaL++[o']))
 |[],st,o,_,hs=>⟨[],st,o,hs,.nil,rfl⟩
 |a::l,st,o,h,hs=>by
  obtain ⟨y,st1,hs1,hr,e1⟩:=h a xws st hs
  obtain ⟨ys,st',o',hs',hp,e⟩:=zn0 (l:=l) (st:=st1) (o:=some (.val (u a))) (fun b hb=>h b (wah _ hb)) hs1
  refine ⟨y::ys,st',o',hs',.cons hr hp,?_⟩
  rw[List.map_cons,zb0,zjj]
  simp only[R.bind_ok,dTT,if_true]
  rw[e1]
  simp only[R.bind_ok]
  rw[e]
  rfl
theorem zlV{α β:Type}{Rl:α->β->Prop}{u:α->Dt}{v:β->Dt}{fe:De}{zaL:Ev}{fi:DA}{Z:Ev}{l:List α}{ds:List Dt}{st:List Dt}{j:Nat}(hi:fi Z=.ok (ds,some (.own st)::zaL))(hd:ds=l.map u)(hl:l.length<=1000)(hj:j=zaL.length+1)
  (h:∀ a∈l,∀ st,St st->∃ y st',St st'/\Rl a y/\fe (some (.own st)::(zaL++[some (.val (u a))]))=.ok (v y,some (.own st')::(zaL++[some (.val (u a))]))) (hs:St st) :
  ∃ ys st',St st'/\Paired Rl l ys/\za0 fi (zaM j) dTT fe 1 Z=.ok (ys.map v,some (.own st')::zaL):=by
 subst hd;subst hj
 obtain ⟨ys,st',o',hs',hp,e⟩:=zn0 (o:=none) h hs
 refine ⟨ys,st',hs',hp,?_⟩
 unfold za0
 rw[hi]
 simp only[R.bind_ok]
 rw[if_pos (by unfold zdT;simp only[List.length_map,decide_eq_true_eq];omega)]
 show (match zb0 (zaM (zaL.length+1)) dTT fe (l.map u) (some (.own st)::(zaL++[none])) with|.ok z=>R.ok (z.1,z.2.take (zaL.length+1))|_=>.no)=_
 rw[e]
 simp
theorem zds{α β:Type}{F:α->β->Prop}:∀{l:List α}{r:List β},Paired F l r->l.length=r.length
 |_,_,.nil=>rfl
 |_,_,.cons _ t=>by simp[zds t]
theorem zj2{p:List Dt}{l:List Int}(h:p.Perm (l.map .int)):∃ q:List Int,q.Perm l/\p=q.map .int:=by
 refine ⟨p.map fun d=>match d with|.int i=>i|_=>0,?_,?_⟩
 ·have:=h.map fun d=>match d with|.int i=>i|_=>0
  rw[List.map_map] at this
  have e:((fun d=>match d with|.int i=>i|_=>0) ∘ Dt.int)=(id:Int->Int):=rfl
  rw[e,List.map_id] at this
  exact this
 ·rw[List.map_map]
  conv=>lhs;rw[<- List.map_id p]
  refine List.map_congr_left fun d hd=>?_
  obtain ⟨i,_,rfl⟩:=List.mem_map.mp (h.mem_iff.mp hd)
  rfl
def isW:Dt->Bool
 |.int _=>true
 |_=>false
theorem zev(d:Dt):zbR [.val d]=.ok (.bl (isW d),[.val .non]):=by
 cases d <;> simp[zbR,zaq,zif,zbx,zjm,zbN,zhD,zcZ,zab,zt2,zjk,tyD,zaw,isW]
theorem zl7{n:Int}(h1:1<=n)(h7:n<=7):zaA [.val (.int n)]=.ok (.non,[.val .non]):=by
 have e:zag zbR (dR (zab 0) dR0) [some (.val (.int n))]=.ok (.bl true,[some (.val (.int n))]):=zhO (Z':=[some (.val (.int n))]) rfl (zev _)
 have a1:decide (n<1)=false:=by simp;omega
 have a2:decide (7<n)=false:=by simp;omega
 simp[zaA,zaq,zbW,zbx,zjm,dIf,zdW,zaP,dTB,e,dOp,zab,dC,zl1,a1,a2,dNx,zaw]
theorem zpv{d:Dt}(h:isW d=false\/∃ n,d=.int n/\(n<1\/7<n)):zaA [.val d]=.er 0:=by
 have e:zag zbR (dR (zab 0) dR0) [some (.val d)]=.ok (.bl (isW d),[some (.val d)]):=zhO (Z':=[some (.val d)]) rfl (zev _)
 rcases h with h|⟨n,rfl,h⟩
 ·simp[zaA,zaq,zbW,zbx,zjm,dIf,zdW,zaP,dTB,e,h,zin,dA,dC,dA0,zdT]
 ·have hw:isW (.int n)=true:=rfl
  by_cases h1:n<1
  ·simp[zaA,zaq,zbW,zbx,zjm,dIf,zdW,zaP,dTB,e,hw,dOp,zab,dC,zl1,h1,zin,dA,dA0,zdT]
  ·have h7:7<n:=by omega
   simp[zaA,zaq,zbW,zbx,zjm,dIf,zdW,zaP,dTB,e,hw,dOp,zab,dC,zl1,h1,h7,zin,dA,dA0,zdT]
def isG(n:Int):Dt->Bool
 |.int i=>decide (0<=i) && decide (i<n)
 |_=>false
theorem zge(n:Int)(d:Dt):zbd [.val (.int n),.val d]=.ok (.bl (isG n d),[.val .non,.val .non]):=by
 have e:zag zbR (dR (zab 1) dR0) [some (.val (.int n)),some (.val d)]=.ok (.bl (isW d),[some (.val (.int n)),some (.val d)]):=zhO (Z':=[some (.val (.int n)),some (.val d)]) rfl (zev _)
 cases d with
 |int i =>
  by_cases h:0<=i
  ·simp[zbd,zaq,ze0,zbx,zjm,zbN,zhD,e,isW,zgC,dC,zab,zl1,h,isG,zaw]
  ·simp[zbd,zaq,ze0,zbx,zjm,zbN,zhD,e,isW,zgC,dC,zab,zl1,h,isG,zaw]
 |_=>simp[zbd,zaq,ze0,zbx,zjm,zbN,zhD,e,isW,isG,zaw]
theorem zsr{α:Type}(l:List α)(k:Nat):decide (((l.length:Nat):Int)<(k:Int)) = !decide (k<=l.length):=by
 by_cases h:k<=l.length
 ·rw[decide_eq_true h,decide_eq_false xwo];rfl
 ·rw[decide_eq_false h,decide_eq_true xwo];rfl
theorem znn{neg:Bool}{i j:Int}:gEq neg (.int i) (.int j)=.ok (.bl (if neg then !(i == j) else (i == j))):=by
 rw[zg9 rfl rfl,eqI]
theorem zqX{Z0:Ev}{o:Option B}{d:Dt}:zaM Z0.length d (Z0++[o])=.ok (Z0++[some (.val d)]):=by
 unfold zaM
 rw[if_pos xws]
 simp
theorem zgw{p:Dt->Bool}{f:Dt->Dt}{ft:DT}{fe:De}{Z0:Ev}:∀{l:List Dt}{o:Option B},(∀ d∈l,ft (Z0++[some (.val d)])=.ok (p d,Z0++[some (.val d)]))->(∀ d∈l,p d=true->fe (Z0++[some (.val d)])=.ok (f d,Z0++[some (.val d)]))->∃ o',zb0 (zaM Z0.length) ft fe l (Z0++[o])=.ok ((l.filter p).map f,Z0++[o'])
 |[],o,_,_=>⟨o,rfl⟩
 |d::l,o,h,h2=>by
  obtain ⟨o',e⟩:=zgw (l:=l) (o:=some (.val d)) (fun b hb=>h b (wah _ hb)) (fun b hb=>h2 b (wah _ hb))
  refine ⟨o',?_⟩
  rw[zb0,zqX]
  simp only[R.bind_ok]
  rw[h d xws]
  simp only[R.bind_ok]
  cases hp:p d with
  |true =>
   simp only[if_true]
   rw[h2 d xws hp]
   simp only[R.bind_ok]
   rw[e]
   simp[List.filter_cons,hp]
  |false =>
   simp only[Bool.false_eq_true,if_false]
   rw[e]
   simp[List.filter_cons,hp]
theorem zdg{p:Dt->Bool}{f:Dt->Dt}{ft:DT}{fe:De}{Z0:Ev}{fi:DA}{l:List Dt}{j:Nat}(hi:fi Z0=.ok (l,Z0))(hj:j = Z0.length)(hl:l.length<=16777216)(h:∀ d∈l,ft (Z0++[some (.val d)])=.ok (p d,Z0++[some (.val d)]))(h2:∀ d∈l,p d=true->fe (Z0++[some (.val d)])=.ok (f d,Z0++[some (.val d)])) :
  za0 fi (zaM j) ft fe 1 Z0=.ok ((l.filter p).map f,Z0):=by
 subst hj
 obtain ⟨o',e⟩:=zgw (o:=none) h h2
 unfold za0
 rw[hi]
 simp only[R.bind_ok]
 rw[if_pos (by unfold zdT;simpa using hl)]
 show (match zb0 (zaM Z0.length) ft fe l (Z0++[none]) with|.ok z=>R.ok (z.1,z.2.take Z0.length)|_=>.no)=_
 rw[e]
 simp
def zc6(n:Nat):List Int:=(List.range n).map fun (k:Nat)=>(k:Int)
theorem zlT(n:Nat):za7 0 n=(zc6 n).map .int:=by
 unfold za7 zc6
 rw[List.map_map]
 refine List.map_congr_left fun k _=>?_
 simp
theorem zoj(i:Int):∀ l:List Int,inD (.int i) (l.map .int)=decide (i∈l)
 |[]=>by simp[inD]
 |a::r=>by
  have:=zoj i r
  unfold inD at this ⊢
  rw[List.map_cons,List.any_cons,this,eqI]
  by_cases h:a=i
  ·subst h;simp
  ·have h':¬ i=a:=fun z=>h z.symm
   by_cases h2:i∈r <;> simp[h,h',h2]
theorem zib{n:Nat}{x:Int}:x∈zc6 n ↔ 0<=x/\x<n:=by
 unfold zc6
 rw[List.mem_map]
 constructor
 ·rintro ⟨k,hk,rfl⟩
  have:=List.mem_range.mp hk
  omega
 ·rintro ⟨h0,h1⟩
  exact ⟨x.toNat,List.mem_range.mpr xwo,xwo⟩
theorem zfR(n:Nat):(zc6 n).length=n:=by unfold zc6;simp
theorem zjS(n:Nat):(zc6 n).Nodup:=by
 unfold zc6
 unfold List.Nodup
 rw[List.pairwise_map]
 refine List.Pairwise.imp (R:=fun a b=>a<b) (fun {a b} h=>by omega) List.pairwise_lt_range
theorem zrT{α:Type}{l:List α}{j:Nat}(h:j<l.length):zcA l none (some (j:Int))=l.take j:=by
 unfold zcA
 rw[HT.sIx_nat,HT.sIx_none,List.drop_zero,Nat.min_eq_left xwo,Nat.sub_zero]
theorem zhi{α:Type}{l:List α}{v:Int}(h0:0<=v)(h1:v<l.length):atI l v=l[v.toNat]? := by
 unfold atI
 rw[zkC h0 h1];rfl
theorem zdn{l:List Dt}{v:Int}{d:Dt}(h0:0<=v)(h1:v<l.length)(hd:l[v.toNat]? = some d):gIx (.tup l) (.int v)=.ok d:=by
 unfold gIx
 simp only[zhi h0 h1,hd]
theorem zkS{l:List Dt}{v:Int}{d:Dt}(h0:0<=v)(h1:v<l.length)(hd:l[v.toNat]? = some d):gIx (.lst l) (.int v)=.ok d:=by
 unfold gIx
 simp only[zhi h0 h1,hd]
theorem zlw{F:FD}{fb fc:De}{i:Nat}{Z:Ev}{d d2 y:Dt}{st st':List Dt}{l:List B}(hi:Z[i]? = some (some (.own st)))(h:fb Z=.ok (d,Z))(h2:fc Z=.ok (d2,Z))(hF:F [.own st,.val d,.val d2]=.ok (y,.own st'::l)):zag F (dRO i (dR fb (dR fc dR0))) Z=.ok (y,Z.set i (some (.own st'))):=by
 have hp:∀ k,zco [.s i,.d d,.d d2] k=if i=k then some 0 else none:=by
  intro k
  unfold zco zbD
  split <;> rfl
 have u:zhE [.s i,.d d,.d d2]=true:=by
  unfold zhE zaV
  rw[hp]
  simp[zaV]
 have hput:∀(Z:Ev)(k:Nat)(b:B)(bs:List B),k<=i->ze5 [.s i,.d d,.d d2] (b::bs) k Z = Z.set (i-k) (some b):=by
  intro Z
  induction Z with
  |nil=>intro k b bs _;simp[ze5]
  |cons o r ih =>
   intro k b bs h
   unfold ze5
   rw[hp]
   by_cases e:i=k
   ·subst e
    simp only[if_true,Nat.sub_self,List.set_cons_zero]
    have:∀(r:Ev)(m:Nat),i<m->ze5 [.s i,.d d,.d d2] (b::bs) m r=r:=by
     intro r
     induction r with
     |nil=>intro m _;rfl
     |cons o r ih =>
      intro m hm
      unfold ze5
      rw[hp,if_neg xwo,ih (m+1) xwo]
    rw[this r (i+1) xwo];rfl
   ·rw[if_neg e,ih (k+1) b bs xwo]
    have:i-k=(i-(k+1))+1:=by omega
    rw[this,List.set_cons_succ]
 unfold zag dRO dR dR0
 simp only[hi,h,h2,R.bind_ok,u,if_true,zay,zjm,hF]
 rw[hput _ _ _ _ (Nat.zero_le _)]
 rfl
theorem zbA{fa:De}{fr:DA}{Z Z1 Z2:Ev}{d:Dt}{ds:List Dt}(h1:fa Z=.ok (d,Z1))(h2:fr Z1=.ok (ds,Z2)):dA fa fr Z=.ok (d::ds,Z2):=by
 unfold dA
 rw[h1];simp only[R.bind_ok]
 rw[h2];rfl
theorem zbE{f:DA}{Z Z1:Ev}{ds:List Dt}(h:f Z=.ok (ds,Z1))(hl:ds.length<=16777216):zbU f Z=.ok (ds,Z1):=by
 unfold zbU
 rw[h];simp only[R.bind_ok]
 rw[if_pos (by unfold zdT;simpa using hl)]
theorem zaU{f:DA}{Z Z1:Ev}{ds:List Dt}(h:f Z=.ok (ds,Z1))(hl:ds.length<=16777216):zb9 f Z=.ok (.tup ds,Z1):=by
 unfold zb9
 rw[h];simp only[R.bind_ok]
 rw[if_pos (by unfold zdT;simpa using hl)]
theorem znX{ns:List Int}{k:Nat}:∃ c:Int,zcz [.val (.scr ns),.val (.int k)]=.ok (.int c,[.val .non,.val .non]):=by
 have e0:dTB (dOp gLt (zab 1) (dFn zbz (dA (zab 0) dA0))) [some (.val (.scr ns)),some (.val (.int k))]=.ok (decide ((k:Int)<ns.length),[some (.val (.scr ns)),some (.val (.int k))]):=zaz (zao (d:=.int k) (e:=.int ns.length) rfl rfl rfl)
 by_cases h:k<ns.length
 ·refine ⟨ns[k],zav (Z':=[some (.val (.scr ns)),some (.val (.int k))]) rfl ?_ rfl⟩
  show zbV [some (.val (.scr ns)),some (.val (.int k))]=_
  unfold zbV
  refine zaH ?_
  rw[zb2 (by rw[e0,decide_eq_true xwo])]
  refine zbi (zao (d:=.scr ns) (e:=.int k) rfl rfl ?_)
  unfold gIx
  simp only[zhi (l:=ns) (v:=(k:Int)) xwo xwo,Int.toNat_natCast,wac h]
 ·refine ⟨0,zav (Z':=[some (.val (.scr ns)),some (.val (.int k))]) rfl ?_ rfl⟩
  show zbV [some (.val (.scr ns)),some (.val (.int k))]=_
  unfold zbV
  rw[zal (Z1:=[some (.val (.scr ns)),some (.val (.int k))]) (by rw[zch (by rw[e0,decide_eq_false xwo])];rfl)]
  rfl
theorem zmY{ns:List Int}{k:Nat}:∃ st,St st/\zc9 [.val (.scr ns),.val (.int k)]=.ok (.lst st,[.val .non,.val .non]):=by
 obtain ⟨c,hc⟩:=znX (ns:=ns) (k:=k)
 have e1:zb1 2 (zag zcz (dR (zab 0) (dR (zab 1) dR0))) [some (.val (.scr ns)),some (.val (.int k)),none]=.ok (.nx,[some (.val (.scr ns)),some (.val (.int k)),some (.val (.int c))]):=zaO (zhP (Z':=[some (.val (.scr ns)),some (.val (.int k)),none]) (Z'':=[some (.val (.scr ns)),some (.val (.int k)),none]) rfl rfl hc) xws
 have ep:dOp zqm (dC (.int 10)) (dC (.int 18)) [some (.val (.scr ns)),some (.val (.int k)),some (.val (.int c))]=.ok (.int 1000000000000000000,[some (.val (.scr ns)),some (.val (.int k)),some (.val (.int c))]):=by
  refine zao rfl rfl ?_
  show (if 0<=(18:Int)/\(18:Int)<=1000/\(10:Int).natAbs<18446744073709551616 then R.ok (Dt.int ((10:Int) ^ (18:Int).toNat)) else R.no)=_
  rw[if_pos xwd]
  rfl
 have e2:dTB (dOp gGe (zab 2) (dOp zqm (dC (.int 10)) (dC (.int 18)))) [some (.val (.scr ns)),some (.val (.int k)),some (.val (.int c))]=.ok (decide ((1000000000000000000:Int)<=c),[some (.val (.scr ns)),some (.val (.int k)),some (.val (.int c))]):=zaz (zao (d:=.int c) rfl ep rfl)
 by_cases h:(1000000000000000000:Int)<=c
 ·refine ⟨[.int (c-1000000000000000000),.bl true],⟨_,_,rfl⟩,zav (Z':=[some (.val (.scr ns)),some (.val (.int k)),some (.val (.int c))]) rfl ?_ rfl⟩
  show zc2 [some (.val (.scr ns)),some (.val (.int k)),none]=_
  unfold zc2
  rw[zal e1]
  refine zaH ?_
  rw[zb2 (by rw[e2,decide_eq_true h])]
  unfold zf9 zbU
  rw[dA,zao (d:=.int c) (z:=.int (c-1000000000000000000)) rfl ep rfl]
  rfl
 ·refine ⟨[.int (c % 2147483647),.bl false],⟨_,_,rfl⟩,zav (Z':=[some (.val (.scr ns)),some (.val (.int k)),some (.val (.int c))]) rfl ?_ rfl⟩
  show zc2 [some (.val (.scr ns)),some (.val (.int k)),none]=_
  unfold zc2
  rw[zal e1,zal (Z1:=[some (.val (.scr ns)),some (.val (.int k)),some (.val (.int c))]) (by rw[zch (by rw[e2,decide_eq_false h])];rfl)]
  unfold zf9 zbU
  rw[dA,zao (d:=.int c) (z:=.int (c % 2147483647)) rfl rfl rfl]
  rfl
theorem zux{F:FD}{fa fb:De}{Z Z' Z'':Ev}{d e:Dt}{y:List Dt}{l:List B}(h:fa Z=.ok (d,Z'))(h2:fb Z'=.ok (e,Z''))(hF:F [.val d,.val e]=.ok (.lst y,l)):zg0 F (dR fa (dR fb dR0)) Z=.ok (y,Z''):=by
 unfold zg0 dR dR0
 rw[h]
 simp only[R.bind_ok,h2,zhE,zaV,if_true,zay,hF]
 rw[zkF]
theorem zlD{g:DG}{body:DS}{I:Ev->Prop}:∀{ds:List Dt}{Z:Ev},(∀ d∈ds,∀ Z,I Z->∃ Z1 Z2,g d Z=.ok Z1/\body Z1=.ok (.nx,Z2)/\I Z2)->I Z->∃ Z',I Z'/\zkp g body ds Z=.ok (.nx,Z')
 |[],Z,_,h=>⟨Z,h,rfl⟩
 |d::ds,Z,hb,h=>by
  obtain ⟨Z1,Z2,e1,e2,h2⟩:=hb d xws Z h
  obtain ⟨Z',h',e⟩:=zlD (ds:=ds) (Z:=Z2) (fun c hc=>hb c (wah _ hc)) h2
  refine ⟨Z',h',?_⟩
  rw[zkp,e1]
  simp only[R.bind_ok]
  rw[e2]
  exact e
theorem zqU{F:FD}{fa fb:De}{Z Z' Z'':Ev}{d e:Dt}{n:Nat}(h:fa Z=.ok (d,Z'))(h2:fb Z'=.ok (e,Z''))(hF:F [.val d,.val e]=.er n):zag F (dR fa (dR fb dR0)) Z=.er n:=by
 unfold zag dR dR0
 rw[h]
 simp only[R.bind_ok,h2,zhE,zaV,if_true,zay,hF,R.bind_er]
def tz(p:List Int):Dt:=.tup (p.map .int)
theorem zgE(l:List Int)(n:Nat):(l.map Dt.int).all (okN n)=true:=by
 rw[List.all_eq_true]
 intro d hd
 obtain ⟨i,_,rfl⟩:=List.mem_map.mp hd
 cases n <;> rfl
theorem zs8{α:Type}{l:List α}{f m:Nat}(h:f<=l.length):zcA l (some (f:Int)) (some ((f:Int)+m))=(l.drop f).take m:=by
 unfold zcA
 rw[show (f:Int)+m=((f+m:Nat):Int) from rfl,HT.sIx_nat,HT.sIx_nat,Nat.min_eq_left h]
 by_cases z:f+m<=l.length
 ·rw[Nat.min_eq_left z,show f+m-f=m by omega]
 ·rw[Nat.min_eq_right xwo,List.take_of_length_le xws,List.take_of_length_le (by simp;omega)]
theorem zo1{m:Nat}(hm:m<=1000):zfH (m:Int)=true:=by
 unfold zfH
 rw[Bool.and_eq_true,decide_eq_true_eq,decide_eq_true_eq]
 omega
def Pty(n:Nat)(p:List Int):Prop:=p≠[]/\p.Pairwise (· < ·)/\∀ x∈p,0<=x/\x<n
theorem zl9{ft:DT}{zaL:Ev}:∀{l:List Dt}{st:List Dt}{o:Option B},(∀ d∈l,∀ st,St st->∃ b st',St st'/\ft (some (.own st)::(zaL++[some (.val d)]))=.ok (b,some (.own st')::(zaL++[some (.val d)])))->St st ->
  ∃ ys st' o',St st'/\ys.Sublist l/\zb0 (zaM (zaL.length+1)) ft (zab (zaL.length+1)) l (some (.own st)::(zaL++[o]))=.ok (ys,some (.own st')::(zaL++[o']))
 |[],st,o,_,hs=>⟨[],st,o,hs,.slnil,rfl⟩
 |d::l,st,o,h,hs=>by
  obtain ⟨b,st1,hs1,e1⟩:=h d xws st hs
  obtain ⟨ys,st',o',hs',hp,e⟩:=zl9 (l:=l) (st:=st1) (o:=some (.val d)) (fun b hb=>h b (wah _ hb)) hs1
  have hv:zab (zaL.length+1) (some (.own st1)::(zaL++[some (.val d)]))=.ok (d,some (.own st1)::(zaL++[some (.val d)])):=by
   simp[zab]
  cases b with
  |true =>
   refine ⟨d::ys,st',o',hs',hp.cons_cons d,?_⟩
   rw[zb0,zjj]
   simp only[R.bind_ok]
   rw[e1]
   simp only[R.bind_ok,if_true]
   rw[hv]
   simp only[R.bind_ok]
   rw[e]
   rfl
  |false =>
   refine ⟨ys,st',o',hs',hp.cons d,?_⟩
   rw[zb0,zjj]
   simp only[R.bind_ok]
   rw[e1]
   simp only[R.bind_ok,Bool.false_eq_true,if_false]
   exact e
theorem znG(n:Nat):(zc6 n).Pairwise (· < ·):=by
 unfold zc6
 rw[List.pairwise_map]
 refine List.Pairwise.imp (R:=fun a b=>a<b) (fun {a b} h=>by omega) List.pairwise_lt_range
theorem zfU{zaL:Ev}{st:List Dt}{fb:De}{m:Int}{v:Int}{st':List Dt}(e:zaf [.own st,.val (.int m)]=.ok (.int v,[.own st',.val .non]))(h:fb (some (.own st)::zaL)=.ok (.int m,some (.own st)::zaL)):zag zaf (dRO 0 (dR fb dR0)) (some (.own st)::zaL)=.ok (.int v,some (.own st')::zaL) :=
 zk6 (Z:=some (.own st)::zaL) rfl h e
theorem zpo{α:Type}{l:List α}(h:l.length<=1000):zdT l=true:=by
 unfold zdT
 rw[decide_eq_true_eq]
 omega
def zvq(j:Int)(Z:Ev):R (List Dt×Ev):=if zfH j=true then .ok (za7 0 j.toNat,Z) else .no
theorem zor{j:Int}{Z:Ev}(h:zfH j=true):zvq j Z=.ok (za7 0 j.toNat,Z):=if_pos h
theorem zr9{fa:De}{Z Z1:Ev}{j:Int}(h:fa Z=.ok (.int j,Z1)):zbt fa Z=zvq j Z1:=by
 unfold zbt zvq
 rw[h]
 rfl
theorem zdG{fa:De}{Z Z1:Ev}{j:Nat}(h:fa Z=.ok (.int j,Z1))(hj:j<=1000):zbt fa Z=.ok (za7 0 j,Z1):=by
 rw[zr9 h,zor (zo1 hj),Int.toNat_natCast]
theorem zmR{n:Nat}{st:List Dt}(h1:1<=n)(h7:n<=7)(hs:St st):∃ p st',St st'/\Pty n p/\zb4 [.own st,.val (.int n)]=.ok (tz p,[.own st',.val .non]):=by
 obtain ⟨ys,st1,o',hs1,hsub,e⟩:=zl9 (ft:=dTB (dOp (gEq false) (zag zaf (dRO 0 (dR (dC (.int 2)) dR0))) (dC (.int 1)))) (zaL:=[some (.val (.int n)),none]) (l:=za7 0 n) (st:=st) (o:=none) (fun d _ st hs=>by
  obtain ⟨v,st',e,hs',v0,v1⟩:=zbb (m:=2) hs xwd xwd
  exact ⟨v == 1,st',hs',zaz (zao (zfU e rfl) rfl (by rw[znn];rfl))⟩) hs
 rw[zlT] at hsub
 obtain ⟨zs,hz,rfl⟩:=List.sublist_map_iff.mp hsub
 let Z0:Ev:=[some (.own st),some (.val (.int n)),none]
 have hc:za0 (zbt (zab 1)) (zaM 3) (dTB (dOp (gEq false) (zag zaf (dRO 0 (dR (dC (.int 2)) dR0))) (dC (.int 1)))) (zab 3) 1 Z0=.ok (zs.map .int,[some (.own st1),some (.val (.int n)),none]):=by
  unfold za0
  rw[show zbt (zab 1) Z0=.ok (za7 0 n,Z0) from zdG (j:=n) rfl xwo]
  simp only[R.bind_ok]
  rw[if_pos (zpo (by unfold za7;rw[List.length_map,List.length_range];omega))]
  show (match zb0 (zaM 3) _ (zab 3) (za7 0 n) [some (.own st),some (.val (.int n)),none,none] with|.ok z=>R.ok (z.1,z.2.take 3)|_=>.no)=_
  have e':zb0 (zaM 3) (dTB (dOp (gEq false) (zag zaf (dRO 0 (dR (dC (.int 2)) dR0))) (dC (.int 1)))) (zab 3) (za7 0 n) [some (.own st),some (.val (.int n)),none,none]=_:=e
  rw[e']
  rfl
 have e1:zb1 2 (dFn zdu (dA (dFz (za0 (zbt (zab 1)) (zaM 3) (dTB (dOp (gEq false) (zag zaf (dRO 0 (dR (dC (.int 2)) dR0))) (dC (.int 1)))) (zab 3) 1)) dA0)) Z0=.ok (.nx,[some (.own st1),some (.val (.int n)),some (.val (tz zs))]) :=
  zaO (i:=2) (zbl (zaG hc) rfl) xws
 have hpw:zs.Pairwise (· < ·):=(znG n).sublist hz
 have hin:∀ x∈zs,0<=x/\x<n:=fun x hx=>zib.mp (hz.subset hx)
 cases zs with
 |nil =>
  obtain ⟨v,st2,e2,hs2,v0,v1⟩:=zbb (m:=(n:Nat)) hs1 xwo xwo
  refine ⟨[v],st2,hs2,⟨xws,xws,fun x hx=>(by have:x=v:=(by simpa using hx);omega)⟩,zav (Z':=[some (.own st2),some (.val (.int n)),some (.val (tz []))]) rfl ?_ rfl⟩
  show zc5 Z0=_
  unfold zc5
  rw[zal e1]
  refine zaH ?_
  have hc:dTB (dOp (gEq false) (zab 2) (zb9 dA0)) [some (.own st1),some (.val (.int n)),some (.val (tz []))]=.ok (true,[some (.own st1),some (.val (.int n)),some (.val (tz []))]):=by
   refine zaz (zao (d:=tz []) (e:=.tup []) (Z1:=[some (.own st1),some (.val (.int n)),some (.val (tz []))]) rfl rfl ?_)
   rw[zg9 rfl rfl]
   show R.ok (Dt.bl (eqD (.tup []) (.tup [])))=_
   rw[eqD,zlY]
  rw[zb2 hc]
  exact zbi (zaU (zbA (zfU e2 rfl) rfl) xws)
 |cons a r =>
  refine ⟨a::r,st1,hs1,⟨xws,hpw,hin⟩,zav (Z':=[some (.own st1),some (.val (.int n)),some (.val (tz (a::r)))]) rfl ?_ rfl⟩
  show zc5 Z0=_
  unfold zc5
  rw[zal e1]
  have hc:dTB (dOp (gEq false) (zab 2) (zb9 dA0)) [some (.own st1),some (.val (.int n)),some (.val (tz (a::r)))]=.ok (false,[some (.own st1),some (.val (.int n)),some (.val (tz (a::r)))]):=by
   refine zaz (zao (d:=tz (a::r)) (e:=.tup []) (Z1:=[some (.own st1),some (.val (.int n)),some (.val (tz (a::r)))]) rfl rfl ?_)
   rw[zg9 (by show okN 60 (.tup ((a::r).map .int))=true;simp[okN]) rfl]
   show R.ok (Dt.bl (eqD (.tup ((a::r).map .int)) (.tup [])))=_
   rw[eqD,List.map_cons,zlY]
   all_goals (intros;simp at *)
  rw[zal (Z1:=[some (.own st1),some (.val (.int n)),some (.val (tz (a::r)))]) (by rw[zch hc];rfl)]
  rfl
theorem zn9{n:Nat}{st:List Dt}{row:List Int}(h1:1<=n)(h7:n<=7)(hr:row.Perm (zc6 n))(hs:St st):∃ p st',St st'/\Pty n p/\zb7 [.own st,.val (.lst (row.map .int))]=.ok (tz p,[.own st',.val .non]):=by
 have hlen:row.length=n:=by rw[hr.length_eq,zfR]
 obtain ⟨v,st1,e1,hs1,v0,v1⟩:=zbb (m:=(n:Nat)) hs xwo xwo
 obtain ⟨f,hf⟩ : ∃ f:Nat,v=f:=⟨v.toNat,xwo⟩
 subst hf
 obtain ⟨w,st2,e2,hs2,w0,w1⟩:=zbb (m:=(n:Nat)-(f:Nat)) hs1 xwo xwo
 obtain ⟨m,hm⟩ : ∃ m:Nat,w=m:=⟨w.toNat,xwo⟩
 subst hm
 let q:=(row.drop f).take (1+m)
 have hqs:q.Sublist row:=(List.take_sublist _ _).trans (List.drop_sublist _ _)
 have hqne:q≠[]:=by
  intro z
  have:q.length=0:=by rw[z];rfl
  simp only[q,List.length_take,List.length_drop] at this
  omega
 have hql:q.length<=7:=by have:=hqs.length_le;omega
 have hnd:q.Nodup:=(hr.nodup_iff.mpr (zjS n)).sublist hqs
 have hsp:=zcN q
 have hlt:(zfv q).Pairwise (· < ·):=by
  have h1:=zfp q
  have h2:(zfv q).Nodup:=hsp.nodup_iff.mpr hnd
  exact List.Pairwise.imp₂ (fun a b hab hne=>by omega) h1 h2
 refine ⟨zfv q,st2,hs2,⟨fun z=>hqne (by rw[z] at hsp;exact hsp.symm.eq_nil),hlt,fun x hx=>zib.mp (hr.mem_iff.mp (hqs.subset (hsp.mem_iff.mp hx)))⟩,?_⟩
 let L:Option B:=some (.val (.lst (row.map .int)))
 have x1:zb1 2 (zag zaf (dRO 0 (dR (dFn zbz (dA (zab 1) dA0)) dR0))) [some (.own st),L,none]=.ok (.nx,[some (.own st1),L,some (.val (.int f))]):=by
  refine zaO (i:=2) (Z1:=[some (.own st1),L,none]) (zfU e1 ?_) xws
  refine zbl (d:=.lst (row.map .int)) rfl ?_
  rw[zbz,List.length_map,hlen]
 refine zav (Z':=[some (.own st2),L,some (.val (.int f))]) rfl ?_ rfl
 show zeK [some (.own st),L,none]=_
 unfold zeK
 rw[zal x1]
 have hi:dOp zbe (dOp zbe (zab 2) (dC (.int 1))) (zag zaf (dRO 0 (dR (dOp zhI (dFn zbz (dA (zab 1) dA0)) (zab 2)) dR0))) [some (.own st1),L,some (.val (.int f))]=.ok (.int ((f:Int)+((1+m:Nat):Int)),[some (.own st2),L,some (.val (.int f))]):=by
  refine zao (d:=.int ((f:Int)+1)) (Z1:=[some (.own st1),L,some (.val (.int f))]) rfl (zfU e2 ?_) (e:=.int m) ?_
  ·refine zao (d:=.int n) (e:=.int f) (Z1:=[some (.own st1),L,some (.val (.int f))]) (zbl (d:=.lst (row.map .int)) rfl ?_) rfl rfl
   rw[zbz,List.length_map,hlen]
  ·show R.ok (Dt.int ((f:Int)+1+m))=_
   congr 2
   omega
 have ecut:dFz (zp5 (zab 1) (dO1 (zab 2)) (dO1 (dOp zbe (dOp zbe (zab 2) (dC (.int 1))) (zag zaf (dRO 0 (dR (dOp zhI (dFn zbz (dA (zab 1) dA0)) (zab 2)) dR0)))))) [some (.own st1),L,some (.val (.int f))]=.ok (.lst (q.map .int),[some (.own st2),L,some (.val (.int f))]):=by
  refine zaG ?_
  unfold zp5
  show ((dO1 (dOp zbe (dOp zbe (zab 2) (dC (.int 1))) (zag zaf (dRO 0 (dR (dOp zhI (dFn zbz (dA (zab 1) dA0)) (zab 2)) dR0)))) [some (.own st1),L,some (.val (.int f))]).bind fun h=>R.ok (zcA (row.map Dt.int) (some (f:Int)) h.1,h.2))=_
  unfold dO1
  rw[hi]
  simp only[R.bind_ok]
  rw[zs8 (by simp;omega),List.map_take,List.map_drop]
 have esort:dFz (zgS zdO (dA (dFz (zp5 (zab 1) (dO1 (zab 2)) (dO1 (dOp zbe (dOp zbe (zab 2) (dC (.int 1))) (zag zaf (dRO 0 (dR (dOp zhI (dFn zbz (dA (zab 1) dA0)) (zab 2)) dR0))))))) dA0)) [some (.own st1),L,some (.val (.int f))]=.ok (.lst ((zfv q).map .int),[some (.own st2),L,some (.val (.int f))]):=by
  refine zaG ?_
  unfold zgS
  rw[zbA ecut rfl]
  simp only[R.bind_ok]
  unfold zdO
  simp only[zhf]
  rw[if_pos xwo]
  rfl
 exact zbi (zbl esort rfl)
def zgv(n:Nat)(ps:List (List Int)):Prop:=∀ p∈ps,Pty n p
def lp(ps:List (List Int)):List Dt:=ps.map tz
theorem zfW{α β:Type}{P:β->Prop}:∀{l:List α}{r:List β},Paired (fun _ y=>P y) l r->∀ y∈r,P y
 |_,_,.nil=>by simp
 |_,_,.cons h t=>by
  intro y hy
  rcases wap.mp hy with rfl|hy
  ·exact h
  ·exact zfW t y hy
theorem zlU{n:Nat}{st:List Dt}(h7:n<=7)(hs:St st):∃(row:List Int)(st':List Dt),St st'/\row.Perm (zc6 n)/\za9 [.own st,.val (.lst ((zc6 n).map .int))]=.ok (.lst (row.map .int),[.own st',.val .non]):=by
 obtain ⟨st',p,hs',hp,e⟩:=zmK (l:=(zc6 n).map .int) hs (by rw[List.length_map,zfR];omega) (fun d hd=>by
  obtain ⟨i,_,rfl⟩:=List.mem_map.mp hd
  rfl)
 obtain ⟨q,hq,rfl⟩:=zj2 hp
 exact ⟨q,st',hs',hq,e⟩
theorem zpy{fa:De}{Z Z1:Ev}{n:Nat}(h:fa Z=.ok (.int n,Z1))(hn:n<=1000):zhb fa Z=.ok ((zc6 n).map .int,Z1):=by
 have hc:(0:Int)<=n/\(n:Int)<=16777216:=by omega
 unfold zhb
 rw[h]
 show (if 0<=(n:Int)/\(n:Int)<=16777216 then R.ok (za7 0 (n:Int).toNat,Z1) else .no)=_
 rw[if_pos hc,Int.toNat_natCast,zlT]
theorem ztP{n:Nat}{row:List Int}{st:List Dt}{o1 o2:Option B}{zaL:Ev}(h1:1<=n)(h7:n<=7)(hr:row.Perm (zc6 n))(hs:St st):∃ p st',St st'/\Pty n p/\zag zb7 (dRO 0 (dR (zab 3) dR0)) (some (.own st)::o1::o2::some (.val (.lst (row.map .int)))::zaL)=.ok (tz p,some (.own st')::o1::o2::some (.val (.lst (row.map .int)))::zaL):=by
 obtain ⟨p,st',hs',hp,e⟩:=zn9 (st:=st) h1 h7 hr hs
 exact ⟨p,st',hs',hp,zk6 (Z:=some (.own st)::o1::o2::some (.val (.lst (row.map .int)))::zaL) rfl rfl e⟩
theorem zrq{n:Nat}{st:List Dt}{zaL:Ev}(h1:1<=n)(h7:n<=7)(hs:St st):∃ p st',St st'/\Pty n p/\zag zb4 (dRO 0 (dR (zab 1) dR0)) (some (.own st)::some (.val (.int n))::zaL)=.ok (tz p,some (.own st')::some (.val (.int n))::zaL):=by
 obtain ⟨p,st',hs',hp,e⟩:=zmR (st:=st) h1 h7 hs
 exact ⟨p,st',hs',hp,zk6 (Z:=some (.own st)::some (.val (.int n))::zaL) rfl rfl e⟩
theorem ztE{i:Nat}{fk fv:De}{Z Z1 Z2:Ev}{l0 ds:List Dt}{k:Nat}{v:Dt}(h0:Z[i]? = some (some (.own l0)))(h1:fk Z=.ok (.int k,Z1))(h2:fv Z1=.ok (v,Z2))(h3:Z2[i]? = some (some (.own ds)))(hk:k<=ds.length)(hl:ds.length<=1000) :
  zmZ i fk fv Z=.ok (.non,Z2.set i (some (.own (ds.take k++v::ds.drop k)))):=by
 have hc:(0:Int)<=k/\(k:Int)<=ds.length/\ds.length<16777216:=by omega
 unfold zmZ
 rw[h0]
 simp only[h1,R.bind_ok,h2,h3]
 rw[if_pos hc,Int.toNat_natCast]
theorem zjB{n:Nat}{st:List Dt}(h1:1<=n)(h7:n<=7)(hs:St st):∃ ps st',St st'/\zgv n ps/\ps.length<=8/\zbX [.own st,.val (.int n),.val (.int 8)]=.ok (.lst (lp ps),[.own st',.val .non,.val .non]):=by
 obtain ⟨row,st1,hs1,hr,er⟩:=zlU (n:=n) h7 hs
 obtain ⟨way,st2,ew,hs2,w0,w1⟩:=zbb (m:=4) hs1 xwd xwd
 obtain ⟨c,st3,ec,hs3,c0,c1⟩:=zbb (m:=9) hs2 xwd xwd
 let N:Option B:=some (.val (.int n))
 let M:Option B:=some (.val (.int 8))
 let L:Option B:=some (.val (.lst (row.map .int)))
 let W:Option B:=some (.val (.int way))
 have x1:zb1 3 (zag za9 (dRO 0 (dR (dFz (zhb (zab 1))) dR0))) [some (.own st),N,M,none,none,none]=.ok (.nx,[some (.own st1),N,M,L,none,none]) :=
  zaO (i:=3) (zk6 (Z:=[some (.own st),N,M,none,none,none]) rfl (zaG (zpy rfl xwo)) er) xws
 have x2:zb1 4 (zag zaf (dRO 0 (dR (dC (.int 4)) dR0))) [some (.own st1),N,M,L,none,none]=.ok (.nx,[some (.own st2),N,M,L,W,none]) :=
  zaO (i:=4) (zfU ew rfl) xws
 obtain ⟨cn,hcn⟩ : ∃ cn:Nat,c=cn:=⟨c.toNat,xwo⟩
 subst hcn
 obtain ⟨ps,st4,hs4,hp4,e4⟩:=zlV (α:=Nat) (β:=List Int) (Rl:=fun _ p=>Pty n p) (u:=fun k=>.int (0+(k:Nat))) (v:=tz) (fe:=zag zb7 (dRO 0 (dR (zab 3) dR0))) (zaL:=[N,M,L,W,none]) (fi:=zbt (zag zaf (dRO 0 (dR (dOp zbe (zab 2) (dC (.int 1))) dR0)))) (Z:=[some (.own st2),N,M,L,W,none]) (l:=List.range cn) (ds:=za7 0 cn) (st:=st3) (j:=6)
  (zdG (zfU ec rfl) xwo) rfl (by rw[List.length_range];omega) rfl (fun a _ st hs=>by
   obtain ⟨p,st',hs',hp,e⟩:=ztP (o1:=N) (o2:=M) (zaL:=[W,none,some (.val (.int (0+(a:Nat))))]) h1 h7 hr hs
   exact ⟨p,st',hs',hp,e⟩) hs3
 have hps4:zgv n ps:=zfW hp4
 have hl4:ps.length<=8:=by have:=zds hp4;rw[List.length_range] at this;omega
 have x3:zbF 5 (za0 (zbt (zag zaf (dRO 0 (dR (dOp zbe (zab 2) (dC (.int 1))) dR0)))) (zaM 6) dTT (zag zb7 (dRO 0 (dR (zab 3) dR0))) 1) [some (.own st2),N,M,L,W,none]=.ok (.nx,[some (.own st4),N,M,L,W,some (.own (lp ps))]):=zcl (i:=5) e4 xws
 have hlp:∀ ps:List (List Int),(lp ps).length=ps.length:=fun ps=>by unfold lp;simp
 obtain ⟨ps5,st5,hs5,hps5,hl5,x4⟩ : ∃ ps5 st5,St st5/\zgv n ps5/\ps5.length<=8/\dIf (zfI (dTB (dOp (gEq false) (zab 4) (dC (.int 1)))) (dTB (dOp gLt (zdS 5) (zab 2)))) (dEx (zmZ 5 (zag zaf (dRO 0 (dR (dOp zbe (zdS 5) (dC (.int 1))) dR0))) (zag zb4 (dRO 0 (dR (zab 1) dR0))))) dNx [some (.own st4),N,M,L,W,some (.own (lp ps))]=.ok (.nx,[some (.own st5),N,M,L,W,some (.own (lp ps5))]):=by
  have t1:dTB (dOp (gEq false) (zab 4) (dC (.int 1))) [some (.own st4),N,M,L,W,some (.own (lp ps))]=.ok (way == 1,[some (.own st4),N,M,L,W,some (.own (lp ps))]):=zaz (zao (d:=.int way) rfl rfl (by rw[znn];rfl))
  cases hw:(way == 1) with
  |false =>
   rw[hw] at t1
   exact ⟨ps,st4,hs4,hps4,hl4,by rw[zch (zkU t1)];rfl⟩
  |true =>
   rw[hw] at t1
   have t2:dTB (dOp gLt (zdS 5) (zab 2)) [some (.own st4),N,M,L,W,some (.own (lp ps))]=.ok (decide ((ps.length:Int)<8),[some (.own st4),N,M,L,W,some (.own (lp ps))]):=by
    refine zaz (zao (d:=.int ps.length) (e:=.int 8) (Z1:=[some (.own st4),N,M,L,W,some (.own (lp ps))]) ?_ rfl rfl)
    simp[zdS,hlp]
   by_cases hlt:(ps.length:Int)<8
   ·rw[decide_eq_true hlt] at t2
    obtain ⟨v,st5,e5,hs5,v0,v1⟩:=zbb (m:=(ps.length:Int)+1) hs4 xwo xwo
    obtain ⟨k,hk⟩ : ∃ k:Nat,v=k:=⟨v.toNat,xwo⟩
    subst hk
    obtain ⟨p,st6,hs6,hp6,e6⟩:=zrq (zaL:=[M,L,W,some (.own (lp ps))]) h1 h7 hs5
    refine ⟨ps.take k++p::ps.drop k,st6,hs6,?_,by simp;omega,?_⟩
    ·intro q hq
     rcases wax.mp hq with h|h
     ·exact hps4 q (List.mem_of_mem_take h)
     ·rcases wap.mp h with rfl|h
      ·exact hp6
      ·exact hps4 q (List.mem_of_mem_drop h)
    ·rw[zb2 (by rw[zgs t1];exact t2)]
     have el:dOp zbe (zdS 5) (dC (.int 1)) [some (.own st4),N,M,L,W,some (.own (lp ps))]=.ok (.int ((ps.length:Int)+1),[some (.own st4),N,M,L,W,some (.own (lp ps))]):=by
      refine zao (d:=.int ps.length) (e:=.int 1) (Z1:=[some (.own st4),N,M,L,W,some (.own (lp ps))]) ?_ rfl rfl
      simp[zdS,hlp]
     refine zhw (d:=.non) ?_
     have:=ztE (i:=5) (Z:=[some (.own st4),N,M,L,W,some (.own (lp ps))]) (l0:=lp ps) (ds:=lp ps) rfl (zfU e5 el) e6 rfl (by rw[hlp];omega) (by rw[hlp];omega)
     have hmap:lp (ps.take k++p::ps.drop k)=(lp ps).take k++tz p::(lp ps).drop k:=by
      unfold lp
      rw[List.map_append,List.map_cons,List.map_take,List.map_drop]
     rw[hmap]
     exact this
   ·rw[decide_eq_false hlt] at t2
    exact ⟨ps,st4,hs4,hps4,hl4,by rw[zch (by rw[zgs t1];exact t2)];rfl⟩
 obtain ⟨ps6,st6,hs6,hps6,hl6,x5⟩ : ∃ ps6 st6,St st6/\zgv n ps6/\ps6.length<=8/\dIf (dTB (dOp gGt (zab 4) (dC (.int 1)))) (zbF 5 (za0 (dIt (zfV 5)) (zaM 6) dTT (dOp gIx (dFz (zbU (dA (zag zb7 (dRO 0 (dR (zab 3) dR0))) (dA (zag zb4 (dRO 0 (dR (zab 1) dR0))) dA0)))) (zag zaf (dRO 0 (dR (dC (.int 2)) dR0)))) 1)) dNx [some (.own st5),N,M,L,W,some (.own (lp ps5))]=.ok (.nx,[some (.own st6),N,M,L,W,some (.own (lp ps6))]):=by
  have t1:dTB (dOp gGt (zab 4) (dC (.int 1))) [some (.own st5),N,M,L,W,some (.own (lp ps5))]=.ok (decide (1<way),[some (.own st5),N,M,L,W,some (.own (lp ps5))]):=zaz (zao (d:=.int way) rfl rfl rfl)
  by_cases hw:1<way
  ·rw[decide_eq_true hw] at t1
   obtain ⟨qs,st6,hs6,hp6,e6⟩:=zlV (α:=List Int) (β:=List Int) (Rl:=fun _ p=>Pty n p) (u:=tz) (v:=tz) (fe:=dOp gIx (dFz (zbU (dA (zag zb7 (dRO 0 (dR (zab 3) dR0))) (dA (zag zb4 (dRO 0 (dR (zab 1) dR0))) dA0)))) (zag zaf (dRO 0 (dR (dC (.int 2)) dR0)))) (zaL:=[N,M,L,W,some (.val (.lst (lp ps5)))]) (fi:=dIt (zfV 5)) (Z:=[some (.own st5),N,M,L,W,some (.own (lp ps5))]) (l:=ps5) (ds:=lp ps5) (st:=st5) (j:=6)
    rfl rfl xwo rfl (fun a _ st hs=>by
     obtain ⟨p,sta,hsa,hpa,ea⟩:=ztP (o1:=N) (o2:=M) (zaL:=[W,some (.val (.lst (lp ps5))),some (.val (tz a))]) h1 h7 hr hs
     obtain ⟨q,stb,hsb,hpb,eb⟩:=zrq (zaL:=[M,L,W,some (.val (.lst (lp ps5))),some (.val (tz a))]) h1 h7 hsa
     obtain ⟨v,stc,ec,hsc,v0,v1⟩:=zbb (m:=2) hsb xwd xwd
     have hlst:=zaG (zbE (ds:=[tz p,tz q]) (zbA ea (zbA (fr:=dA0) eb rfl)) xws)
     have htk:=zfU (zaL:=[N,M,L,W,some (.val (.lst (lp ps5))),some (.val (tz a))]) (fb:=dC (.int 2)) ec rfl
     rcases (by omega:v=0\/v=1) with rfl|rfl
     ·exact ⟨p,stc,hsc,hpa,zao hlst htk rfl⟩
     ·exact ⟨q,stc,hsc,hpb,zao hlst htk rfl⟩) hs5
   refine ⟨qs,st6,hs6,zfW hp6,by have:=zds hp6;omega,?_⟩
   rw[zb2 t1]
   exact zcl (i:=5) e6 xws
  ·rw[decide_eq_false hw] at t1
   exact ⟨ps5,st5,hs5,hps5,hl5,by rw[zch t1];rfl⟩
 refine ⟨ps6,st6,hs6,hps6,hl6,zav (Z':=[some (.own st6),N,M,L,W,some (.val (.lst (lp ps6)))]) rfl ?_ rfl⟩
 show zdm [some (.own st),N,M,none,none,none]=_
 unfold zdm
 rw[zal x1,zal x2,zal x3,zal x4,zal x5]
 rfl
theorem zlW{α:Type}(f:α->Bool):∀ l:List α,zfr (l.map fun d=>.bl (f d))=some (l.map f)
 |[]=>rfl
 |a::r=>by rw[List.map_cons,zfr,zlW f r];rfl
theorem zgD{α:Type}(f:α->Bool)(l:List α):zjl [.lst (l.map fun d=>.bl (f d))]=.ok (.bl (l.all f)):=by
 unfold zjl
 simp only[zlW]
 rw[List.all_map]
 rfl
theorem zk2:∀ l:List Int,l.Pairwise (· < ·) ↔ ∀ k (h:k+1<l.length),l[k]<l[k+1]
 |[]=>by simp
 |[a]=>by simp
 |a::b::r=>by
  rw[List.pairwise_cons,zk2 (b::r)]
  constructor
  ·rintro ⟨h1,h2⟩ k hk
   cases k with
   |zero=>exact h1 b xws
   |succ k=>exact h2 k (by simpa using hk)
  ·intro h
   have h2:∀ k (hk:k+1<(b::r).length),(b::r)[k]<(b::r)[k+1]:=fun k hk=>h (k+1) (by simpa using hk)
   refine ⟨fun x hx=>?_,h2⟩
   have hab:a<b:=h 0 xws
   have:=(zk2 (b::r)).mpr h2
   rw[List.pairwise_cons] at this
   rcases wap.mp hx with rfl|hx
   ·exact hab
   ·have:=this.1 x hx;omega
theorem zhV(p:List Int)(hl:p.length<=1000):zhv [.val (tz p)]=.ok (.bl (decide (p.Pairwise (· < ·))),[.val .non]):=by
 let Z0:Ev:=[some (.val (tz p))]
 have elen:dFn zbz (dA (zab 0) dA0) Z0=.ok (.int p.length,Z0):=zbl (d:=tz p) rfl (by simp[tz,zbz])
 obtain ⟨m,hm,em⟩ : ∃ m:Nat,m=p.length-1/\zbt (dOp zhI (dFn zbz (dA (zab 0) dA0)) (dC (.int 1))) Z0=.ok (za7 0 m,Z0):=by
  refine ⟨p.length-1,rfl,?_⟩
  have es:dOp zhI (dFn zbz (dA (zab 0) dA0)) (dC (.int 1)) Z0=.ok (.int ((p.length:Int)-1),Z0):=zao elen rfl rfl
  cases p with
  |nil=>rfl
  |cons a r =>
   have e':((a::r).length:Int)-1=((r.length:Nat):Int):=by simp
   rw[e'] at es
   rw[zdG es (by simp at hl;omega)]
   rfl
 let f:Nat->Bool:=fun k=>decide (p.getD k 0<p.getD (k+1) 0)
 have hc:za0 (zbt (dOp zhI (dFn zbz (dA (zab 0) dA0)) (dC (.int 1)))) (zaM 1) dTT (dOp gLt (dOp gIx (zab 0) (zab 1)) (dOp gIx (zab 0) (dOp zbe (zab 1) (dC (.int 1))))) 1 Z0=.ok ((List.range m).map fun k=>.bl (f k),Z0):=by
  refine zbB (l:=List.range m) (u:=fun k=>.int (0+(k:Nat))) (f:=fun k=>.bl (f k)) (ds:=za7 0 m) em rfl (by rw[List.length_range];omega) (fun k hk=>?_) rfl
  have hkm:=List.mem_range.mp hk
  show dOp gLt (dOp gIx (zab 0) (zab 1)) (dOp gIx (zab 0) (dOp zbe (zab 1) (dC (.int 1)))) [some (.val (tz p)),some (.val (.int (0+(k:Nat))))]=_
  have hk1:k<p.length:=by omega
  have hk2:k+1<p.length:=by omega
  have g1:gIx (tz p) (.int (0+(k:Nat)))=.ok (.int (p.getD k 0)):=by
   refine zdn xwo (by simp;omega) ?_
   rw[show (0+((k:Nat):Int)).toNat=k by omega,List.getElem?_map,List.getElem?_eq_getElem hk1,List.getD_eq_getElem?_getD,List.getElem?_eq_getElem hk1]
   rfl
  have g2:gIx (tz p) (.int (0+(k:Nat)+1))=.ok (.int (p.getD (k+1) 0)):=by
   refine zdn xwo (by simp;omega) ?_
   rw[show (0+((k:Nat):Int)+1).toNat=k+1 by omega,List.getElem?_map,List.getElem?_eq_getElem hk2,List.getD_eq_getElem?_getD,List.getElem?_eq_getElem hk2]
   rfl
  exact zao (zao rfl rfl g1) (zao rfl (zao rfl rfl rfl) g2) rfl
 refine zav (Z':=Z0) rfl ?_ rfl
 show zlq Z0=_
 unfold zlq
 refine zbi (zbl (zaG hc) ?_)
 rw[zgD]
 congr 2
 rw[Bool.eq_iff_iff,List.all_eq_true,decide_eq_true_eq,zk2]
 constructor
 ·intro h k hk
  have:=h k (List.mem_range.mpr xwo)
  simp only[f,war,List.getD_eq_getElem?_getD,wac hk,wac (show k<p.length by omega),Option.getD_some] at this
  exact this
 ·intro h k hk
  have hkm:=List.mem_range.mp hk
  have hk2:k+1<p.length:=by omega
  have:=h k hk2
  simp only[f,war,List.getD_eq_getElem?_getD,wac hk2,wac (show k<p.length by omega),Option.getD_some]
  exact this
theorem zrb(n:Int)(d:Dt)(hl:∀ l,d=.tup l->l.length<=1000):zc8 [.val (.int n),.val d]=.ok (.bl (match d with|.tup l=>l.all (isG n)|_=>false),[.val .non,.val .non]):=by
 cases d with
 |tup l =>
  let Z0:Ev:=[some (.val (.int n)),some (.val (.tup l))]
  have hc:za0 (dIt (zab 1)) (zaM 2) dTT (zag zbd (dR (zab 0) (dR (zab 2) dR0))) 1 Z0=.ok (l.map fun x=>.bl (isG n x),Z0):=by
   refine zbB (l:=l) (u:=id) (f:=fun x=>.bl (isG n x)) (ds:=l) rfl (by rw[List.map_id]) (hl l rfl) (fun x hx=>?_) rfl
   exact zhP (Z':=[some (.val (.int n)),some (.val (.tup l)),some (.val x)]) (Z'':=[some (.val (.int n)),some (.val (.tup l)),some (.val x)]) rfl rfl (zge n x)
  refine zav (Z':=Z0) rfl ?_ rfl
  show zdh Z0=_
  unfold zdh
  refine zbi ?_
  unfold zhD
  have e1:zcZ "tuple" (zab 1) Z0=.ok (.bl true,Z0):=by simp[zcZ,zab,Z0,zjk,tyD]
  rw[e1]
  simp only[R.bind_ok]
  exact zbl (zaG hc) (zgD _ _)
 |_=>simp[zc8,zaq,zdh,zbx,zjm,zbN,zhD,zcZ,zab,zjk,tyD,zaw]
theorem zlv{n:Int}:∀{l:List Dt},l.all (isG n)=true->∃ zs:List Int,l=zs.map .int/\∀ x∈zs,0<=x/\x<n
 |[],_=>⟨[],rfl,xws⟩
 |d::r,h=>by
  rw[List.all_cons,Bool.and_eq_true] at h
  obtain ⟨zs,rfl,hz⟩:=zlv h.2
  have h1:=h.1
  unfold isG at h1
  split at h1
  ·rename_i i
   simp only[wae,war] at h1
   exact ⟨i::zs,rfl,fun x hx=>by
    rcases wap.mp hx with rfl|hx
    ·exact h1
    ·exact hz x hx⟩
  ·cases h1
def znp(n:Int):Dt->Bool
 |.tup l=>l.all (isG n) && (match zfk l with|some zs=>decide (0<zs.length) && decide (zs.Pairwise (· < ·))|none=>false)
 |_=>false
theorem zjv{n:Nat}(h1:1<=n)(h7:n<=7)(d:Dt)(hl:∀ l,d=.tup l->l.length<=1000):ze1 [.val (.int n),.val d]=.ok (.bl (znp n d),[.val .non,.val .non]):=by
 let Z0:Ev:=[some (.val (.int n)),some (.val d)]
 have ec:dEx (zag zaA (dR (zab 0) dR0)) Z0=.ok (.nx,Z0):=zhw (zhO (Z':=Z0) rfl (zl7 xwo xwo))
 refine zav (Z':=Z0) rfl ?_ rfl
 show zfQ Z0=_
 unfold zfQ
 rw[zal ec]
 refine zbi ?_
 have ea:zag zc8 (dR (zab 0) (dR (zab 1) dR0)) Z0=.ok (.bl (match d with|.tup l=>l.all (isG n)|_=>false),Z0):=zhP (Z':=Z0) (Z'':=Z0) rfl rfl (zrb n d hl)
 unfold zhD
 rw[ea]
 simp only[R.bind_ok]
 cases d with
 |tup l =>
  cases ha:l.all (isG n) with
  |false =>
   simp only[ha]
   show R.ok (Dt.bl false,Z0)=R.ok (Dt.bl (znp n (.tup l)),Z0)
   have:znp n (.tup l)=false:=by
    show (l.all (isG n) && _)=false
    rw[ha];rfl
   rw[this]
  |true =>
   obtain ⟨zs,rfl,hz⟩:=zlv ha
   simp only[ha]
   have hpt:znp n (.tup (zs.map .int))=(decide (0<zs.length) && decide (zs.Pairwise (· < ·))):=by
    show ((zs.map Dt.int).all (isG n) && (match zfk (zs.map Dt.int) with|some zs=>decide (0<zs.length) && decide (zs.Pairwise (· < ·))|none=>false))=_
    rw[ha,zhf]
    rfl
   rw[hpt]
   have hlz:zs.length<=1000:=by have:=hl _ rfl;simpa using this
   have e2:dOp gGt (dFn zbz (dA (zab 1) dA0)) (dC (.int 0)) Z0=.ok (.bl (decide (0<zs.length)),Z0):=by
    refine zao (d:=.int zs.length) (e:=.int 0) (Z1:=Z0) (zbl (d:=.tup (zs.map .int)) rfl (by simp[zbz])) rfl ?_
    show R.ok (Dt.bl (decide ((0:Int)<(zs.length:Nat))))=_
    congr 2
    by_cases h:0<zs.length
    ·rw[decide_eq_true h,decide_eq_true xwo]
    ·rw[decide_eq_false h,decide_eq_false xwo]
   rw[e2]
   simp only[R.bind_ok]
   cases hp:decide (0<zs.length) with
   |false=>simp
   |true =>
    simp only[Bool.true_and]
    exact zhO (Z':=Z0) rfl (zhV zs hlz)
 |_=>rfl
theorem zrH{n:Nat}{p:List Int}(h:Pty n p):znp n (tz p)=true:=by
 obtain ⟨h1,h2,h3⟩:=h
 unfold znp tz
 simp only[zhf,wae,war,List.all_eq_true]
 refine ⟨fun d hd=>?_,List.length_pos_iff.mpr h1,h2⟩
 obtain ⟨i,hi,rfl⟩:=List.mem_map.mp hd
 have:=h3 i hi
 unfold isG
 simp only[wae,war]
 exact this
def zoS(n:Int):Dt->Bool
 |.lst l=>decide (l.length<=8) && l.all (znp n)
 |_=>false
def Lens:Dt->Prop
 |.lst l=>∀ d∈l,∀ t,d=.tup t->t.length<=1000
 |.scr _=>False
 |_=>True
theorem ze9{n:Nat}(h1:1<=n)(h7:n<=7)(d:Dt)(hl:Lens d):zc3 [.val (.int n),.val d]=.ok (.bl (zoS n d),[.val .non,.val .non]):=by
 let Z0:Ev:=[some (.val (.int n)),some (.val d)]
 have ec:dEx (zag zaA (dR (zab 0) dR0)) Z0=.ok (.nx,Z0):=zhw (zhO (Z':=Z0) rfl (zl7 xwo xwo))
 refine zav (Z':=Z0) rfl ?_ rfl
 show zc7 Z0=_
 unfold zc7
 rw[zal ec]
 cases d with
 |lst l =>
  have t1:zaP (dTB (zcZ "list" (zab 1))) Z0=.ok (false,Z0):=by simp[zaP,dTB,zcZ,zab,Z0,zjk,tyD]
  have t2:dTB (dOp gGt (dFn zbz (dA (zab 1) dA0)) (dC (.int 8))) Z0=.ok (decide (8<l.length),Z0):=by
   refine zaz (zao (d:=.int l.length) (e:=.int 8) (Z1:=Z0) (zbl (d:=.lst l) rfl rfl) rfl ?_)
   show R.ok (Dt.bl (decide ((8:Int)<(l.length:Nat))))=_
   congr 2
   by_cases h:8<l.length
   ·rw[decide_eq_true h,decide_eq_true xwo]
   ·rw[decide_eq_false h,decide_eq_false xwo]
  by_cases h8:l.length<=8
  ·rw[decide_eq_false xwo] at t2
   rw[zal (Z1:=Z0) (by rw[zch (by rw[zaZ t1];exact t2)];rfl)]
   have hc:za0 (dIt (zab 1)) (zaM 2) dTT (zag ze1 (dR (zab 0) (dR (zab 2) dR0))) 1 Z0=.ok (l.map fun x=>.bl (znp n x),Z0):=by
    refine zbB (l:=l) (u:=id) (f:=fun x=>.bl (znp n x)) (ds:=l) rfl (by rw[List.map_id]) xwo (fun x hx=>?_) rfl
    exact zhP (Z':=[some (.val (.int n)),some (.val (.lst l)),some (.val x)]) (Z'':=[some (.val (.int n)),some (.val (.lst l)),some (.val x)]) rfl rfl (zjv h1 h7 x (hl x hx))
   refine zbi (zbl (zaG hc) ?_)
   rw[zgD]
   have:zoS n (.lst l)=l.all (znp n):=by
    show (decide (l.length<=8) && l.all (znp n))=_
    rw[decide_eq_true h8,Bool.true_and]
   rw[this]
  ·rw[decide_eq_true xwo] at t2
   rw[zaH (Z1:=Z0) (d:=.bl false) (by rw[zb2 (by rw[zaZ t1];exact t2)];rfl)]
   have:zoS n (.lst l)=false:=by
    show (decide (l.length<=8) && l.all (znp n))=_
    rw[decide_eq_false h8,Bool.false_and]
   rw[this]
 |scr _=>exact hl.elim
 |_ =>
  rw[zaH (Z1:=Z0) (d:=.bl false)]
  ·rfl
  ·rw[zb2 (Z1:=Z0) (zcG (by simp[zaP,dTB,zcZ,zab,Z0,zjk,tyD]))];rfl
theorem zja{d t:Dt}(h:isW d=false\/∃ n,d=.int n/\(n<1\/7<n)):zc3 [.val d,.val t]=.er 0:=by
 have ec:dEx (zag zaA (dR (zab 0) dR0)) [some (.val d),some (.val t)]=.er 0:=by
  unfold dEx zag dR dR0
  simp only[zab,List.getElem?_cons_zero,R.bind_ok,zhE,zaV,if_true,zay,zpv h,R.bind_er]
 unfold zc3 zaq
 rw[if_pos (show zbx [.val d,.val t]=[false,false] from rfl)]
 show (zc7 [some (.val d),some (.val t)]).bind _=_
 unfold zc7 zaF
 rw[ec]
 rfl
theorem zhZ{α:Type}{u v f:α->Dt}{fe:De}{Z0:Ev}:∀{l:List α}{o o2:Option B},(∀ a∈l,fe (Z0++[some (.val (u a)),some (.val (v a))])=.ok (f a,Z0++[some (.val (u a)),some (.val (v a))])) ->
  ∃ o' o2',zb0 (zeh Z0.length (Z0.length+1)) dTT fe (l.map fun a=>.tup [u a,v a]) (Z0++[o,o2])=.ok (l.map f,Z0++[o',o2'])
 |[],o,o2,_=>⟨o,o2,rfl⟩
 |a::l,o,o2,h=>by
  obtain ⟨o',o2',e⟩:=zhZ (l:=l) (o:=some (.val (u a))) (o2:=some (.val (v a))) fun b hb=>h b (wah _ hb)
  have hg:zeh Z0.length (Z0.length+1) (.tup [u a,v a]) (Z0++[o,o2])=.ok (Z0++[some (.val (u a)),some (.val (v a))]):=by
   unfold zeh
   simp
  refine ⟨o',o2',?_⟩
  rw[List.map_cons,List.map_cons]
  unfold zb0
  rw[hg]
  simp only[R.bind_ok]
  unfold dTT
  simp only[R.bind_ok,if_true]
  rw[h a List.mem_cons_self]
  simp only[R.bind_ok]
  have e':zb0 (zeh Z0.length (Z0.length+1)) (fun Z=>R.ok (true,Z)) fe (l.map fun a=>.tup [u a,v a]) (Z0++[some (.val (u a)),some (.val (v a))])=.ok (l.map f,Z0++[o',o2']):=e
  rw[e']
  rfl
theorem zgV{α:Type}{u v f:α->Dt}{fe:De}{Z0:Ev}{fi:DA}{l:List α}{ds:List Dt}{j k:Nat}(hi:fi Z0=.ok (ds,Z0))(hd:ds=l.map fun a=>.tup [u a,v a])(hl:l.length<=1000)(h:∀ a∈l,fe (Z0++[some (.val (u a)),some (.val (v a))])=.ok (f a,Z0++[some (.val (u a)),some (.val (v a))]))(hj:j = Z0.length)(hk:k = Z0.length+1) :
  za0 fi (zeh j k) dTT fe 2 Z0=.ok (l.map f,Z0):=by
 subst hd;subst hj;subst hk
 obtain ⟨o',o2',e⟩:=zhZ (o:=none) (o2:=none) h
 unfold za0
 rw[hi]
 simp only[R.bind_ok]
 rw[if_pos (by unfold zdT;simp;omega)]
 show (match zb0 (zeh Z0.length (Z0.length+1)) dTT fe (l.map fun a=>.tup [u a,v a]) (Z0++[none,none]) with|.ok z=>R.ok (z.1,z.2.take Z0.length)|_=>.no)=_
 rw[e]
 simp
abbrev pd(ps:List (List Int)):Dt:=.lst (lp ps)
def zm0(ps:List (List Int))(tq a p b:Int):Bool:=decide (0<=p) && decide (p<ps.length) && (decide (a∈ps.getD p.toNat []) && (decide (b∈ps.getD p.toNat []) && decide (tq∉ps.getD p.toNat [])))
def zlQ(ps:List (List Int))(tq:Int)(zs:List Int):Bool:=(List.range (zs.length / 2)).all fun k=>zm0 ps tq (zs.getD (2 * k) 0) (zs.getD (2 * k+1) 0) (zs.getD (2 * k+2) 0)
def zmC(ps:List (List Int))(one ot tq:Int)(zs:List Int):Bool:=decide (3<=zs.length) && (decide (zs.length % 2=1) && (decide (zs.getD 0 0=one) && (decide (zs.getD (zs.length-1) 0=ot) && zlQ ps tq zs)))
def zdV(ps:List (List Int))(one ot tq:Int):Dt->Bool
 |.tup l=>match zfk l with
  |some zs=>zmC ps one ot tq zs
  |none=>false
 |_=>false
theorem zsL(ps:List (List Int))(d:Dt):zby [.val (pd ps),.val d]=.ok (.bl (isG (ps.length:Int) d),[.val .non,.val .non]):=by
 refine zav (Z':=[some (.val (pd ps)),some (.val d)]) rfl ?_ rfl
 show zct [some (.val (pd ps)),some (.val d)]=_
 unfold zct
 refine zbi ?_
 unfold zhD
 rw[zhO (Z':=[some (.val (pd ps)),some (.val d)]) (d:=d) rfl (zev d)]
 simp only[R.bind_ok]
 cases d <;> try rfl
 rename_i i
 show zgC gLe gLt (dC (.int 0)) (zab 1) (dFn zbz (dA (zab 0) dA0)) [some (.val (pd ps)),some (.val (.int i))]=_
 simp[zgC,dC,zab,dFn,dA,dA0,zbz,gLe,gLt,zl1,R.bind,isG,lp]
 by_cases h0:0<=i <;> simp[h0]
theorem zrp(a:Int)(q:List Int)(neg:Bool):gIn neg (.int a) (tz q)=.ok (.bl (if neg then !decide (a∈q) else decide (a∈q))):=by
 unfold gIn tz
 simp only[zgE]
 simp[okN,zoj]
theorem zig(q:List Int)(a b c:Int):zeU [.val (tz q),.val (.int a),.val (.int b),.val (.int c)]=.ok (.bl (decide (a∈q) && (decide (b∈q) && decide (c∉q))),[.val .non,.val .non,.val .non,.val .non]):=by
 let Z:Ev:=[some (.val (tz q)),some (.val (.int a)),some (.val (.int b)),some (.val (.int c))]
 refine zav (Z':=Z) rfl ?_ rfl
 show zkN Z=_
 unfold zkN
 refine zbi ?_
 have e1:dOp (gIn false) (zab 1) (zab 0) Z=.ok (.bl (decide (a∈q)),Z):=zao rfl rfl (by rw[zrp];rfl)
 have e2:dOp (gIn false) (zab 2) (zab 0) Z=.ok (.bl (decide (b∈q)),Z):=zao rfl rfl (by rw[zrp];rfl)
 have e3:dOp (gIn true) (zab 3) (zab 0) Z=.ok (.bl (decide (c∉q)),Z):=zao rfl rfl (by rw[zrp];simp)
 unfold zhD
 rw[e1]
 simp only[R.bind_ok]
 cases decide (a∈q)
 ·rfl
 ·simp only[e2,R.bind_ok,Bool.true_and]
  cases decide (b∈q)
  ·rfl
  ·simpa using e3
theorem zdc{α:Type}{b:Nat}{l:List α}(hb:b<=1):(zaJ b l).length=(l.length+1-b) / 2:=by
 unfold zaJ
 have:∀(r:List Nat),(∀ m∈r,b+m * 2<l.length)->(r.filterMap fun m=>l[b+m * 2]?).length=r.length:=by
  intro r
  induction r with
  |nil=>intro _;rfl
  |cons a r ih =>
   intro h
   rw[List.filterMap_cons,List.getElem?_eq_getElem (h a List.mem_cons_self)]
   simp[ih fun m hm=>h m (wah _ hm)]
 rw[this _ fun m hm=>by have:=List.mem_range.mp hm;omega,List.length_range]
theorem zdI{α:Type}{b:Nat}{l:List α}(hb:b<=1)(k:Nat)(hk:k<(l.length+1-b) / 2):(zaJ b l)[k]? = l[b+k * 2]? := by
 unfold zaJ
 have e:(List.range ((l.length+1-b) / 2)).filterMap (fun m=>l[b+m * 2]?)=(List.range ((l.length+1-b) / 2)).map (fun m=>if h:b+m * 2<l.length then l[b+m * 2] else l[b+k * 2]'xwo):=by
  apply zot
  intro m hm
  have:=List.mem_range.mp hm
  have hh:b+m * 2<l.length:=by omega
  rw[List.getElem?_eq_getElem hh,dif_pos hh]
 rw[e,List.getElem?_map,List.getElem?_range hk]
 have hh:b+k * 2<l.length:=by omega
 simp[hh]
theorem znc{α:Type}{l:List α}{x:α}(h:x∈l):x∈zaJ 0 l\/x∈zaJ 1 l:=by
 obtain ⟨i,hi,rfl⟩:=List.mem_iff_getElem.mp h
 by_cases e:i % 2=0
 ·left
  refine List.mem_of_getElem? (i:=i / 2) ?_
  rw[zdI xwo _ xwo,List.getElem?_eq_getElem (show 0+i / 2 * 2<l.length by omega)]
  congr 1
  congr 1
  omega
 ·right
  refine List.mem_of_getElem? (i:=i / 2) ?_
  rw[zdI xwo _ xwo,List.getElem?_eq_getElem (show 1+i / 2 * 2<l.length by omega)]
  congr 1
  congr 1
  omega
theorem zfb{n:Int}{d:Dt}(h:isG n d=true):∃ i,d=.int i/\0<=i/\i<n:=by
 cases d <;> simp[isG] at h
 exact ⟨_,rfl,h⟩
theorem zgW:∀{l:List Dt},(∀ d∈l,∃ i,d=.int i)->∃ zs:List Int,l=zs.map .int
 |[],_=>⟨[],rfl⟩
 |d::l,h=>by
  obtain ⟨i,rfl⟩:=h d wau
  obtain ⟨zs,rfl⟩:=zgW fun x hx=>h x (wah _ hx)
  exact ⟨i::zs,rfl⟩
theorem zf2{α β:Type}(f:α->β)(b:Nat)(l:List α):zaJ b (l.map f)=(zaJ b l).map f:=by
 unfold zaJ
 rw[List.length_map,List.map_filterMap]
 congr 1
 funext m
 rw[List.getElem?_map]
def evB(n:Int)(ps:List (List Int))(one ot tq:Int)(zs:List Int):Bool :=
 if ((zaJ 0 zs).map Dt.int).all (isG n)=true then if ((zaJ 1 zs).map Dt.int).all (isG (ps.length:Int))=true then
  if zs.getD 0 0=one/\zs.getD (zs.length-1) 0=ot then (List.range (zs.length / 2)).all fun k=>decide (zs.getD (2 * k) 0∈ps.getD (zs.getD (2 * k+1) 0).toNat []) && (decide (zs.getD (2 * k+2) 0∈ps.getD (zs.getD (2 * k+1) 0).toNat []) && decide (tq∉ps.getD (zs.getD (2 * k+1) 0).toNat []))
  else false else false else false
theorem zfh{l:List Int}{k:Nat}(h:k<l.length):l.getD k 0=l[k]:=by rw[List.getD_eq_getElem?_getD,List.getElem?_eq_getElem h];rfl
theorem zpb{n:Nat}{ps:List (List Int)}(hp:zgv n ps){one ot tq:Int}{zs:List Int}(h3:3<=zs.length)(ho:zs.length % 2=1):evB n ps one ot tq zs=zmC ps one ot tq zs:=by
 rw[Bool.eq_iff_iff]
 unfold evB zmC zlQ
 constructor
 ·intro h
  split at h
  ·rename_i hg
   split at h
   ·rename_i hn
    split at h
    ·rename_i hc
     simp only[wae,war,h3,ho,hc.1,hc.2,true_and]
     rw[List.all_eq_true] at h hn ⊢
     intro k hk
     have hk':=List.mem_range.mp hk
     have h1:=h k hk
     have hm:zs.getD (2 * k+1) 0∈zaJ 1 zs:=by
      refine List.mem_of_getElem? (i:=k) ?_
      rw[zdI xwo _ xwo,zfh (show 2 * k+1<zs.length by omega),List.getElem?_eq_getElem (show 1+k * 2<zs.length by omega)]
      congr 1
      congr 1
      omega
     obtain ⟨i,ei,hi0,hi1⟩:=zfb (hn _ (List.mem_map_of_mem hm))
     injection ei with ei
     unfold zm0
     rw[ei]
     rw[ei] at h1
     simp only[hi0,hi1,decide_true,Bool.true_and]
     exact h1
    ·cases h
   ·cases h
  ·cases h
 ·intro h
  simp only[wae,war] at h
  obtain ⟨_,_,h1,h2,h5⟩:=h
  rw[List.all_eq_true] at h5
  have lk:∀ k,k<zs.length / 2->(0<=zs.getD (2 * k+1) 0/\zs.getD (2 * k+1) 0<ps.length)/\zs.getD (2 * k) 0∈ps.getD (zs.getD (2 * k+1) 0).toNat []/\zs.getD (2 * k+2) 0∈ps.getD (zs.getD (2 * k+1) 0).toNat []/\tq∉ps.getD (zs.getD (2 * k+1) 0).toNat []:=fun k hk=>by
   have:=h5 k (List.mem_range.mpr hk)
   unfold zm0 at this
   simp only[wae,war] at this
   exact ⟨this.1,this.2.1,this.2.2.1,this.2.2.2⟩
  have inn:∀(x p:Int),0<=p->p<ps.length->x∈ps.getD p.toNat []->0<=x/\x<n:=fun x p p0 p1 hx=>by
   have hlt:p.toNat<ps.length:=by omega
   rw[List.getD_eq_getElem?_getD,List.getElem?_eq_getElem hlt] at hx
   exact (hp _ (List.getElem_mem hlt)).2.2 x hx
  have hg:((zaJ 0 zs).map Dt.int).all (isG (n:Int))=true:=by
   rw[List.all_eq_true]
   intro d hd
   obtain ⟨x,hx,rfl⟩:=List.mem_map.mp hd
   obtain ⟨k,hk,e⟩:=List.mem_iff_getElem.mp hx
   rw[zdc xwo] at hk
   have e1:x=zs.getD (2 * k) 0:=by
    have:=zdI (b:=0) (l:=zs) xwo k hk
    rw[List.getElem?_eq_getElem (by rw[zdc xwo];exact hk),e,wac (show 0+k * 2<zs.length by omega)] at this
    rw[zfh (show 2 * k<zs.length by omega)]
    injection this with this
    rw[this]
    congr 1
    omega
   have:0<=x/\x<n:=by
    by_cases hk2:k<zs.length / 2
    ·obtain ⟨⟨a,b⟩,c,_⟩:=lk k hk2
     rw[e1];exact inn _ _ a b c
    ·obtain ⟨⟨a,b⟩,_,c,_⟩:=lk (k-1) xwo
     rw[show 2 * (k-1)+2=2 * k by omega] at c
     rw[e1];exact inn _ _ a b c
   simp[isG,this.1,this.2]
  have hn:((zaJ 1 zs).map Dt.int).all (isG (ps.length:Int))=true:=by
   rw[List.all_eq_true]
   intro d hd
   obtain ⟨x,hx,rfl⟩:=List.mem_map.mp hd
   obtain ⟨k,hk,e⟩:=List.mem_iff_getElem.mp hx
   rw[zdc xwo] at hk
   have e1:x=zs.getD (2 * k+1) 0:=by
    have:=zdI (b:=1) (l:=zs) xwo k hk
    rw[List.getElem?_eq_getElem (by rw[zdc xwo];exact hk),e,wac (show 1+k * 2<zs.length by omega)] at this
    rw[zfh (show 2 * k+1<zs.length by omega)]
    injection this with this
    rw[this]
    congr 1
    omega
   obtain ⟨⟨a,b⟩,_⟩:=lk k xwo
   rw[<- e1] at a b
   simp[isG,a,b]
  rw[if_pos hg,if_pos hn,if_pos ⟨h1,h2⟩,List.all_eq_true]
  intro k hk
  obtain ⟨_,a,b,c⟩:=lk k (List.mem_range.mp hk)
  simp only[a,b,c,not_false_eq_true,decide_true,Bool.and_self]
theorem zi6{i:Nat}{Z:Ev}{l:List Dt}(h:zab i Z=.ok (.tup l,Z)):zcZ "tuple" (zab i) Z=.ok (.bl true,Z):=by
 unfold zcZ;rw[h];simp[zjk,tyD]
theorem zoP{i:Nat}{Z:Ev}{l:List Dt}(h:zab i Z=.ok (.tup l,Z)):zdW (zaP (dTB (zcZ "tuple" (zab i)))) (zdW (dTB (dOp gLt (dFn zbz (dA (zab i) dA0)) (dC (.int 3)))) (dTB (dOp (gEq false) (dOp zkf (dFn zbz (dA (zab i) dA0)) (dC (.int 2))) (dC (.int 0))))) Z=.ok (!(decide (3<=l.length) && decide (l.length % 2=1)),Z):=by
 have e0:zaP (dTB (zcZ "tuple" (zab i))) Z=.ok (false,Z):=zaW (zaz (zi6 h))
 have el:dFn zbz (dA (zab i) dA0) Z=.ok (.int l.length,Z):=zbl h (by simp[zbz])
 rw[zaZ e0]
 have e1:dTB (dOp gLt (dFn zbz (dA (zab i) dA0)) (dC (.int 3))) Z=.ok (!decide (3<=l.length),Z):=zaz (zao el rfl (by show R.ok (Dt.bl (decide ((l.length:Int)<3)))=_;rw[show (3:Int)=((3:Nat):Int) from rfl,zsr]))
 by_cases h3:3<=l.length
 ·rw[decide_eq_true h3] at e1 ⊢
  rw[zaZ e1]
  refine zaz (zao (d:=.int ((l.length:Int) % 2)) (e:=.int 0) (zao el rfl ?_) rfl ?_)
  ·simp[zkf]
  ·rw[znn]
   congr 2
   rw[Bool.eq_iff_iff]
   simp
   omega
 ·rw[decide_eq_false h3] at e1 ⊢
  rw[zcG e1]
  rfl
theorem zsP{Z0:Ev}{n:Int}{l:List Dt}{i:Nat}(h0:∀ x,zab 0 (Z0++[some (.val x)])=.ok (.int n,Z0++[some (.val x)]))(hi:zab i Z0=.ok (.tup l,Z0))(hl:l.length<=1000)(h8:Z0.length=8) :
  za0 (dIt (zab i)) (zaM 8) dTT (zag zbd (dR (zab 0) (dR (zab 8) dR0))) 1 Z0=.ok (l.map fun x=>.bl (isG n x),Z0):=by
 refine zbB (l:=l) (u:=id) (f:=fun x=>.bl (isG n x)) (ds:=l) (by unfold dIt;rw[hi];rfl) (by rw[List.map_id]) hl (fun x hx=>?_) h8.symm
 refine zhP (d:=.int n) (e:=x) (h0 x) ?_ (zge n x)
 rw[<- h8];exact zhB
theorem zsv{Z0:Ev}{ps:List (List Int)}{l:List Dt}{i:Nat}(h0:∀ x,zab 1 (Z0++[some (.val x)])=.ok (pd ps,Z0++[some (.val x)]))(hi:zab i Z0=.ok (.tup l,Z0))(hl:l.length<=1000)(h8:Z0.length=8) :
  za0 (dIt (zab i)) (zaM 8) dTT (zag zby (dR (zab 1) (dR (zab 8) dR0))) 1 Z0=.ok (l.map fun x=>.bl (isG (ps.length:Int) x),Z0):=by
 refine zbB (l:=l) (u:=id) (f:=fun x=>.bl (isG (ps.length:Int) x)) (ds:=l) (by unfold dIt;rw[hi];rfl) (by rw[List.map_id]) hl (fun x hx=>?_) h8.symm
 refine zhP (d:=pd ps) (e:=x) (h0 x) ?_ (zsL ps x)
 rw[<- h8];exact zhB
theorem zmb{α:Type}{l:List α}{x:α}(h:l[l.length-1]? = some x):atI l (-1)=some x:=by
 have hl:0<l.length:=by
  have:=(wam.mp h).1
  omega
 unfold atI
 have:ixN l.length (-1)=some (l.length-1):=by
  unfold ixN
  simp
  omega
 rw[this]
 simpa using h
theorem ziF{l:List Dt}{d:Dt}(h:l[l.length-1]? = some d):gIx (.tup l) (.int (-1))=.ok d:=by
 show (match atI l (-1) with|some d=>R.ok d|none=>.no)=_
 rw[zmb h]
theorem ziT{ps:List (List Int)}{p:Int}(h0:0<=p)(h1:p<ps.length):gIx (pd ps) (.int p)=.ok (tz (ps.getD p.toNat [])):=by
 have hq:p.toNat<ps.length:=by omega
 refine zkS h0 (by simp[lp];exact h1) ?_
 unfold lp
 rw[List.getElem?_map,List.getElem?_eq_getElem hq,List.getD_eq_getElem?_getD,List.getElem?_eq_getElem hq]
 rfl
theorem zpF{α:Type}(f:α->Dt)(l:List α):zf8 (l.map f)=((List.range l.length).zip l).map fun z=>.tup [.int (z.1:Nat),f z.2]:=by
 unfold zf8
 rw[List.length_map,List.zip_map_right,List.map_map]
 rfl
theorem zhr{k:Nat}:∀{xs:List Dt}{j:Nat},zbD k j (xs.map Arg.d)=none
 |[],_=>rfl
 |x::xs,j=>by rw[List.map_cons];unfold zbD;exact zhr
theorem zpm{xs:List Dt}{bs:List B}:∀{Z:Ev}{k:Nat},ze5 (xs.map Arg.d) bs k Z = Z
 |[],_=>rfl
 |o::r,k=>by
  show (match zco (xs.map Arg.d) k with|some j=>bs[j]?|none=>o)::ze5 (xs.map Arg.d) bs (k+1) r=_
  rw[zpm (Z:=r)]
  unfold zco
  rw[zhr]
theorem zex{Z:Ev}:∀{xs:List Dt},zay Z (xs.map Arg.d)=.ok (xs.map B.val)
 |[]=>rfl
 |x::xs=>by rw[List.map_cons];unfold zay;rw[zex];rfl
theorem zdE{as:List PV.Arg}:∀{xs:List Dt}{j:Nat},zaV as j (xs.map Arg.d)=true
 |[],_=>rfl
 |x::xs,j=>by rw[List.map_cons];unfold zaV;exact zdE
theorem zbY{Z:Ev}:dR0 Z=.ok (([]:List Dt).map Arg.d,Z):=rfl
theorem za3{fa:De}{fr:DAr}{Z Z1 Z2:Ev}{d:Dt}{xs:List Dt}(h1:fa Z=.ok (d,Z1))(h2:fr Z1=.ok (xs.map Arg.d,Z2)):dR fa fr Z=.ok ((d::xs).map Arg.d,Z2):=by
 unfold dR;rw[h1];simp only[R.bind_ok];rw[h2];rfl
theorem zeJ{F:FD}{fr:DAr}{Z Z1:Ev}{xs:List Dt}{y:Dt}{l:List B}(h:fr Z=.ok (xs.map Arg.d,Z1))(hF:F (xs.map B.val)=.ok (y,l)):zag F fr Z=.ok (y,Z1):=by
 unfold zag
 rw[h]
 simp only[R.bind_ok]
 rw[if_pos (show zhE (xs.map Arg.d)=true from zdE),zex]
 simp only[R.bind_ok]
 rw[hF]
 simp only[R.bind_ok]
 rw[zpm]
theorem ziU{F:FD}{fr:DAr}{Z Z1:Ev}{xs:List Dt}{n:Nat}(h:fr Z=.ok (xs.map Arg.d,Z1))(hF:F (xs.map B.val)=.er n):zag F fr Z=.er n:=by
 unfold zag
 rw[h]
 simp only[R.bind_ok]
 rw[if_pos (show zhE (xs.map Arg.d)=true from zdE),zex]
 simp only[R.bind_ok]
 rw[hF]
 rfl
theorem zmN{k j:Nat}{xs:List Dt}:zbD (k+1) j (.s 0::xs.map Arg.d)=none:=by
 unfold zbD
 rw[if_neg xwo]
 exact zhr
theorem zlE{xs:List Dt}{bs:List B}:∀{Z:Ev}{k:Nat},ze5 (.s 0::xs.map Arg.d) bs (k+1) Z = Z
 |[],_=>rfl
 |o::r,k=>by
  show (match zco (.s 0::xs.map Arg.d) (k+1) with|some j=>bs[j]?|none=>o)::ze5 (.s 0::xs.map Arg.d) bs (k+2) r=_
  rw[zlE (Z:=r) (k:=k+1)]
  unfold zco
  rw[zmN]
theorem zug{F:FD}{fr:DAr}{zaL rest1:Ev}{b0:B}{st st':List Dt}{xs:List Dt}{y:Dt}{l:List B}(h:fr (some b0::zaL)=.ok (xs.map Arg.d,some (.own st)::rest1))(hF:F (.own st::xs.map B.val)=.ok (y,.own st'::l)):zag F (dRO 0 fr) (some b0::zaL)=.ok (y,some (.own st')::rest1):=by
 unfold zag dRO
 simp only[List.getElem?_cons_zero]
 rw[h]
 simp only[R.bind_ok]
 have hu:zhE (.s 0::xs.map Arg.d)=true:=by
  unfold zhE zaV
  rw[zdE]
  simp[zco,zbD]
 rw[if_pos hu]
 have hr:zay (some (.own st)::rest1) (.s 0::xs.map Arg.d)=.ok (.own st::xs.map B.val):=by
  unfold zay
  simp only[List.getElem?_cons_zero]
  rw[zex]
  rfl
 rw[hr]
 simp only[R.bind_ok]
 rw[hF]
 simp only[R.bind_ok]
 have:ze5 (.s 0::xs.map Arg.d) (.own st'::l) 0 (some (.own st)::rest1)=some (.own st')::rest1:=by
  show (match zco (.s 0::xs.map Arg.d) 0 with|some j=>(B.own st'::l)[j]?|none=>some (.own st))::ze5 (.s 0::xs.map Arg.d) (.own st'::l) (0+1) rest1=_
  rw[zlE]
  simp[zco,zbD]
 rw[this]
theorem zfE:∀{l:List Dt}{zs:List Int},zfk l=some zs->l=zs.map .int
 |[],zs,h=>by simp[zfk] at h;subst h;rfl
 |d::r,zs,h=>by
  cases d <;> simp[zfk] at h
  obtain ⟨q,h1,rfl⟩:=h
  rw[zfE h1];rfl
theorem zlt{l:List Dt}{zs:List Int}(h:zfk l=some zs):l.length=zs.length:=by rw[zfE h,List.length_map]
theorem zpN{n:Int}{ps:List (List Int)}{one ot tq:Int}{d:Dt}(h:∀ l,d≠.tup l):zfn [.val (.int n),.val (pd ps),.val d,.val (.int one),.val (.int ot),.val (.int tq)]=.ok (.bl false,[.val .non,.val .non,.val .non,.val .non,.val .non,.val .non]):=by
 refine zav (Z':=[some (.val (.int n)),some (.val (pd ps)),some (.val d),some (.val (.int one)),some (.val (.int ot)),some (.val (.int tq)),none,none]) rfl ?_ rfl
 show zdF [some (.val (.int n)),some (.val (pd ps)),some (.val d),some (.val (.int one)),some (.val (.int ot)),some (.val (.int tq)),none,none]=_
 unfold zdF
 refine zaH ?_
 have e0:zaP (dTB (zcZ "tuple" (zab 2))) [some (.val (.int n)),some (.val (pd ps)),some (.val d),some (.val (.int one)),some (.val (.int ot)),some (.val (.int tq)),none,none]=.ok (true,[some (.val (.int n)),some (.val (pd ps)),some (.val d),some (.val (.int one)),some (.val (.int ot)),some (.val (.int tq)),none,none]):=by
  refine zaW (b:=false) (zaz ?_)
  cases d <;> first|exact absurd rfl (h _)|simp[zcZ,zab,zjk,tyD]
 rw[zb2 (zcG e0)]
 rfl
theorem zmo{n:Nat}{ps:List (List Int)}(hp:zgv n ps)(hps:ps.length<=8){one ot tq:Int}{d:Dt}(hl:∀ l,d=.tup l->l.length<=1000) :
  zfn [.val (.int n),.val (pd ps),.val d,.val (.int one),.val (.int ot),.val (.int tq)]=.ok (.bl (zdV ps one ot tq d),[.val .non,.val .non,.val .non,.val .non,.val .non,.val .non]):=by
 by_cases ht:∃ l,d=.tup l
 case neg =>
  rw[zpN fun l e=>ht ⟨l,e⟩]
  cases d <;> first|exact absurd ⟨_,rfl⟩ ht|rfl
 obtain ⟨l,rfl⟩:=ht
 have hl1:=hl l rfl
 let Z0:Ev:=[some (.val (.int n)),some (.val (pd ps)),some (.val (.tup l)),some (.val (.int one)),some (.val (.int ot)),some (.val (.int tq)),none,none]
 have T1:=zoP (i:=2) (Z:=Z0) (l:=l) rfl
 have wb:zdV ps one ot tq (.tup l)=match zfk l with|some zs=>zmC ps one ot tq zs|none=>false:=rfl
 by_cases hc:(decide (3<=l.length) && decide (l.length % 2=1))=true
 case neg =>
  rw[Bool.not_eq_true] at hc
  rw[hc] at T1
  have hw:zdV ps one ot tq (.tup l)=false:=by
   rw[wb]
   cases hz:zfk l with
   |none=>rfl
   |some zs =>
    have e:=zlt hz
    show zmC ps one ot tq zs=false
    unfold zmC
    rw[<- e]
    rw[Bool.and_eq_false_iff] at hc
    rcases hc with c|c
    ·rw[c];rfl
    ·rw[c];simp
  rw[hw]
  refine zav (Z':=Z0) rfl ?_ rfl
  show zdF Z0=_
  unfold zdF
  refine zaH ?_
  rw[zb2 T1]
  rfl
 rw[hc] at T1
 rw[Bool.and_eq_true,decide_eq_true_eq,decide_eq_true_eq] at hc
 let Z1:Ev:=[some (.val (.int n)),some (.val (pd ps)),some (.val (.tup l)),some (.val (.int one)),some (.val (.int ot)),some (.val (.int tq)),some (.val (.tup (zaJ 0 l))),some (.val (.tup (zaJ 1 l)))]
 have l0:(zaJ 0 l).length<=1000:=by rw[zdc xwo];omega
 have l1:(zaJ 1 l).length<=1000:=by rw[zdc xwo];omega
 have G:=zsP (Z0:=Z1) (n:=n) (l:=zaJ 0 l) (i:=6) (fun x=>rfl) rfl l0 rfl
 have Nn:=zsv (Z0:=Z1) (ps:=ps) (l:=zaJ 1 l) (i:=7) (fun x=>rfl) rfl l1 rfl
 have TG:zaP (dTB (dFn zjl (dA (dFz (za0 (dIt (zab 6)) (zaM 8) dTT (zag zbd (dR (zab 0) (dR (zab 8) dR0))) 1)) dA0))) Z1=.ok (!(zaJ 0 l).all (isG n),Z1):=zaW (zaz (zbl (zaG G) (zgD _ _)))
 have TN:zaP (dTB (dFn zjl (dA (dFz (za0 (dIt (zab 7)) (zaM 8) dTT (zag zby (dR (zab 1) (dR (zab 8) dR0))) 1)) dA0))) Z1=.ok (!(zaJ 1 l).all (isG (ps.length:Int)),Z1):=zaW (zaz (zbl (zaG Nn) (zgD _ _)))
 refine zav (Z':=Z1) rfl ?_ rfl
 show zdF Z0=_
 unfold zdF
 rw[zal (Z1:=Z0) (by rw[zch T1];rfl)]
 rw[zal (Z1:=[some (.val (.int n)),some (.val (pd ps)),some (.val (.tup l)),some (.val (.int one)),some (.val (.int ot)),some (.val (.int tq)),some (.val (.tup (zaJ 0 l))),none]) (zaO (d:=.tup (zaJ 0 l)) (Z1:=Z0) rfl (by simp[Z0]))]
 rw[zal (Z1:=Z1) (zaO (d:=.tup (zaJ 1 l)) (Z1:=[some (.val (.int n)),some (.val (pd ps)),some (.val (.tup l)),some (.val (.int one)),some (.val (.int ot)),some (.val (.int tq)),some (.val (.tup (zaJ 0 l))),none]) rfl xws)]
 by_cases hg:(zaJ 0 l).all (isG n)=true
 case neg =>
  rw[Bool.not_eq_true] at hg
  rw[hg] at TG
  rw[zaH (Z1:=Z1) (d:=.bl false) (by rw[zb2 TG];rfl)]
  have hw:zdV ps one ot tq (.tup l)=false:=by
   rw[wb]
   cases hz:zfk l with
   |none=>rfl
   |some zs =>
    have e:=zfE hz
    subst e
    rw[List.length_map] at hc
    show zmC ps one ot tq zs=false
    rw[<- zpb hp hc.1 hc.2]
    unfold evB
    rw[if_neg]
    rw[<- zf2,hg];simp
  rw[hw]
 rw[hg] at TG
 rw[zal (Z1:=Z1) (by rw[zch TG];rfl)]
 by_cases hn:(zaJ 1 l).all (isG (ps.length:Int))=true
 case neg =>
  rw[Bool.not_eq_true] at hn
  rw[hn] at TN
  rw[zaH (Z1:=Z1) (d:=.bl false) (by rw[zb2 TN];rfl)]
  have hw:zdV ps one ot tq (.tup l)=false:=by
   rw[wb]
   cases hz:zfk l with
   |none=>rfl
   |some zs =>
    have e:=zfE hz
    subst e
    rw[List.length_map] at hc
    show zmC ps one ot tq zs=false
    rw[<- zpb hp hc.1 hc.2]
    unfold evB
    rw[<- zf2,if_pos hg,<- zf2,if_neg (by rw[hn];simp)]
  rw[hw]
 rw[hn] at TN
 rw[zal (Z1:=Z1) (by rw[zch TN];rfl)]
 obtain ⟨zs,rfl⟩ : ∃ zs:List Int,l=zs.map .int:=zgW fun d hd=>by
  rcases znc hd with z|z
  ·obtain ⟨i,e,_⟩:=zfb (List.all_eq_true.mp hg d z);exact ⟨i,e⟩
  ·obtain ⟨i,e,_⟩:=zfb (List.all_eq_true.mp hn d z);exact ⟨i,e⟩
 rw[List.length_map] at hc hl1
 have hwB:zdV ps one ot tq (.tup (zs.map .int))=evB n ps one ot tq zs:=by
  rw[wb,zhf];exact (zpb hp hc.1 hc.2).symm
 rw[hwB]
 have gat:∀ k,k<=zs.length / 2->(zaJ 0 (zs.map Dt.int))[k]? = some (.int (zs.getD (2 * k) 0)):=fun k hk=>by
  rw[zdI xwo k (by rw[List.length_map];omega),wao,wac (show 0+k * 2<zs.length by omega),zfh (show 2 * k<zs.length by omega)]
  simp only[Option.map_some]
  congr 2
  congr 1
  omega
 have glen:(zaJ 0 (zs.map Dt.int)).length=zs.length / 2+1:=by rw[zdc xwo,List.length_map];omega
 have g0:dOp gIx (zab 6) (dC (.int 0)) Z1=.ok (.int (zs.getD 0 0),Z1):=zao (d:=.tup (zaJ 0 (zs.map .int))) (e:=.int 0) rfl rfl (zdn xwo (by rw[glen];omega) (gat 0 xwo))
 have gL:dOp gIx (zab 6) (zjn (dC (.int 1))) Z1=.ok (.int (zs.getD (zs.length-1) 0),Z1):=by
  refine zao (d:=.tup (zaJ 0 (zs.map .int))) (e:=.int (-1)) rfl rfl ?_
  refine ziF ?_
  rw[glen,gat _ xwo,show 2 * (zs.length / 2+1-1)=zs.length-1 by omega]
 have c1:dTB (dOp (gEq true) (dOp gIx (zab 6) (dC (.int 0))) (zab 3)) Z1=.ok (!(zs.getD 0 0 == one),Z1):=zaz (zao g0 rfl (by rw[znn];rfl))
 have c2:dTB (dOp (gEq true) (dOp gIx (zab 6) (zjn (dC (.int 1)))) (zab 4)) Z1=.ok (!(zs.getD (zs.length-1) 0 == ot),Z1):=zaz (zao gL rfl (by rw[znn];rfl))
 have ev:evB n ps one ot tq zs=if zs.getD 0 0=one/\zs.getD (zs.length-1) 0=ot then (List.range (zs.length / 2)).all fun k=>decide (zs.getD (2 * k) 0∈ps.getD (zs.getD (2 * k+1) 0).toNat []) && (decide (zs.getD (2 * k+2) 0∈ps.getD (zs.getD (2 * k+1) 0).toNat []) && decide (tq∉ps.getD (zs.getD (2 * k+1) 0).toNat [])) else false:=by
  unfold evB
  rw[<- zf2,if_pos hg,<- zf2,if_pos hn]
 by_cases h1:zs.getD 0 0=one
 case neg =>
  have c1':(!(zs.getD 0 0 == one))=true:=by rw[beq_eq_false_iff_ne.mpr h1];rfl
  rw[c1'] at c1
  rw[zaH (Z1:=Z1) (d:=.bl false) (by rw[zb2 (zcG c1)];rfl),ev,if_neg (fun z=>h1 z.1)]
 have c1':(!(zs.getD 0 0 == one))=false:=by rw[h1];simp
 rw[c1'] at c1
 by_cases h2:zs.getD (zs.length-1) 0=ot
 case neg =>
  have c2':(!(zs.getD (zs.length-1) 0 == ot))=true:=by rw[beq_eq_false_iff_ne.mpr h2];rfl
  rw[c2'] at c2
  rw[zaH (Z1:=Z1) (d:=.bl false) (by rw[zb2 ((zaZ c1).trans c2)];rfl),ev,if_neg (fun z=>h2 z.2)]
 have c2':(!(zs.getD (zs.length-1) 0 == ot))=false:=by rw[h2];simp
 rw[c2'] at c2
 rw[zal (Z1:=Z1) (by rw[zch ((zaZ c1).trans c2)];rfl),ev,if_pos ⟨h1,h2⟩]
 have nat:∀ k,k<zs.length / 2->(zaJ 1 (zs.map Dt.int))[k]? = some (.int (zs.getD (2 * k+1) 0)):=fun k hk=>by
  rw[zdI xwo k (by rw[List.length_map];omega),wao,wac (show 1+k * 2<zs.length by omega),zfh (show 2 * k+1<zs.length by omega)]
  simp only[Option.map_some]
  congr 2
  congr 1
  omega
 have nlen:(zaJ 1 (zs.map Dt.int)).length=zs.length / 2:=by rw[zdc xwo,List.length_map];omega
 have een:zf8 (zaJ 1 (zs.map Dt.int))=(List.range (zs.length / 2)).map fun k=>.tup [.int (k:Nat),.int (zs.getD (2 * k+1) 0)]:=by
  apply List.ext_getElem?
  intro i
  unfold zf8
  rw[List.getElem?_map,List.getElem?_map,nlen]
  by_cases hi:i<zs.length / 2
  ·rw[List.getElem?_range hi,(List.getElem?_zip_eq_some (z:=(i,.int (zs.getD (2 * i+1) 0)))).mpr ⟨List.getElem?_range hi,nat i hi⟩]
   rfl
  ·rw[List.getElem?_eq_none (by rw[List.length_zip,List.length_range];omega),List.getElem?_eq_none (by rw[List.length_range];omega)]
   rfl
 have Lc:za0 (zlG (zab 7)) (zeh 8 9) dTT (zag zeU (dR (dOp gIx (zab 1) (zab 9)) (dR (dOp gIx (zab 6) (zab 8)) (dR (dOp gIx (zab 6) (dOp zbe (zab 8) (dC (.int 1)))) (dR (zab 5) dR0))))) 2 Z1 =
   .ok ((List.range (zs.length / 2)).map fun k=>.bl (decide (zs.getD (2 * k) 0∈ps.getD (zs.getD (2 * k+1) 0).toNat []) && (decide (zs.getD (2 * k+2) 0∈ps.getD (zs.getD (2 * k+1) 0).toNat []) && decide (tq∉ps.getD (zs.getD (2 * k+1) 0).toNat []))),Z1):=by
  refine zgV (l:=List.range (zs.length / 2)) (u:=fun k=>.int (k:Nat)) (v:=fun k=>.int (zs.getD (2 * k+1) 0)) (ds:=zf8 (zaJ 1 (zs.map Dt.int))) rfl een (by rw[List.length_range];omega) (fun k hk=>?_) rfl rfl
  have hk':=List.mem_range.mp hk
  have hpn:0<=zs.getD (2 * k+1) 0/\zs.getD (2 * k+1) 0<ps.length:=by
   obtain ⟨i,ei,a,b⟩:=zfb (List.all_eq_true.mp hn _ (List.mem_of_getElem? (nat k hk')))
   injection ei with ei
   rw[ei];exact ⟨a,b⟩
  have hq:(zs.getD (2 * k+1) 0).toNat<ps.length:=by omega
  have e1:dOp gIx (zab 1) (zab 9) (Z1++[some (.val (.int (k:Nat))),some (.val (.int (zs.getD (2 * k+1) 0)))])=.ok (tz (ps.getD (zs.getD (2 * k+1) 0).toNat []),Z1++[some (.val (.int (k:Nat))),some (.val (.int (zs.getD (2 * k+1) 0)))]):=by
   exact zao (d:=pd ps) (e:=.int (zs.getD (2 * k+1) 0)) rfl rfl (ziT hpn.1 hpn.2)
  have e2:dOp gIx (zab 6) (zab 8) (Z1++[some (.val (.int (k:Nat))),some (.val (.int (zs.getD (2 * k+1) 0)))])=.ok (.int (zs.getD (2 * k) 0),Z1++[some (.val (.int (k:Nat))),some (.val (.int (zs.getD (2 * k+1) 0)))]) :=
   zao (d:=.tup (zaJ 0 (zs.map .int))) (e:=.int (k:Nat)) rfl rfl (zdn xwo (by rw[glen];omega) (by rw[Int.toNat_natCast];exact gat k xwo))
  have e3:dOp gIx (zab 6) (dOp zbe (zab 8) (dC (.int 1))) (Z1++[some (.val (.int (k:Nat))),some (.val (.int (zs.getD (2 * k+1) 0)))])=.ok (.int (zs.getD (2 * k+2) 0),Z1++[some (.val (.int (k:Nat))),some (.val (.int (zs.getD (2 * k+1) 0)))]) :=
   zao (d:=.tup (zaJ 0 (zs.map .int))) (e:=.int ((k:Nat)+1)) rfl (zao rfl rfl rfl) (zdn xwo (by rw[glen];omega) (by rw[show ((k:Int)+1).toNat=k+1 by omega];exact gat (k+1) xwo))
  exact zeJ (za3 e1 (za3 e2 (za3 e3 (za3 (d:=.int tq) rfl zbY)))) (zig _ _ _ _)
 exact zbi (zbl (zaG Lc) (zgD _ _))
theorem zos(d:Dt):zbq [.val d]=.ok (.bl (isW d),[.val .non]):=by
 cases d <;> simp[zbq,zaq,zgF,zbx,zjm,zbN,zhD,zt2,zcZ,zab,zjk,tyD,zaw,isW,R.bind]
theorem zpl{body:DS}{P:Nat->Bool}{A:Option B->Option B->Ev}{v:Nat->Dt}{g:DG}:∀(ks:List Nat)(o p:Option B),(∀ k∈ks,∀ o p,∃ Z1,g (v k) (A o p)=.ok Z1/\if P k=true then ∃ o' p',body Z1=.ok (.nx,A o' p') else ∃ o' p',body Z1=.ok (.rt (.bl false),A o' p')) ->
  if ks.all P=true then ∃ o' p',zkp g body (ks.map v) (A o p)=.ok (.nx,A o' p') else ∃ o' p',zkp g body (ks.map v) (A o p)=.ok (.rt (.bl false),A o' p')
 |[],o,p,_=>⟨o,p,rfl⟩
 |k::ks,o,p,h=>by
  obtain ⟨Z1,e1,e2⟩:=h k wau o p
  rw[List.map_cons]
  unfold zkp
  rw[e1]
  simp only[R.bind_ok]
  by_cases hk:P k=true
  ·rw[if_pos hk] at e2
   obtain ⟨o',p',e2⟩:=e2
   rw[e2]
   simp only[R.bind_ok,List.all_cons,hk,Bool.true_and]
   exact zpl ks o' p' fun j hj=>h j (wah _ hj)
  ·rw[if_neg hk] at e2
   obtain ⟨o',p',e2⟩:=e2
   rw[Bool.not_eq_true] at hk
   rw[e2]
   simp only[R.bind_ok,List.all_cons,hk,Bool.false_and,Bool.false_eq_true,if_false]
   exact ⟨o',p',rfl⟩
def zuM(i j:Int)(Z:Ev):R (List Dt×Ev):=if (zkb i && zkb j)=true then .ok (zeT i (n2 i j),Z) else .no
theorem zpQ{i j:Int}{Z:Ev}(h1:0<=i)(h2:i<1000000)(h3:0<=j)(h4:j<1000000):zuM i j Z=.ok (zeT i (n2 i j),Z):=if_pos (by unfold zkb;rw[decide_eq_true h1,decide_eq_true h2,decide_eq_true h3,decide_eq_true h4];rfl)
theorem zum{fa fb:De}{Z Z1 Z2:Ev}{i j:Int}(h:fa Z=.ok (.int i,Z1))(h2:fb Z1=.ok (.int j,Z2)):znd fa fb Z=zuM i j Z2:=by
 unfold znd
 rw[h]
 simp only[R.bind_ok]
 rw[h2]
 rfl
abbrev zuS(n:Nat)(ps:List (List Int))(one ot tq:Int)(d:Dt)(o p:Option B):Ev:=[some (.val (.int n)),some (.val (pd ps)),some (.val (.int one)),some (.val (.int ot)),some (.val (.int tq)),some (.val d),o,p]
abbrev ziy:DS:=(zaF (dIf (zm6 (dOp gIx (zab 5) (zab 6)) (dFn zbz (dA (zab 1) dA0))) (zbN (dC (.bl false))) dNx) (zaF (zb1 7 (dOp gIx (zab 1) (dOp gIx (zab 5) (zab 6)))) (dIf (zdW (dTB (dOp (gIn true) (dOp gIx (zab 5) (dOp zhI (zab 6) (dC (.int 1)))) (zab 7))) (zdW (dTB (dOp (gIn true) (dOp gIx (zab 5) (dOp zbe (zab 6) (dC (.int 1)))) (zab 7))) (dTB (dOp (gIn false) (zab 4) (zab 7))))) (zbN (dC (.bl false))) dNx)))
theorem zpz{n:Nat}{ps:List (List Int)}{one ot tq:Int}{zs:List Int}{k:Nat}(hc:3<=zs.length/\zs.length % 2=1)(hk':k<zs.length / 2)(o p:Option B) :
  ∃ Z1,zaM 6 (Dt.int (1+(k:Nat) * 2)) (zuS n ps one ot tq (.tup (zs.map .int)) o p)=.ok Z1/\if zm0 ps tq (zs.getD (2 * k) 0) (zs.getD (2 * k+1) 0) (zs.getD (2 * k+2) 0)=true then ∃ o' p',ziy Z1=.ok (.nx,zuS n ps one ot tq (.tup (zs.map .int)) o' p') else ∃ o' p',ziy Z1=.ok (.rt (.bl false),zuS n ps one ot tq (.tup (zs.map .int)) o' p'):=by
 let A:Option B->Option B->Ev:=zuS n ps one ot tq (.tup (zs.map .int))
 have zat:∀ k,k<zs.length->(zs.map Dt.int)[k]? = some (.int (zs.getD k 0)):=fun k hk=>by
  rw[List.getElem?_map,List.getElem?_eq_getElem hk,zfh hk];rfl
 let a6:Option B:=some (.val (.int (1+(k:Nat) * 2)))
 refine ⟨A a6 p,by simp[zaM,A,a6],?_⟩
 have e1:∀ p,dOp gIx (zab 5) (zab 6) (A a6 p)=.ok (.int (zs.getD (2 * k+1) 0),A a6 p):=fun p=>zao (d:=.tup (zs.map .int)) (e:=.int (1+(k:Nat) * 2)) rfl rfl (zdn xwo (by rw[List.length_map];omega) (by rw[show (1+(k:Int) * 2).toNat=2 * k+1 by omega];exact zat _ xwo))
 have el:dFn zbz (dA (zab 1) dA0) (A a6 p)=.ok (.int ps.length,A a6 p):=zbl (d:=pd ps) rfl (by simp[zbz,lp])
 have eN:zm6 (dOp gIx (zab 5) (zab 6)) (dFn zbz (dA (zab 1) dA0)) (A a6 p)=.ok (!(decide (0<=zs.getD (2 * k+1) 0) && decide (zs.getD (2 * k+1) 0<ps.length)),A a6 p):=by
  unfold zm6
  rw[e1]
  simp only[R.bind_ok]
  rw[el]
  rfl
 unfold zm0
 by_cases hr:(decide (0<=zs.getD (2 * k+1) 0) && decide (zs.getD (2 * k+1) 0<ps.length))=true
 case neg =>
  rw[Bool.not_eq_true] at hr
  rw[hr] at eN ⊢
  rw[if_neg xws]
  refine ⟨a6,p,zaH ?_⟩
  rw[zb2 eN];rfl
 rw[hr] at eN ⊢
 rw[Bool.and_eq_true,decide_eq_true_eq,decide_eq_true_eq] at hr
 simp only[Bool.true_and]
 let Q:List Int:=ps.getD (zs.getD (2 * k+1) 0).toNat []
 let a7:Option B:=some (.val (tz Q))
 have sB:ziy (A a6 p) =
   dIf (zdW (dTB (dOp (gIn true) (dOp gIx (zab 5) (dOp zhI (zab 6) (dC (.int 1)))) (zab 7))) (zdW (dTB (dOp (gIn true) (dOp gIx (zab 5) (dOp zbe (zab 6) (dC (.int 1)))) (zab 7))) (dTB (dOp (gIn false) (zab 4) (zab 7))))) (zbN (dC (.bl false))) dNx (A a6 a7):=by
  show zaF _ _ _=_
  rw[zal (Z1:=A a6 p) (by rw[zch eN];rfl)]
  rw[zal (Z1:=A a6 a7) (zaO (d:=tz Q) (Z1:=A a6 p) (zao (d:=pd ps) rfl (e1 p) (ziT hr.1 hr.2)) (by simp[A]))]
 rw[sB]
 have t1:dTB (dOp (gIn true) (dOp gIx (zab 5) (dOp zhI (zab 6) (dC (.int 1)))) (zab 7)) (A a6 a7)=.ok (!decide (zs.getD (2 * k) 0∈Q),A a6 a7) :=
  zaz (zao (d:=.int (zs.getD (2 * k) 0)) (e:=tz Q) (zao (d:=.tup (zs.map .int)) (e:=.int (1+(k:Nat) * 2-1)) rfl (zao rfl rfl rfl) (zdn xwo (by rw[List.length_map];omega) (by rw[show (1+(k:Int) * 2-1).toNat=2 * k by omega];exact zat _ xwo))) rfl (by rw[zrp];rfl))
 have t2:dTB (dOp (gIn true) (dOp gIx (zab 5) (dOp zbe (zab 6) (dC (.int 1)))) (zab 7)) (A a6 a7)=.ok (!decide (zs.getD (2 * k+2) 0∈Q),A a6 a7) :=
  zaz (zao (d:=.int (zs.getD (2 * k+2) 0)) (e:=tz Q) (zao (d:=.tup (zs.map .int)) (e:=.int (1+(k:Nat) * 2+1)) rfl (zao rfl rfl rfl) (zdn xwo (by rw[List.length_map];omega) (by rw[show (1+(k:Int) * 2+1).toNat=2 * k+2 by omega];exact zat _ xwo))) rfl (by rw[zrp];rfl))
 have t3:dTB (dOp (gIn false) (zab 4) (zab 7)) (A a6 a7)=.ok (decide (tq∈Q),A a6 a7):=zaz (zao (d:=.int tq) (e:=tz Q) rfl rfl (by rw[zrp];rfl))
 show if (decide (zs.getD (2 * k) 0∈Q) && (decide (zs.getD (2 * k+2) 0∈Q) && decide (tq∉Q)))=true then _ else _
 by_cases q1:zs.getD (2 * k) 0∈Q
 ·rw[decide_eq_true q1] at t1 ⊢
  by_cases q2:zs.getD (2 * k+2) 0∈Q
  ·rw[decide_eq_true q2] at t2 ⊢
   by_cases q3:tq∈Q
   ·rw[decide_eq_true q3] at t3
    rw[if_neg (by simp[q3])]
    exact ⟨a6,a7,by rw[zb2 ((zaZ t1).trans ((zaZ t2).trans t3))];rfl⟩
   ·rw[decide_eq_false q3] at t3
    rw[if_pos (by simp[q3])]
    exact ⟨a6,a7,by rw[zch ((zaZ t1).trans ((zaZ t2).trans t3))];rfl⟩
  ·rw[decide_eq_false q2] at t2 ⊢
   rw[if_neg xws]
   exact ⟨a6,a7,by rw[zb2 ((zaZ t1).trans (zcG t2))];rfl⟩
 ·rw[decide_eq_false q1] at t1 ⊢
  rw[if_neg xws]
  exact ⟨a6,a7,by rw[zb2 (zcG t1)];rfl⟩
theorem zh0{n:Nat}{ps:List (List Int)}(hp:zgv n ps)(hps:ps.length<=8){one ot tq:Int}{d:Dt}(hl:∀ l,d=.tup l->l.length<=1000) :
  zbr [.val (.int n),.val (pd ps),.val (.int one),.val (.int ot),.val (.int tq),.val d]=.ok (.bl (zdV ps one ot tq d),[.val .non,.val .non,.val .non,.val .non,.val .non,.val .non]):=by
 let A:Option B->Option B->Ev:=fun o p=>[some (.val (.int n)),some (.val (pd ps)),some (.val (.int one)),some (.val (.int ot)),some (.val (.int tq)),some (.val d),o,p]
 suffices h:∃ o p,zdC (A none none)=.ok (.rt (.bl (zdV ps one ot tq d)),A o p) by
  obtain ⟨o,p,h⟩:=h
  exact zav (Z':=A o p) rfl h rfl
 unfold zdC
 by_cases ht:∃ l,d=.tup l
 case neg =>
  refine ⟨none,none,zaH ?_⟩
  have e0:zaP (dTB (zcZ "tuple" (zab 5))) (A none none)=.ok (true,A none none):=by
   refine zaW (b:=false) (zaz ?_)
   cases d <;> first|exact absurd ⟨_,rfl⟩ ht|simp[A,zcZ,zab,zjk,tyD]
  rw[zb2 (zcG e0)]
  have:zdV ps one ot tq d=false:=by cases d <;> first|exact absurd ⟨_,rfl⟩ ht|rfl
  rw[this];rfl
 obtain ⟨l,rfl⟩:=ht
 have hl1:=hl l rfl
 have T1:=zoP (i:=5) (Z:=A none none) (l:=l) rfl
 have wb:zdV ps one ot tq (.tup l)=match zfk l with|some zs=>zmC ps one ot tq zs|none=>false:=rfl
 by_cases hc:(decide (3<=l.length) && decide (l.length % 2=1))=true
 case neg =>
  rw[Bool.not_eq_true] at hc
  rw[hc] at T1
  have hw:zdV ps one ot tq (.tup l)=false:=by
   rw[wb]
   cases hz:zfk l with
   |none=>rfl
   |some zs =>
    have e:=zlt hz
    show zmC ps one ot tq zs=false
    unfold zmC
    rw[<- e]
    rw[Bool.and_eq_false_iff] at hc
    rcases hc with c|c
    ·rw[c];rfl
    ·rw[c];simp
  rw[hw]
  refine ⟨none,none,zaH ?_⟩
  rw[zb2 T1]
  rfl
 rw[hc] at T1
 rw[Bool.and_eq_true,decide_eq_true_eq,decide_eq_true_eq] at hc
 rw[zal (Z1:=A none none) (by rw[zch T1];rfl)]
 have W:za0 (dIt (zab 5)) (zaM 8) (zaP (dTB (zag zbq (dR (zab 8) dR0)))) (zab 8) 1 (A none none)=.ok ((l.filter fun d=>!isW d).map id,A none none):=by
  refine zdg (p:=fun d=>!isW d) (f:=id) (Z0:=A none none) (l:=l) rfl rfl xwo (fun d hd=>?_) (fun d hd _=>rfl)
  exact zaW (zaz (zhO (d:=d) (Z':=A none none++[some (.val d)]) rfl (zos d)))
 rw[List.map_id] at W
 have N1:dTB (dOp zfq (dFz (za0 (dIt (zab 5)) (zaM 8) (zaP (dTB (zag zbq (dR (zab 8) dR0)))) (zab 8) 1)) (dFz (zbU dA0))) (A none none)=.ok (!(l.filter fun d=>!isW d).isEmpty,A none none):=zaz (zao (zaG W) (zaG (zbE rfl xws)) rfl)
 by_cases hw:(l.filter fun d=>!isW d).isEmpty=true
 case neg =>
  rw[Bool.not_eq_true] at hw
  rw[hw] at N1
  refine ⟨none,none,zaH ?_⟩
  rw[zb2 (zcG N1)]
  have:zdV ps one ot tq (.tup l)=false:=by
   rw[wb]
   cases hz:zfk l with
   |none=>rfl
   |some zs =>
    exfalso
    have e:=zfE hz
    have:(l.filter fun d=>!isW d)=[]:=by
     rw[List.filter_eq_nil_iff,e]
     intro d hd
     obtain ⟨i,_,rfl⟩:=List.mem_map.mp hd
     simp[isW]
    rw[this] at hw;cases hw
  rw[this];rfl
 rw[hw] at N1
 obtain ⟨zs,rfl⟩ : ∃ zs:List Int,l=zs.map .int:=zgW fun d hd=>by
  have:=List.filter_eq_nil_iff.mp (List.isEmpty_iff.mp hw) d hd
  cases d <;> simp[isW] at this
  exact ⟨_,rfl⟩
 rw[List.length_map] at hc hl1
 have hwB:zdV ps one ot tq (.tup (zs.map .int))=(decide (zs.getD 0 0=one) && (decide (zs.getD (zs.length-1) 0=ot) && zlQ ps tq zs)):=by
  rw[wb,zhf]
  show zmC ps one ot tq zs=_
  unfold zmC
  rw[decide_eq_true hc.1,decide_eq_true hc.2]
  rfl
 rw[hwB]
 have zat:∀ k,k<zs.length->(zs.map Dt.int)[k]? = some (.int (zs.getD k 0)):=fun k hk=>by
  rw[List.getElem?_map,List.getElem?_eq_getElem hk,zfh hk];rfl
 have g0:dOp gIx (zab 5) (dC (.int 0)) (A none none)=.ok (.int (zs.getD 0 0),A none none):=zao (d:=.tup (zs.map .int)) (e:=.int 0) rfl rfl (zdn xwo (by rw[List.length_map];omega) (zat 0 xwo))
 have gL:dOp gIx (zab 5) (zjn (dC (.int 1))) (A none none)=.ok (.int (zs.getD (zs.length-1) 0),A none none):=zao (d:=.tup (zs.map .int)) (e:=.int (-1)) rfl rfl (ziF (by rw[List.length_map];exact zat _ xwo))
 have c1:dTB (dOp (gEq true) (dOp gIx (zab 5) (dC (.int 0))) (zab 2)) (A none none)=.ok (!(zs.getD 0 0 == one),A none none):=zaz (zao g0 rfl (by rw[znn];rfl))
 have c2:dTB (dOp (gEq true) (dOp gIx (zab 5) (zjn (dC (.int 1)))) (zab 3)) (A none none)=.ok (!(zs.getD (zs.length-1) 0 == ot),A none none):=zaz (zao gL rfl (by rw[znn];rfl))
 by_cases h1:zs.getD 0 0=one
 case neg =>
  have c1':(!(zs.getD 0 0 == one))=true:=by rw[beq_eq_false_iff_ne.mpr h1];rfl
  rw[c1'] at c1
  refine ⟨none,none,zaH ?_⟩
  rw[zb2 ((zaZ N1).trans (zcG c1)),decide_eq_false h1]
  rfl
 have c1':(!(zs.getD 0 0 == one))=false:=by rw[h1];simp
 rw[c1'] at c1
 by_cases h2:zs.getD (zs.length-1) 0=ot
 case neg =>
  have c2':(!(zs.getD (zs.length-1) 0 == ot))=true:=by rw[beq_eq_false_iff_ne.mpr h2];rfl
  rw[c2'] at c2
  refine ⟨none,none,zaH ?_⟩
  rw[zb2 ((zaZ N1).trans ((zaZ c1).trans c2)),decide_eq_false h2]
  simp only[Bool.false_and,Bool.and_false]
  rfl
 have c2':(!(zs.getD (zs.length-1) 0 == ot))=false:=by rw[h2];simp
 rw[c2'] at c2
 rw[zal (Z1:=A none none) (by rw[zch ((zaZ N1).trans ((zaZ c1).trans c2))];rfl),wat h1,wat h2]
 simp only[Bool.true_and]
 have er:znd (dC (.int 1)) (dFn zbz (dA (zab 5) dA0)) (A none none)=.ok ((List.range (zs.length / 2)).map fun k=>.int (1+(k:Nat) * 2),A none none):=by
  have el:dFn zbz (dA (zab 5) dA0) (A none none)=.ok (.int zs.length,A none none):=zbl (d:=.tup (zs.map .int)) rfl (by simp[zbz])
  rw[zum (i:=1) (Z1:=A none none) rfl el,zpQ xwo xwo xwo xwo]
  unfold zeT n2
  rw[if_pos xwo,show (((zs.length:Int)-1-1) / 2+1).toNat=zs.length / 2 by omega]
 have F:=zpl (A:=A) (v:=fun k=>Dt.int (1+(k:Nat) * 2)) (P:=fun k=>zm0 ps tq (zs.getD (2 * k) 0) (zs.getD (2 * k+1) 0) (zs.getD (2 * k+2) 0)) (body:=ziy) (List.range (zs.length / 2)) none none fun k hk o p=>zpz hc (List.mem_range.mp hk) o p
 unfold zlQ
 split at F
 ·rename_i hA
  obtain ⟨o',p',F⟩:=F
  refine ⟨o',p',?_⟩
  rw[zal (Z1:=A o' p') (by unfold ze4;rw[er];exact F),hA]
  rfl
 ·rename_i hA
  rw[Bool.not_eq_true] at hA
  obtain ⟨o',p',F⟩:=F
  refine ⟨o',p',zaH ?_⟩
  rw[hA]
  unfold ze4
  rw[er]
  exact F
theorem zqn{n:Nat}{ps:List (List Int)}(hp:zgv n ps)(hl:ps.length<=8):zoS n (.lst (lp ps))=true:=by
 unfold zoS
 rw[Bool.and_eq_true,decide_eq_true_eq,List.all_eq_true]
 refine ⟨by simpa [lp] using hl,fun d hd=>?_⟩
 obtain ⟨p,hp',rfl⟩:=List.mem_map.mp hd
 exact zrH (hp p hp')
theorem zlh{n:Int}:∀{p:List Int}{lo:Int},p.Pairwise (· < ·)->(∀ x∈p,lo<=x/\x<n)->p.length<=(n-lo).toNat
 |[],_,_,_=>Nat.zero_le _
 |x::r,lo,hp,h=>by
  rw[List.pairwise_cons] at hp
  have h1:=h x xws
  have ih:=zlh (p:=r) (lo:=x+1) hp.2 fun y hy=>⟨by have:=hp.1 y hy;omega,(h y (by simp[hy])).2⟩
  rw[List.length_cons]
  omega
theorem zon{n:Nat}{p:List Int}(h7:n<=7)(h:Pty n p):p.length<=7:=by
 have:=zlh (lo:=0) h.2.1 h.2.2
 omega
theorem zoL{n:Nat}{ps:List (List Int)}(h1:1<=n)(h7:n<=7)(hp:zgv n ps)(hps:ps.length<=8):zaS [.val (.int n),.val (pd ps)]=.ok (.non,[.val .non,.val .non]):=by
 have hL:Lens (pd ps):=fun d hd t e=>by
  obtain ⟨p,hp',rfl⟩:=List.mem_map.mp hd
  cases e
  have:=zon h7 (hp p hp')
  simpa using by omega
 have e:=ze9 h1 h7 (pd ps) hL
 rw[zqn hp hps] at e
 refine zo8 (Z':=[some (.val (.int n)),some (.val (pd ps))]) rfl ?_ rfl
 show zbf [some (.val (.int n)),some (.val (pd ps))]=_
 unfold zbf
 rw[zch (zaW (zaz (zhP (Z':=[some (.val (.int n)),some (.val (pd ps))]) (Z'':=[some (.val (.int n)),some (.val (pd ps))]) rfl rfl e)))]
 rfl
theorem zjD(a b c:Dt):zht [.val a,.val b,.val c]=.ok (.lst [.tup [a,b,c],.tup [a,c,b],.tup [b,c,a]],[.val .non,.val .non,.val .non]):=by
 refine zav (Z':=[some (.val a),some (.val b),some (.val c)]) rfl ?_ rfl
 show znA [some (.val a),some (.val b),some (.val c)]=_
 unfold znA
 refine zbi (zaG (zbE (zbA (zaU (zbA rfl (zbA rfl (zbA rfl rfl))) xws) (zbA (zaU (zbA rfl (zbA rfl (zbA rfl rfl))) xws) (zbA (zaU (zbA rfl (zbA rfl (zbA rfl rfl))) xws) rfl))) xws))
def zgR(n:Nat)(ps:List (List Int)):Dt->Bool
 |.tup [.int a,.int b,.int c,.tup [w1,w2,w3]]=>(decide (0<=a) && (decide (a<b) && (decide (b<c) && decide (c<(n:Int))))) && (zdV ps a b c w1 && (zdV ps a c b w2 && zdV ps b c a w3))
 |_=>false
def zps(ps:List (List Int))(a b c:Int):Dt->Bool
 |.tup [w1,w2,w3]=>zdV ps a b c w1 && (zdV ps a c b w2 && zdV ps b c a w3)
 |_=>false
def OkW(d:Dt):Prop:=∀ l,d=.tup l->l.length<=1000
def ze3(d:Dt):Prop:=∀ a b c w1 w2 w3,d=.tup [a,b,c,.tup [w1,w2,w3]]->OkW w1/\OkW w2/\OkW w3
theorem zvw{α:Type}{l:List α}(h:l.length=3):∃ a b c,l=[a,b,c]:=by
 match l,h with
 |[a,b,c],_=>exact ⟨a,b,c,rfl⟩
theorem len4{α:Type}{l:List α}(h:l.length=4):∃ a b c d,l=[a,b,c,d]:=by
 match l,h with
 |[a,b,c,d],_=>exact ⟨a,b,c,d,rfl⟩
theorem zpq{n:Nat}{ps:List (List Int)}(hp:zgv n ps)(hps:ps.length<=8){a b c:Int}{d:Dt}(hk:∀ w1 w2 w3,d=.tup [w1,w2,w3]->OkW w1/\OkW w2/\OkW w3) :
  zfT [.val (.int n),.val (pd ps),.val d,.val (.lst [.tup [.int a,.int b,.int c],.tup [.int a,.int c,.int b],.tup [.int b,.int c,.int a]])]=.ok (.bl (zps ps a b c d),[.val .non,.val .non,.val .non,.val .non]):=by
 let L:List Dt:=[.tup [.int a,.int b,.int c],.tup [.int a,.int c,.int b],.tup [.int b,.int c,.int a]]
 let Z:Ev:=[some (.val (.int n)),some (.val (pd ps)),some (.val d),some (.val (.lst L))]
 refine zav (Z':=Z) rfl ?_ rfl
 show zgg Z=_
 unfold zgg
 by_cases ht:∃ l,d=.tup l
 case neg =>
  have e0:zaP (dTB (zcZ "tuple" (zab 2))) Z=.ok (true,Z):=by
   refine zaW (b:=false) (zaz ?_)
   cases d <;> first|exact absurd ⟨_,rfl⟩ ht|simp[Z,zcZ,zab,zjk,tyD]
  refine zaH ?_
  rw[zb2 (zcG e0)]
  cases d <;> first|exact absurd ⟨_,rfl⟩ ht|rfl
 obtain ⟨l,rfl⟩:=ht
 have e0:zaP (dTB (zcZ "tuple" (zab 2))) Z=.ok (false,Z):=zaW (zaz (zi6 rfl))
 have e1:dTB (dOp (gEq true) (dFn zbz (dA (zab 2) dA0)) (dFn zbz (dA (zab 3) dA0))) Z=.ok (!((l.length:Int) == 3),Z):=zaz (zao (d:=.int l.length) (e:=.int 3) (zbl (d:=.tup l) rfl (by simp[zbz])) (zbl (d:=.lst L) rfl (by simp[zbz,L])) (by rw[znn];rfl))
 by_cases h3:l.length=3
 case neg =>
  have:(!((l.length:Int) == 3))=true:=by
   rw[beq_eq_false_iff_ne.mpr xwo];rfl
  rw[this] at e1
  refine zaH ?_
  rw[zb2 ((zaZ e0).trans e1)]
  have:zps ps a b c (.tup l)=false:=by
   match l,h3 with
   |[],_=>rfl
   |[_],_=>rfl
   |[_,_],_=>rfl
   |[_,_,_],h=>exact absurd rfl h
   |_::_::_::_::_,_=>rfl
  rw[this];rfl
 have:(!((l.length:Int) == 3))=false:=by rw[h3];rfl
 rw[this] at e1
 rw[zal (Z1:=Z) (by rw[zch ((zaZ e0).trans e1)];rfl)]
 obtain ⟨w1,w2,w3,rfl⟩:=zvw h3
 obtain ⟨k1,k2,k3⟩:=hk w1 w2 w3 rfl
 let T:List (Dt×Int×Int×Int):=[(w1,a,b,c),(w2,a,c,b),(w3,b,c,a)]
 have hC:za0 (zqs (zab 2) (zab 3)) (zeh 4 5) dTT (zag zfn (dR (zab 0) (dR (zab 1) (dR (zab 4) (dR (dOp gIx (zab 5) (dC (.int 0))) (dR (dOp gIx (zab 5) (dC (.int 1))) (dR (dOp gIx (zab 5) (dC (.int 2))) dR0))))))) 2 Z=.ok (T.map fun t=>.bl (zdV ps t.2.1 t.2.2.1 t.2.2.2 t.1),Z):=by
  refine zgV (l:=T) (u:=fun t=>t.1) (v:=fun t=>.tup [.int t.2.1,.int t.2.2.1,.int t.2.2.2]) (ds:=[.tup [w1,.tup [.int a,.int b,.int c]],.tup [w2,.tup [.int a,.int c,.int b]],.tup [w3,.tup [.int b,.int c,.int a]]]) rfl rfl (by simp[T]) (fun t ht=>?_) rfl rfl
  have ok:OkW t.1:=by
   simp only[T,wap,wak,or_false] at ht
   rcases ht with rfl|rfl|rfl
   ·exact k1
   ·exact k2
   ·exact k3
  exact zeJ (xs:=[.int n,pd ps,t.1,.int t.2.1,.int t.2.2.1,.int t.2.2.2]) (za3 rfl (za3 rfl (za3 rfl (za3 rfl (za3 rfl (za3 rfl zbY)))))) (zmo hp hps ok)
 refine zbi (zbl (zaG hC) ?_)
 rw[zgD]
 simp[T,zps]
theorem gs3{n:Int}{Z0:Ev}{l:List Dt}(h0:∀ x,zab 0 (Z0++[some (.val x)])=.ok (.int n,Z0++[some (.val x)]))(hi:zab 3 Z0=.ok (.tup l,Z0))(hl:l.length<=1000)(h8:Z0.length=4) :
  za0 (dIt (zab 3)) (zaM 4) dTT (zag zbd (dR (zab 0) (dR (zab 4) dR0))) 1 Z0=.ok (l.map fun x=>.bl (isG n x),Z0):=by
 refine zbB (l:=l) (u:=id) (f:=fun x=>.bl (isG n x)) (ds:=l) (by unfold dIt;rw[hi];rfl) (by rw[List.map_id]) hl (fun x hx=>?_) h8.symm
 refine zhP (d:=.int n) (e:=x) (h0 x) ?_ (zge n x)
 rw[<- h8];exact zhB
theorem zlC{n:Nat}{ps:List (List Int)}{l:List Dt}(h:l.length≠4):zgR n ps (.tup l)=false:=by
 unfold zgR
 split
 ·rename_i e;cases e;exact absurd rfl h
 ·rfl
theorem zmq{n:Nat}{ps:List (List Int)}(h1:1<=n)(h7:n<=7)(hp:zgv n ps)(hps:ps.length<=8){d:Dt}(hk:ze3 d) :
  zbP [.val (.int n),.val (pd ps),.val d]=.ok (.bl (zgR n ps d),[.val .non,.val .non,.val .non]):=by
 let A:Option B->Ev:=fun o=>[some (.val (.int n)),some (.val (pd ps)),some (.val d),o]
 suffices h:∃ o,zfm (A none)=.ok (.rt (.bl (zgR n ps d)),A o) by
  obtain ⟨o,h⟩:=h
  exact zav (Z':=A o) rfl h rfl
 unfold zfm
 rw[zal (Z1:=A none) (zhw (zhP (Z':=A none) (Z'':=A none) rfl rfl (zoL h1 h7 hp hps)))]
 by_cases ht:∃ l,d=.tup l
 case neg =>
  refine ⟨none,zaH ?_⟩
  have e0:zaP (dTB (zcZ "tuple" (zab 2))) (A none)=.ok (true,A none):=by
   refine zaW (b:=false) (zaz ?_)
   cases d <;> first|exact absurd ⟨_,rfl⟩ ht|simp[A,zcZ,zab,zjk,tyD]
  rw[zb2 (zcG e0)]
  have:zgR n ps d=false:=by cases d <;> first|exact absurd ⟨_,rfl⟩ ht|rfl
  rw[this];rfl
 obtain ⟨l,rfl⟩:=ht
 have e0:zaP (dTB (zcZ "tuple" (zab 2))) (A none)=.ok (false,A none):=zaW (zaz (zi6 rfl))
 have e1:dTB (dOp (gEq true) (dFn zbz (dA (zab 2) dA0)) (dC (.int 4))) (A none)=.ok (!((l.length:Int) == 4),A none):=zaz (zao (d:=.int l.length) (e:=.int 4) (zbl (d:=.tup l) rfl (by simp[zbz])) rfl (by rw[znn];rfl))
 by_cases h4:l.length=4
 case neg =>
  have:(!((l.length:Int) == 4))=true:=by
   rw[beq_eq_false_iff_ne.mpr xwo];rfl
  rw[this] at e1
  refine ⟨none,zaH ?_⟩
  rw[zb2 ((zaZ e0).trans e1),zlC h4];rfl
 have:(!((l.length:Int) == 4))=false:=by rw[h4];rfl
 rw[this] at e1
 rw[zal (Z1:=A none) (by rw[zch ((zaZ e0).trans e1)];rfl)]
 obtain ⟨da,db,dc,dw,rfl⟩:=len4 h4
 let A3:Ev:=[some (.val (.int n)),some (.val (pd ps)),some (.val (.tup [da,db,dc,dw])),some (.val (.tup [da,db,dc]))]
 rw[zal (Z1:=A3) (zaO (d:=.tup [da,db,dc]) (Z1:=A none) rfl (by simp[A]))]
 refine ⟨some (.val (.tup [da,db,dc])),?_⟩
 have G:=gs3 (Z0:=A3) (n:=n) (l:=[da,db,dc]) (fun x=>rfl) rfl xws rfl
 have TG:zaP (dTB (dFn zjl (dA (dFz (za0 (dIt (zab 3)) (zaM 4) dTT (zag zbd (dR (zab 0) (dR (zab 4) dR0))) 1)) dA0))) A3=.ok (![da,db,dc].all (isG n),A3):=zaW (zaz (zbl (zaG G) (zgD _ _)))
 by_cases hg:[da,db,dc].all (isG n)=true
 case neg =>
  rw[Bool.not_eq_true] at hg
  rw[hg] at TG
  have hb:zgR n ps (.tup [da,db,dc,dw])=false:=by
   unfold zgR
   split
   ·rename_i a b c w1 w2 w3 e
    cases e
    rw[Bool.and_eq_false_iff]
    left
    rw[<- Bool.not_eq_true]
    intro hh
    simp only[wae,war] at hh
    simp[isG] at hg
    have:=hg xwo xwo xwo xwo xwo
    omega
   ·rfl
  rw[hb]
  refine zaH ?_
  rw[zb2 (zcG TG)];rfl
 rw[hg] at TG
 simp only[List.all_cons,List.all_nil,Bool.and_true,wae] at hg
 obtain ⟨a,rfl,a0,a1⟩:=zfb hg.1
 obtain ⟨b,rfl,b0,b1⟩:=zfb hg.2.1
 obtain ⟨c,rfl,c0,c1⟩:=zfb hg.2.2
 have TR:zaP (dTB (zag zhv (dR (zab 3) dR0))) A3=.ok (!decide ([a,b,c].Pairwise (· < ·)),A3):=zaW (zaz (zhO (d:=tz [a,b,c]) (Z':=A3) rfl (zhV [a,b,c] xws)))
 have hpw:decide ([a,b,c].Pairwise (· < ·))=(decide (a<b) && decide (b<c)):=by
  rw[Bool.eq_iff_iff]
  simp
  omega
 rw[hpw] at TR
 by_cases hr:(decide (a<b) && decide (b<c))=true
 case neg =>
  rw[Bool.not_eq_true] at hr
  rw[hr] at TR
  have hb:zgR n ps (.tup [.int a,.int b,.int c,dw])=false:=by
   unfold zgR
   split
   ·rename_i a' b' c' w1 w2 w3 e
    cases e
    rw[Bool.and_eq_false_iff]
    left
    rw[<- Bool.not_eq_true]
    intro hh
    simp only[wae,war] at hh
    rw[decide_eq_true hh.2.1,decide_eq_true hh.2.2.1] at hr
    cases hr
   ·rfl
  rw[hb]
  refine zaH ?_
  rw[zb2 ((zaZ TG).trans TR)];rfl
 rw[hr] at TR
 rw[Bool.and_eq_true,decide_eq_true_eq,decide_eq_true_eq] at hr
 rw[zal (Z1:=A3) (by rw[zch ((zaZ TG).trans TR)];rfl)]
 refine zbi ?_
 have hbar:zgR n ps (.tup [.int a,.int b,.int c,dw])=zps ps a b c dw:=by
  have hd:(decide (0<=a) && (decide (a<b) && (decide (b<c) && decide (c<(n:Int)))))=true:=by simp[a0,hr.1,hr.2,c1]
  unfold zgR
  split
  ·rename_i e;cases e;rw[hd];rfl
  ·rename_i hne
   unfold zps
   split
   ·rename_i w1 w2 w3;exact absurd rfl (hne a b c w1 w2 w3)
   ·rfl
 rw[hbar]
 have hlegs:zag zht (dR (dOp gIx (zab 3) (dC (.int 0))) (dR (dOp gIx (zab 3) (dC (.int 1))) (dR (dOp gIx (zab 3) (dC (.int 2))) dR0))) A3=.ok (.lst [.tup [.int a,.int b,.int c],.tup [.int a,.int c,.int b],.tup [.int b,.int c,.int a]],A3) :=
  zeJ (xs:=[.int a,.int b,.int c]) (za3 rfl (za3 rfl (za3 rfl zbY))) (zjD _ _ _)
 exact zeJ (xs:=[.int n,pd ps,dw,.lst [.tup [.int a,.int b,.int c],.tup [.int a,.int c,.int b],.tup [.int b,.int c,.int a]]]) (za3 rfl (za3 rfl (za3 rfl (za3 hlegs zbY)))) (zpq hp hps fun w1 w2 w3 e=>by subst e;exact hk _ _ _ w1 w2 w3 rfl)
theorem zjs{n:Nat}{ps:List (List Int)}{da db dc dw:Dt}(h:(∀ m,dw≠.tup m)\/∃ m,dw=.tup m/\m.length≠3):zgR n ps (.tup [da,db,dc,dw])=false:=by
 unfold zgR
 split
 ·rename_i e
  cases e
  rcases h with h|⟨m,e,h⟩
  ·exact absurd rfl (h _)
  ·cases e;exact absurd rfl h
 ·rfl
theorem zn1{n:Nat}{ps:List (List Int)}(h1:1<=n)(h7:n<=7)(hp:zgv n ps)(hps:ps.length<=8){d:Dt}(hk:ze3 d) :
  zcn [.val (.int n),.val (pd ps),.val d]=.ok (.bl (zgR n ps d),[.val .non,.val .non,.val .non]):=by
 let P (r:Ev):Prop:=∃ o3 o4 o5 o6 o7,r=[some (.val (.int n)),some (.val (pd ps)),some (.val d),o3,o4,o5,o6,o7]
 suffices h:∃ r,P r/\zcK [some (.val (.int n)),some (.val (pd ps)),some (.val d),none,none,none,none,none]=.ok (.rt (.bl (zgR n ps d)),r) by
  obtain ⟨r,⟨o3,o4,o5,o6,o7,rfl⟩,h⟩:=h
  exact zav rfl h rfl
 let A0:Ev:=[some (.val (.int n)),some (.val (pd ps)),some (.val d),none,none,none,none,none]
 have p0:P A0:=⟨none,none,none,none,none,rfl⟩
 show ∃ r,P r/\zcK A0=_
 unfold zcK
 by_cases ht:∃ l,d=.tup l
 case neg =>
  refine ⟨A0,p0,zaH ?_⟩
  have e0:zaP (dTB (zcZ "tuple" (zab 2))) A0=.ok (true,A0):=by
   refine zaW (b:=false) (zaz ?_)
   cases d <;> first|exact absurd ⟨_,rfl⟩ ht|simp[A0,zcZ,zab,zjk,tyD]
  rw[zb2 (zcG e0)]
  have:zgR n ps d=false:=by cases d <;> first|exact absurd ⟨_,rfl⟩ ht|rfl
  rw[this];rfl
 obtain ⟨l,rfl⟩:=ht
 have e0:zaP (dTB (zcZ "tuple" (zab 2))) A0=.ok (false,A0):=zaW (zaz (zi6 rfl))
 have e1:dTB (dOp (gEq true) (dFn zbz (dA (zab 2) dA0)) (dC (.int 4))) A0=.ok (!((l.length:Int) == 4),A0):=zaz (zao (d:=.int l.length) (e:=.int 4) (zbl (d:=.tup l) rfl (by simp[zbz])) rfl (by rw[znn];rfl))
 by_cases h4:l.length=4
 case neg =>
  have:(!((l.length:Int) == 4))=true:=by
   rw[beq_eq_false_iff_ne.mpr xwo];rfl
  rw[this] at e1
  refine ⟨A0,p0,zaH ?_⟩
  rw[zb2 ((zaZ e0).trans (zcG e1)),zlC h4];rfl
 have:(!((l.length:Int) == 4))=false:=by rw[h4];rfl
 rw[this] at e1
 obtain ⟨da,db,dc,dw,rfl⟩:=len4 h4
 have ix3:dOp gIx (zab 2) (dC (.int 3)) A0=.ok (dw,A0):=rfl
 by_cases hw:∃ m,dw=.tup m
 case neg =>
  have e2:zaP (dTB (zcZ "tuple" (dOp gIx (zab 2) (dC (.int 3))))) A0=.ok (true,A0):=by
   refine zaW (b:=false) (zaz ?_)
   unfold zcZ
   rw[ix3]
   cases dw <;> first|exact absurd ⟨_,rfl⟩ hw|simp[zjk,tyD]
  refine ⟨A0,p0,zaH ?_⟩
  rw[zb2 ((zaZ e0).trans ((zaZ e1).trans (zcG e2))),zjs (.inl fun m e=>hw ⟨m,e⟩)];rfl
 obtain ⟨m,rfl⟩:=hw
 have e2:zaP (dTB (zcZ "tuple" (dOp gIx (zab 2) (dC (.int 3))))) A0=.ok (false,A0):=by
  refine zaW (b:=true) (zaz ?_)
  unfold zcZ
  rw[ix3]
  simp[zjk,tyD]
 have e3:dTB (dOp (gEq true) (dFn zbz (dA (dOp gIx (zab 2) (dC (.int 3))) dA0)) (dC (.int 3))) A0=.ok (!((m.length:Int) == 3),A0):=zaz (zao (d:=.int m.length) (e:=.int 3) (zbl (d:=.tup m) ix3 (by simp[zbz])) rfl (by rw[znn];rfl))
 by_cases h3:m.length=3
 case neg =>
  have:(!((m.length:Int) == 3))=true:=by
   rw[beq_eq_false_iff_ne.mpr xwo];rfl
  rw[this] at e3
  refine ⟨A0,p0,zaH ?_⟩
  rw[zb2 ((zaZ e0).trans ((zaZ e1).trans ((zaZ e2).trans e3))),zjs (.inr ⟨m,rfl,h3⟩)];rfl
 have:(!((m.length:Int) == 3))=false:=by rw[h3];rfl
 rw[this] at e3
 obtain ⟨w1,w2,w3,rfl⟩:=zvw h3
 rw[zal (Z1:=A0) (by rw[zch ((zaZ e0).trans ((zaZ e1).trans ((zaZ e2).trans e3)))];rfl)]
 obtain ⟨k1,k2,k3⟩:=hk _ _ _ _ _ _ rfl
 let A1:Ev:=[some (.val (.int n)),some (.val (pd ps)),some (.val (.tup [da,db,dc,.tup [w1,w2,w3]])),some (.val da),some (.val db),some (.val dc),some (.val (.tup [w1,w2,w3])),none]
 rw[zal (Z1:=A1) (show zrA (zab 2) (zmF [3,4,5,6]) A0=_ from rfl)]
 have p1:P A1:=⟨_,_,_,_,_,rfl⟩
 have W:za0 (dIt (zbn (zab 2) dO0 (dO1 (dC (.int 3))))) (zaM 8) (zaP (dTB (zag zbq (dR (zab 8) dR0)))) (zab 8) 1 A1=.ok (([da,db,dc].filter fun d=>!isW d).map id,A1):=by
  refine zdg (p:=fun d=>!isW d) (f:=id) (Z0:=A1) (l:=[da,db,dc]) rfl rfl xws (fun d hd=>?_) (fun d hd _=>rfl)
  exact zaW (zaz (zhO (d:=d) (Z':=A1++[some (.val d)]) rfl (zos d)))
 rw[List.map_id] at W
 have N1:dTB (dOp zfq (dFz (za0 (dIt (zbn (zab 2) dO0 (dO1 (dC (.int 3))))) (zaM 8) (zaP (dTB (zag zbq (dR (zab 8) dR0)))) (zab 8) 1)) (dFz (zbU dA0))) A1=.ok (!([da,db,dc].filter fun d=>!isW d).isEmpty,A1):=zaz (zao (zaG W) (zaG (zbE rfl xws)) rfl)
 by_cases hf:([da,db,dc].filter fun d=>!isW d).isEmpty=true
 case neg =>
  rw[Bool.not_eq_true] at hf
  rw[hf] at N1
  refine ⟨A1,p1,zaH ?_⟩
  rw[zb2 (zcG N1)]
  have:zgR n ps (.tup [da,db,dc,.tup [w1,w2,w3]])=false:=by
   unfold zgR
   split
   ·rename_i e;cases e;simp[isW] at hf
   ·rfl
  rw[this];rfl
 rw[hf] at N1
 have hall:=List.filter_eq_nil_iff.mp (List.isEmpty_iff.mp hf)
 have toI:∀ d∈[da,db,dc],∃ i,d=.int i:=fun d hd=>by
  have:=hall d hd
  cases d <;> simp[isW] at this
  exact ⟨_,rfl⟩
 obtain ⟨a,rfl⟩:=toI da xws
 obtain ⟨b,rfl⟩:=toI db xws
 obtain ⟨c,rfl⟩:=toI dc xws
 have CH:zaP (zvG (dC (.int 0)) (zea gLe (zab 3) (zea gLt (zab 4) (zea gLt (zab 5) (zmh gLt (zab 0)))))) A1=.ok (!(decide (0<=a) && (decide (a<b) && (decide (b<c) && decide (c<(n:Int))))),A1):=by
  refine zaW ?_
  show zea gLe (zab 3) (zea gLt (zab 4) (zea gLt (zab 5) (zmh gLt (zab 0)))) (.int 0) A1=_
  unfold zea
  show (match (Dt.bl (decide (0<=a))) with|.bl true=>_|.bl false=>_|_=>_)=_
  cases decide (0<=a) with
  |false=>rfl
  |true =>
   show (match (Dt.bl (decide (a<b))) with|.bl true=>_|.bl false=>_|_=>_)=_
   cases decide (a<b) with
   |false=>rfl
   |true =>
    show (match (Dt.bl (decide (b<c))) with|.bl true=>_|.bl false=>_|_=>_)=_
    cases decide (b<c) with
    |false=>rfl
    |true=>rfl
 have hbar:zgR n ps (.tup [.int a,.int b,.int c,.tup [w1,w2,w3]])=((decide (0<=a) && (decide (a<b) && (decide (b<c) && decide (c<(n:Int))))) && (zdV ps a b c w1 && (zdV ps a c b w2 && zdV ps b c a w3))):=rfl
 rw[hbar]
 by_cases hd:(decide (0<=a) && (decide (a<b) && (decide (b<c) && decide (c<(n:Int)))))=true
 case neg =>
  rw[Bool.not_eq_true] at hd
  rw[hd] at CH ⊢
  refine ⟨A1,p1,zaH ?_⟩
  rw[zb2 ((zaZ N1).trans CH)];rfl
 rw[hd] at CH ⊢
 rw[zal (Z1:=A1) (by rw[zch ((zaZ N1).trans CH)];rfl)]
 let A2:Ev:=[some (.val (.int n)),some (.val (pd ps)),some (.val (.tup [.int a,.int b,.int c,.tup [w1,w2,w3]])),some (.val (.int a)),some (.val (.int b)),some (.val (.int c)),some (.val (.tup [w1,w2,w3])),some (.val (.lst [.bl (zdV ps a b c w1),.bl (zdV ps a c b w2)]))]
 have p2:P A2:=⟨_,_,_,_,_,rfl⟩
 have c1:zag zbr (dR (zab 0) (dR (zab 1) (dR (zab 3) (dR (zab 4) (dR (zab 5) (dR (dOp gIx (zab 6) (dC (.int 0))) dR0)))))) A1=.ok (.bl (zdV ps a b c w1),A1):=zeJ (xs:=[.int n,pd ps,.int a,.int b,.int c,w1]) (za3 rfl (za3 rfl (za3 rfl (za3 rfl (za3 rfl (za3 rfl zbY)))))) (zh0 hp hps k1)
 have c2:zag zbr (dR (zab 0) (dR (zab 1) (dR (zab 3) (dR (zab 5) (dR (zab 4) (dR (dOp gIx (zab 6) (dC (.int 1))) dR0)))))) A1=.ok (.bl (zdV ps a c b w2),A1):=zeJ (xs:=[.int n,pd ps,.int a,.int c,.int b,w2]) (za3 rfl (za3 rfl (za3 rfl (za3 rfl (za3 rfl (za3 rfl zbY)))))) (zh0 hp hps k2)
 have c3:zag zbr (dR (zab 0) (dR (zab 1) (dR (zab 4) (dR (zab 5) (dR (zab 3) (dR (dOp gIx (zab 6) (dC (.int 2))) dR0)))))) A2=.ok (.bl (zdV ps b c a w3),A2):=zeJ (xs:=[.int n,pd ps,.int b,.int c,.int a,w3]) (za3 rfl (za3 rfl (za3 rfl (za3 rfl (za3 rfl (za3 rfl zbY)))))) (zh0 hp hps k3)
 rw[zal (Z1:=A2) (zaO (d:=.lst [.bl (zdV ps a b c w1),.bl (zdV ps a c b w2)]) (Z1:=A1) (zaG (zbE (zbA c1 (zbA c2 rfl)) xws)) (by simp[A1]))]
 refine ⟨A2,p2,zbi ?_⟩
 have g:dOp (gEq false) (zab 7) (dC (.lst [(.bl true),(.bl true)])) A2=.ok (.bl (zdV ps a b c w1 && zdV ps a c b w2),A2):=by
  refine zao rfl rfl ?_
  rw[zg9 (by rfl) (by rfl)]
  cases zdV ps a b c w1 <;> cases zdV ps a c b w2 <;> rfl
 unfold zhD
 rw[g]
 simp only[R.bind_ok]
 cases h1:zdV ps a b c w1
 ·rfl
 ·cases h2:zdV ps a c b w2
  ·rfl
  ·simpa [h1,h2] using c3
theorem zoh{g:DG}{body:DS}{I:Nat->Ev->Prop}{Q:Dt->Ev->Prop}:∀(ds:List Dt)(Z:Ev),(∀ k,∀ d∈ds,∀ Z,I (k+1) Z->∃ Z1,g d Z=.ok Z1/\((∃ Z2,body Z1=.ok (.nx,Z2)/\I k Z2)\/∃ v Z2,body Z1=.ok (.rt v,Z2)/\Q v Z2))->I ds.length Z ->
  (∃ Z',zkp g body ds Z=.ok (.nx,Z')/\I 0 Z')\/∃ v Z',zkp g body ds Z=.ok (.rt v,Z')/\Q v Z'
 |[],Z,_,h=>.inl ⟨Z,rfl,h⟩
 |d::ds,Z,hs,h=>by
  obtain ⟨Z1,e1,e2⟩:=hs ds.length d wau Z h
  unfold zkp
  rw[e1]
  simp only[R.bind_ok]
  rcases e2 with ⟨Z2,e2,i2⟩|⟨v,Z2,e2,q2⟩
  ·rw[e2]
   simp only[R.bind_ok]
   exact zoh ds Z2 (fun k d hd=>hs k d (wah _ hd)) i2
  ·rw[e2]
   simp only[R.bind_ok]
   exact .inr ⟨v,Z2,rfl,q2⟩
theorem zh8{g:DG}{body:DS}{I:Nat->Ev->Prop}(ds:List Dt)(Z:Ev)(hs:∀ k,∀ d∈ds,∀ Z,I (k+1) Z->∃ Z1 Z2,g d Z=.ok Z1/\body Z1=.ok (.nx,Z2)/\I k Z2)(h:I ds.length Z):∃ Z',zkp g body ds Z=.ok (.nx,Z')/\I 0 Z':=by
 rcases zoh (I:=I) (Q:=fun _ _=>False) ds Z (fun k d hd Z h=>by
  obtain ⟨Z1,Z2,e1,e2,e3⟩:=hs k d hd Z h
  exact ⟨Z1,e1,.inl ⟨Z2,e2,e3⟩⟩) h with h|⟨_,_,_,h⟩
 ·exact h
 ·exact h.elim
def pr(p:Int×Int):Dt:=.tup [.int p.1,.int p.2]
theorem zs3(l:List (Int×Int)):okN 60 (.lst (l.map pr))=true:=by
 simp only[okN,List.all_map,List.all_eq_true]
 intro p hp
 simp[pr,okN]
theorem ztC(l:List (Int×Int)):gEq true (.lst (l.map pr)) (.lst [])=.ok (.bl (!l.isEmpty)):=by
 rw[zg9 (zs3 l) (by rfl)]
 cases l with
 |nil=>simp[zhl]
 |cons p r=>simp[zg4]
theorem zci{x y:List Dt}(h:x.length+y.length<=16777216):zbm (.tup x) (.tup y)=.ok (.tup (x++y)):=if_pos h
theorem zpP(w:List Int)(p:Int×Int)(h:w.length<=1000):zbm (tz w) (pr p)=.ok (tz (w++[p.1,p.2])):=by
 unfold tz pr
 rw[zci (by rw[List.length_map];simp;omega)]
 simp
abbrev lwA(n:Nat)(ps:List (List Int))(one ot tq:Int)(st:List Dt)(w:List Int)(o7 o8 o9 o10:Option B):Ev:=[some (.own st),some (.val (.int n)),some (.val (pd ps)),some (.val (.int one)),some (.val (.int ot)),some (.val (.int tq)),some (.val (tz w)),o7,o8,o9,o10]
theorem znE{n:Nat}{ps:List (List Int)}(h7:n<=7)(hp:zgv n ps)(hps:ps.length<=8){one ot tq:Int}{st:List Dt}{w:List Int}(hw:w≠[]){o7 o9 o10:Option B} :
  ∃(ss:List (Int×Int))(o9':Option B),ss.length<=100/\ze4 (zbt (dFn zbz (dA (zab 2) dA0))) (zaM 9) (dIf (zfI (dTB (dOp (gIn false) (dOp gIx (zab 6) (zjn (dC (.int 1)))) (dOp gIx (zab 2) (zab 9)))) (dTB (dOp (gIn true) (zab 5) (dOp gIx (zab 2) (zab 9))))) (zb1 8 (dFz (zfG (zab 8) (dFz (za0 (dIt (dOp gIx (zab 2) (zab 9))) (zaM 11) dTT (zb9 (dA (zab 9) (dA (zab 11) dA0))) 1))))) dNx) (lwA n ps one ot tq st w o7 (some (.val (.lst []))) o9 o10)=.ok (.nx,lwA n ps one ot tq st w o7 (some (.val (.lst (ss.map pr)))) o9' o10):=by
 let I:Nat->Ev->Prop:=fun k Z=>∃(ss:List (Int×Int))(o9:Option B),ss.length+7 * k<=56/\Z=lwA n ps one ot tq st w o7 (some (.val (.lst (ss.map pr)))) o9 o10
 have er:zbt (dFn zbz (dA (zab 2) dA0)) (lwA n ps one ot tq st w o7 (some (.val (.lst []))) o9 o10)=.ok (za7 0 ps.length,lwA n ps one ot tq st w o7 (some (.val (.lst []))) o9 o10):=zdG (zbl (d:=pd ps) rfl (by simp[zbz,lp])) xwo
 obtain ⟨x,hx⟩ : ∃ x,w[w.length-1]? = some x:=⟨w[w.length-1]'(by cases w with|nil=>exact absurd rfl hw|cons a r=>simp),wac _⟩
 have F:=zh8 (g:=zaM 9) (body:=dIf (zfI (dTB (dOp (gIn false) (dOp gIx (zab 6) (zjn (dC (.int 1)))) (dOp gIx (zab 2) (zab 9)))) (dTB (dOp (gIn true) (zab 5) (dOp gIx (zab 2) (zab 9))))) (zb1 8 (dFz (zfG (zab 8) (dFz (za0 (dIt (dOp gIx (zab 2) (zab 9))) (zaM 11) dTT (zb9 (dA (zab 9) (dA (zab 11) dA0))) 1))))) dNx) (I:=I) (za7 0 ps.length) (lwA n ps one ot tq st w o7 (some (.val (.lst []))) o9 o10) ?_ ⟨[],o9,by simp[za7];omega,rfl⟩
 ·obtain ⟨Z',e,ss,o9',hl,rfl⟩:=F
  refine ⟨ss,o9',xwo,?_⟩
  unfold ze4
  rw[er]
  exact e
 ·rintro k d hd Z ⟨ss,o9,hl,rfl⟩
  unfold za7 at hd
  obtain ⟨j,hj,rfl⟩:=List.mem_map.mp hd
  have hj':=List.mem_range.mp hj
  let Z1:=lwA n ps one ot tq st w o7 (some (.val (.lst (ss.map pr)))) (some (.val (.int (0+(j:Nat))))) o10
  have hpj:ps.getD j []∈ps:=by rw[List.getD_eq_getElem?_getD,List.getElem?_eq_getElem hj'];exact List.getElem_mem _
  have hq7:(ps.getD j []).length<=7:=zon h7 (hp _ hpj)
  have eP:dOp gIx (zab 2) (zab 9) Z1=.ok (tz (ps.getD j []),Z1):=by
   refine zao (d:=pd ps) (e:=.int (0+(j:Nat))) rfl rfl ?_
   rw[ziT xwo xwo,show (0+(j:Int)).toNat=j by omega]
  have eX:dOp gIx (zab 6) (zjn (dC (.int 1))) Z1=.ok (.int x,Z1):=zao (d:=tz w) (e:=.int (-1)) rfl rfl (ziF (by rw[List.length_map,List.getElem?_map,hx];rfl))
  have t1:dTB (dOp (gIn false) (dOp gIx (zab 6) (zjn (dC (.int 1)))) (dOp gIx (zab 2) (zab 9))) Z1=.ok (decide (x∈ps.getD j []),Z1):=zaz (zao eX eP (by rw[zrp];rfl))
  have t2:dTB (dOp (gIn true) (zab 5) (dOp gIx (zab 2) (zab 9))) Z1=.ok (!decide (tq∈ps.getD j []),Z1):=zaz (zao (d:=.int tq) rfl eP (by rw[zrp];rfl))
  refine ⟨Z1,?_⟩
  have eC:za0 (dIt (dOp gIx (zab 2) (zab 9))) (zaM 11) dTT (zb9 (dA (zab 9) (dA (zab 11) dA0))) 1 Z1=.ok ((ps.getD j []).map fun g=>pr (0+(j:Nat),g),Z1):=by
   refine zbB (l:=ps.getD j []) (u:=Dt.int) (f:=fun g=>pr (0+(j:Nat),g)) (ds:=(ps.getD j []).map .int) (by unfold dIt;rw[eP];rfl) rfl xwo (fun g hg=>?_) rfl
   exact zaU (zbA rfl (zbA rfl rfl)) xws
  have eS:zb1 8 (dFz (zfG (zab 8) (dFz (za0 (dIt (dOp gIx (zab 2) (zab 9))) (zaM 11) dTT (zb9 (dA (zab 9) (dA (zab 11) dA0))) 1)))) Z1=.ok (.nx,lwA n ps one ot tq st w o7 (some (.val (.lst ((ss++(ps.getD j []).map fun g=>((0+(j:Nat):Int),g)).map pr)))) (some (.val (.int (0+(j:Nat))))) o10):=by
   refine zaO (d:=.lst ((ss++(ps.getD j []).map fun g=>((0+(j:Nat):Int),g)).map pr)) (Z1:=Z1) (zaG ?_) (by simp[Z1])
   unfold zfG
   rw[show zab 8 Z1=.ok (.lst (ss.map pr),Z1) from rfl]
   simp only[R.bind_ok]
   rw[zaG eC]
   simp only[R.bind_ok]
   rw[if_pos (by rw[List.length_map,List.length_map];omega),List.map_append,List.map_map]
   rfl
  by_cases q1:x∈ps.getD j []
  ·rw[decide_eq_true q1] at t1
   by_cases q2:tq∈ps.getD j []
   ·rw[decide_eq_true q2] at t2
    exact ⟨Z1,by simp[zaM,Z1],by rw[zch ((zgs t1).trans t2)];rfl,ss,_,xwo,rfl⟩
   ·rw[decide_eq_false q2] at t2
    exact ⟨_,by simp[zaM,Z1],by rw[zb2 ((zgs t1).trans t2)];exact eS,_,_,by rw[List.length_append,List.length_map];omega,rfl⟩
  ·rw[decide_eq_false q1] at t1
   exact ⟨Z1,by simp[zaM,Z1],by rw[zch (zkU t1)];rfl,ss,_,xwo,rfl⟩
theorem zde{fi:DA}{g:DG}{b:DS}{Z Z1:Ev}{ds:List Dt}(h:fi Z=.ok (ds,Z1)):ze4 fi g b Z=zkp g b ds Z1:=by
 unfold ze4;rw[h];rfl
theorem zo5{zaL:Ev}{st:List Dt}{i:Nat}{ss:List (Int×Int)}(hs:St st)(h0:ss≠[])(hl:ss.length<=100)(hv:∀ st,zab i (some (.own st)::zaL)=.ok (.lst (ss.map pr),some (.own st)::zaL)) :
  ∃ p st',St st'/\dOp gIx (zab i) (zag zaf (dRO 0 (dR (dFn zbz (dA (zab i) dA0)) dR0))) (some (.own st)::zaL)=.ok (pr p,some (.own st')::zaL):=by
 have hpos:0<ss.length:=List.length_pos_iff.mpr h0
 obtain ⟨v,st',e,hs',v0,v1⟩:=zbb (m:=(ss.length:Int)) hs xwo xwo
 have hlt:v.toNat<ss.length:=by omega
 refine ⟨ss[v.toNat],st',hs',zao (hv st) (zfU e (zbl (hv st) (by simp[zbz]))) (zkS v0 (by rw[List.length_map];omega) ?_)⟩
 rw[List.getElem?_map,List.getElem?_eq_getElem hlt]
 rfl
theorem zrZ{ot:Int}{Z0:Ev}{ss:List (Int×Int)}(h11:Z0.length=11)(hv:zab 8 Z0=.ok (.lst (ss.map pr),Z0))(h4:∀ d,zab 4 (Z0++[some (.val d)])=.ok (.int ot,Z0++[some (.val d)]))(hl:ss.length<=100) :
  za0 (dIt (zab 8)) (zaM 11) (dTB (dOp (gEq false) (dOp gIx (zab 11) (dC (.int 1))) (zab 4))) (zab 11) 1 Z0=.ok (((ss.filter fun p=>p.2 == ot).map pr),Z0):=by
 have e:=zdg (p:=fun d=>match d with|.tup [_,.int b]=>b == ot|_=>false) (f:=id) (ft:=dTB (dOp (gEq false) (dOp gIx (zab 11) (dC (.int 1))) (zab 4))) (fe:=zab 11) (Z0:=Z0) (l:=ss.map pr) (fi:=dIt (zab 8)) (j:=11) (by unfold dIt;rw[hv];rfl) h11.symm (by rw[List.length_map];omega) ?_ ?_
 ·rw[e,List.map_id]
  congr 2
  rw[List.filter_map]
  congr 1
 ·intro d hd
  obtain ⟨p,_,rfl⟩:=List.mem_map.mp hd
  have hv11:zab 11 (Z0++[some (.val (pr p))])=.ok (pr p,Z0++[some (.val (pr p))]):=by rw[<- h11];exact zhB
  refine zaz (zao (d:=.int p.2) (e:=.int ot) (zao hv11 rfl rfl) (h4 _) ?_)
  rw[znn]
  rfl
 ·intro d hd _
  rw[<- h11];exact zhB
theorem zn6{n:Nat}{ps:List (List Int)}(h7:n<=7)(hp:zgv n ps)(hps:ps.length<=8){one ot tq:Int}{st:List Dt}(hs:St st) :
  ∃(w:List Int)(st':List Dt),St st'/\w≠[]/\w.length<=20/\zcL [.own st,.val (.int n),.val (pd ps),.val (.int one),.val (.int ot),.val (.int tq)]=.ok (tz w,[.own st',.val .non,.val .non,.val .non,.val .non,.val .non]):=by
 let Q:Dt->Ev->Prop:=fun v Z=>∃(w u:List Int)(st':List Dt)(o7 o8 o9 o10:Option B),St st'/\w≠[]/\w.length<=20/\v=tz w/\Z=lwA n ps one ot tq st' u o7 o8 o9 o10
 suffices h:∃ v Z,zgh [some (.own st),some (.val (.int n)),some (.val (pd ps)),some (.val (.int one)),some (.val (.int ot)),some (.val (.int tq)),none,none,none,none,none]=.ok (.rt v,Z)/\Q v Z by
  obtain ⟨v,Z,e,w,u,st',o7,o8,o9,o10,hs',hw,hl,rfl,rfl⟩:=h
  exact ⟨w,st',hs',hw,hl,zav rfl e rfl⟩
 let I:Nat->Ev->Prop:=fun k Z=>∃(st:List Dt)(w:List Int)(o7 o8 o9 o10:Option B),St st/\w≠[]/\w.length+2 * k<=9/\Z=lwA n ps one ot tq st w o7 o8 o9 o10
 unfold zgh
 rw[zal (Z1:=lwA n ps one ot tq st [one] none none none none) (zaO (d:=tz [one]) (Z1:=[some (.own st),some (.val (.int n)),some (.val (pd ps)),some (.val (.int one)),some (.val (.int ot)),some (.val (.int tq)),none,none,none,none,none]) (zaU (zbA rfl rfl) xws) xws)]
 have er:zbt (dC (.int 4)) (lwA n ps one ot tq st [one] none none none none)=.ok (za7 0 4,lwA n ps one ot tq st [one] none none none none):=zdG (j:=4) rfl xwo
 have F:=zoh (g:=zaM 7) (body:=zaF (zb1 8 (dFz (zbU dA0))) (zaF (ze4 (zbt (dFn zbz (dA (zab 2) dA0))) (zaM 9) (dIf (zfI (dTB (dOp (gIn false) (dOp gIx (zab 6) (zjn (dC (.int 1)))) (dOp gIx (zab 2) (zab 9)))) (dTB (dOp (gIn true) (zab 5) (dOp gIx (zab 2) (zab 9))))) (zb1 8 (dFz (zfG (zab 8) (dFz (za0 (dIt (dOp gIx (zab 2) (zab 9))) (zaM 11) dTT (zb9 (dA (zab 9) (dA (zab 11) dA0))) 1))))) dNx)) (zaF (zb1 10 (dFz (za0 (dIt (zab 8)) (zaM 11) (dTB (dOp (gEq false) (dOp gIx (zab 11) (dC (.int 1))) (zab 4))) (zab 11) 1))) (zaF (dIf (dTB (dOp (gEq true) (zab 10) (dFz (zbU dA0)))) (zbN (dOp zbm (zab 6) (dOp gIx (zab 10) (zag zaf (dRO 0 (dR (dFn zbz (dA (zab 10) dA0)) dR0)))))) dNx) (dIf (dTB (dOp (gEq true) (zab 8) (dFz (zbU dA0)))) (zb1 6 (dOp zbm (zab 6) (dOp gIx (zab 8) (zag zaf (dRO 0 (dR (dFn zbz (dA (zab 8) dA0)) dR0)))))) dNx)))))
  (I:=I) (Q:=Q) (za7 0 4) (lwA n ps one ot tq st [one] none none none none) ?_ ⟨st,[one],none,none,none,none,hs,xws,by simp[za7],rfl⟩
 ·rcases F with ⟨Z',e,st',w,o7,o8,o9,o10,hs',hw,hl,rfl⟩|⟨v,Z',e,q⟩
  ·refine ⟨tz (w++[0,ot]),lwA n ps one ot tq st' w o7 o8 o9 o10,?_,w++[0,ot],w,st',o7,o8,o9,o10,hs',xws,by simp;omega,rfl,rfl⟩
   rw[zal ((zde er).trans e)]
   exact zbi (zao (d:=tz w) (e:=pr (0,ot)) rfl (zaU (ds:=[.int 0,.int ot]) (zbA (d:=.int 0) rfl (zbA (d:=.int ot) rfl rfl)) xws) (zpP w (0,ot) xwo))
  ·exact ⟨v,Z',zaH ((zde er).trans e),q⟩
 ·rintro k d hd Z ⟨st,w,o7,o8,o9,o10,hs,hw,hl,rfl⟩
  refine ⟨lwA n ps one ot tq st w (some (.val d)) o8 o9 o10,by simp[zaM],?_⟩
  obtain ⟨ss,o9',hss,eS⟩:=znE (one:=one) (ot:=ot) (tq:=tq) (st:=st) (o7:=some (.val d)) (o9:=o9) (o10:=o10) h7 hp hps hw
  rw[zal (Z1:=lwA n ps one ot tq st w (some (.val d)) (some (.val (.lst []))) o9 o10) (zaO (d:=.lst []) (Z1:=lwA n ps one ot tq st w (some (.val d)) o8 o9 o10) (zaG (zbE rfl xws)) xws)]
  rw[zal eS]
  let es:List (Int×Int):=ss.filter fun p=>p.2 == ot
  have hes:es.length<=100:=Nat.le_trans (List.length_filter_le _ _) hss
  let R2:Ev:=[some (.val (.int n)),some (.val (pd ps)),some (.val (.int one)),some (.val (.int ot)),some (.val (.int tq)),some (.val (tz w)),some (.val d),some (.val (.lst (ss.map pr))),o9',some (.val (.lst (es.map pr)))]
  rw[zal (Z1:=some (.own st)::R2) (zaO (d:=.lst (es.map pr)) (Z1:=lwA n ps one ot tq st w (some (.val d)) (some (.val (.lst (ss.map pr)))) o9' o10) (zaG (zrZ (ot:=ot) rfl rfl (fun _=>rfl) hss)) xws)]
  have t1:dTB (dOp (gEq true) (zab 10) (dFz (zbU dA0))) (some (.own st)::R2)=.ok (!es.isEmpty,some (.own st)::R2):=zaz (zao rfl (zaG (zbE rfl xws)) (ztC es))
  have t2:dTB (dOp (gEq true) (zab 8) (dFz (zbU dA0))) (some (.own st)::R2)=.ok (!ss.isEmpty,some (.own st)::R2):=zaz (zao rfl (zaG (zbE rfl xws)) (ztC ss))
  by_cases he:es.isEmpty=true
  ·rw[he] at t1
   rw[zal (Z1:=some (.own st)::R2) (by rw[zch t1];rfl)]
   left
   by_cases hse:ss.isEmpty=true
   ·rw[hse] at t2
    exact ⟨_,by rw[zch t2];rfl,st,w,_,_,_,_,hs,hw,xwo,rfl⟩
   ·rw[Bool.not_eq_true] at hse
    rw[hse] at t2
    obtain ⟨p,st',hs',ep⟩:=zo5 (zaL:=R2) (i:=8) (ss:=ss) hs (by intro z;rw[z] at hse;cases hse) hss (fun _=>rfl)
    refine ⟨_,by rw[zb2 t2];exact zaO (d:=tz (w++[p.1,p.2])) (Z1:=some (.own st')::R2) (zao (d:=tz w) rfl ep (zpP w p xwo)) (by simp[R2]),st',w++[p.1,p.2],_,_,_,_,hs',xws,by simp;omega,rfl⟩
  ·rw[Bool.not_eq_true] at he
   rw[he] at t1
   right
   obtain ⟨p,st',hs',ep⟩:=zo5 (zaL:=R2) (i:=10) (ss:=es) hs (by intro z;rw[z] at he;cases he) hes (fun _=>rfl)
   exact ⟨tz (w++[p.1,p.2]),some (.own st')::R2,zaH (by rw[zb2 t1];exact zbi (zao (d:=tz w) rfl ep (zpP w p xwo))),w++[p.1,p.2],w,st',_,_,_,_,hs',xws,by simp;omega,rfl,rfl⟩
def brD(a b c:Int)(u v w:List Int):Dt:=.tup [.int a,.int b,.int c,.tup [tz u,tz v,tz w]]
def Br(d:Dt):Prop:=∃ a b c u v w,d=brD a b c u v w/\(u≠[]/\u.length<=20)/\(v≠[]/\v.length<=20)/\(w≠[]/\w.length<=20)
theorem zuY{n:Nat}{ps:List (List Int)}(h7:n<=7)(hp:zgv n ps)(hps:ps.length<=8){i j k:Nat}{one ot tq:Int}{st:List Dt}(hs:St st){zaL:Ev}
  (h1:zab 1 (some (.own st)::zaL)=.ok (.int n,some (.own st)::zaL)) (h2:zab 2 (some (.own st)::zaL)=.ok (pd ps,some (.own st)::zaL)) (hi:zab i (some (.own st)::zaL)=.ok (.int one,some (.own st)::zaL)) (hj:zab j (some (.own st)::zaL)=.ok (.int ot,some (.own st)::zaL)) (hk:zab k (some (.own st)::zaL)=.ok (.int tq,some (.own st)::zaL)) :
  ∃(w:List Int)(st':List Dt),St st'/\(w≠[]/\w.length<=20)/\zag zcL (dRO 0 (dR (zab 1) (dR (zab 2) (dR (zab i) (dR (zab j) (dR (zab k) dR0)))))) (some (.own st)::zaL)=.ok (tz w,some (.own st')::zaL):=by
 obtain ⟨w,st',hs',hw,hl,e⟩:=zn6 (n:=n) (one:=one) (ot:=ot) (tq:=tq) h7 hp hps hs
 exact ⟨w,st',hs',⟨hw,hl⟩,zug (xs:=[.int n,pd ps,.int one,.int ot,.int tq]) (za3 h1 (za3 h2 (za3 hi (za3 hj (za3 hk zbY))))) e⟩
theorem zmz{n:Nat}{ps:List (List Int)}(h3:3<=n)(h7:n<=7)(hp:zgv n ps)(hps:ps.length<=8){st:List Dt}(hs:St st) :
  ∃ d st',St st'/\Br d/\zbJ [.own st,.val (.int n),.val (pd ps)]=.ok (d,[.own st',.val .non,.val .non]):=by
 obtain ⟨row,st1,hs1,hrow,er⟩:=zlU (n:=n) h7 hs
 have hrl:row.length=n:=by rw[hrow.length_eq,zfR]
 let A0:List Dt->Ev:=fun st=>[some (.own st),some (.val (.int n)),some (.val (pd ps)),none,none,none,none]
 have e1:zag za9 (dRO 0 (dR (dFz (zhb (zab 1))) dR0)) (A0 st)=.ok (.lst (row.map .int),A0 st1):=zug (xs:=[.lst ((zc6 n).map .int)]) (za3 (zaG (zpy rfl xwo)) zbY) er
 obtain ⟨a,b,c,habc⟩:=zvw (l:=zfv (row.take 3)) (by rw[(zcN _).length_eq,List.length_take,hrl];omega)
 have ecut:dFz (zp5 (zag za9 (dRO 0 (dR (dFz (zhb (zab 1))) dR0))) dO0 (dO1 (dC (.int 3)))) (A0 st)=.ok (.lst ((row.take 3).map .int),A0 st1):=by
  refine zaG ?_
  unfold zp5
  rw[e1]
  show R.ok (zcA (row.map Dt.int) none (some ((3:Nat):Int)),A0 st1)=_
  rw[List.map_take]
  by_cases h:n=3
  ·have:(row.map Dt.int).length=3:=by rw[List.length_map,hrl,h]
   rw[List.take_of_length_le xwo]
   unfold zcA
   have z1:HT.sIx (row.map Dt.int).length 0 none=0:=rfl
   have z2:HT.sIx (row.map Dt.int).length (row.map Dt.int).length (some ((3:Nat):Int))=3:=by rw[this];rfl
   rw[z1,z2,List.drop_zero,List.take_of_length_le xwo]
  ·rw[zrT (by rw[List.length_map,hrl];omega)]
 have e2:dFz (zgS zdO (dA (dFz (zp5 (zag za9 (dRO 0 (dR (dFz (zhb (zab 1))) dR0))) dO0 (dO1 (dC (.int 3))))) dA0)) (A0 st)=.ok (.lst [.int a,.int b,.int c],A0 st1):=by
  refine zaG ?_
  unfold zgS
  rw[zbA ecut rfl]
  simp only[R.bind_ok]
  unfold zdO
  simp only[zhf]
  rw[if_pos (by rw[List.length_take];omega),habc]
  rfl
 let R1:Option B->Ev:=fun o=>[some (.val (.int n)),some (.val (pd ps)),some (.val (.int a)),some (.val (.int b)),some (.val (.int c)),o]
 have e3:zrA (dFz (zgS zdO (dA (dFz (zp5 (zag za9 (dRO 0 (dR (dFz (zhb (zab 1))) dR0))) dO0 (dO1 (dC (.int 3))))) dA0))) (ziB [3,4,5]) (A0 st)=.ok (.nx,some (.own st1)::R1 none):=by
  unfold zrA
  rw[e2]
  rfl
 obtain ⟨u,st2,hs2,hu,e4⟩:=zuY (n:=n) (i:=3) (j:=4) (k:=5) (one:=a) (ot:=b) (tq:=c) (zaL:=R1 none) h7 hp hps hs1 rfl rfl rfl rfl rfl
 obtain ⟨v,st3,hs3,hv,e5⟩:=zuY (n:=n) (i:=3) (j:=5) (k:=4) (one:=a) (ot:=c) (tq:=b) (zaL:=R1 none) h7 hp hps hs2 rfl rfl rfl rfl rfl
 obtain ⟨w,st4,hs4,hw,e6⟩:=zuY (n:=n) (i:=4) (j:=5) (k:=3) (one:=b) (ot:=c) (tq:=a) (zaL:=R1 (some (.val (.tup [tz u,tz v])))) h7 hp hps hs3 rfl rfl rfl rfl rfl
 refine ⟨brD a b c u v w,st4,hs4,⟨a,b,c,u,v,w,rfl,hu,hv,hw⟩,zav (Z':=some (.own st4)::R1 (some (.val (.tup [tz u,tz v])))) rfl ?_ rfl⟩
 show zef (A0 st)=_
 unfold zef
 rw[zal e3]
 rw[zal (Z1:=some (.own st3)::R1 (some (.val (.tup [tz u,tz v])))) (zaO (d:=.tup [tz u,tz v]) (Z1:=some (.own st3)::R1 none) (zaU (zbA e4 (zbA e5 rfl)) xws) (by simp[R1]))]
 refine zbi (zaU (ds:=[.int a,.int b,.int c,.tup [tz u,tz v,tz w]]) (zbA (d:=.int a) rfl (zbA (d:=.int b) rfl (zbA (d:=.int c) rfl (zbA ?_ rfl)))) xws)
 exact zao (d:=.tup [tz u,tz v]) (e:=.tup [tz w]) rfl (zaU (zbA e6 rfl) xws) (zci xws)
theorem zcE{α:Type}(l:List α)(a b:Option Int):(zcA l a b).length<=l.length:=by
 unfold zcA
 rw[List.length_take,List.length_drop]
 omega
theorem ziY{α:Type}{l:List α}{a b:Option Int}{x:α}(h:x∈zcA l a b):x∈l:=by
 unfold zcA at h
 exact List.mem_of_mem_drop (List.mem_of_mem_take h)
theorem zeI{l:List Dt}(h:l.length<=1000):OkW (.tup l):=fun m e=>by cases e;exact h
theorem znL{i:Nat}{fa:De}{Z Z1:Ev}{l0 l:List Dt}{d:Dt}(h0:Z[i]? = some (some (.own l0)))(h1:fa Z=.ok (d,Z1))(h2:Z1[i]? = some (some (.own l)))(hl:l.length<=1000):dEx (zft i fa) Z=.ok (.nx,Z1.set i (some (.own (l++[d])))):=by
 refine zhw (d:=.non) ?_
 unfold zft
 rw[h0]
 simp only
 rw[h1]
 simp only[R.bind_ok]
 rw[h2]
 simp only
 rw[if_pos xwo]
theorem zkz{i:Nat}{Z:Ev}{l:List Dt}(h:Z[i]? = some (some (.own l))):zfV i Z=.ok (.lst l,Z.set i (some (.val (.lst l)))):=by
 unfold zfV;rw[h]
theorem zlx{fa fb:De}{Z Z1 Z2:Ev}{x y:List Dt}(h1:fa Z=.ok (.lst x,Z1))(h2:fb Z1=.ok (.lst y,Z2))(hl:x.length+y.length<=1000):zfG fa fb Z=.ok (x++y,Z2):=by
 unfold zfG
 rw[h1]
 simp only[R.bind_ok]
 rw[h2]
 simp only[R.bind_ok]
 rw[if_pos xwo]
theorem zuN{zaL:Ev}{st:List Dt}{i:Nat}{m:Nat}{l:List Dt}(hs:St st)(hm:l.length=m)(h0:0<m)(h1:m<=1000)(hv:∀ st:List Dt,(some (B.own st)::zaL)[i]? = some (some (.own l))) :
  ∃ x st',St st'/\x∈l/\zll i (zag zaf (dRO 0 (dR (dC (.int m)) dR0))) (some (.own st)::zaL)=.ok (x,some (.own st')::zaL):=by
 obtain ⟨v,st',e,hs',v0,v1⟩:=zbb (m:=(m:Int)) hs xwo xwo
 have hlt:v.toNat<l.length:=by omega
 refine ⟨l[v.toNat],st',hs',List.getElem_mem _,?_⟩
 unfold zll
 rw[hv]
 simp only
 rw[zfU e rfl]
 simp only[R.bind_ok]
 rw[hv]
 simp only
 rw[zhi v0 xwo,List.getElem?_eq_getElem hlt]
theorem zku{g:List Dt->R (List Dt)}{f:De}{Z Z1:Ev}{d:Dt}{z:List Dt}(h:f Z=.ok (d,Z1))(hg:g [d]=.ok z):zgS g (dA f dA0) Z=.ok (z,Z1):=by
 unfold zgS
 rw[zbA h rfl]
 simp only[R.bind_ok]
 rw[hg]
 rfl
theorem dAz{fa:De}{Z:Ev}{d:Dt}(h:fa Z=.ok (d,Z)):dA fa dA0 Z=.ok ([d],Z):=zbA h rfl
theorem dAc{fa:De}{fr:DA}{Z:Ev}{d:Dt}{ds:List Dt}(h1:fa Z=.ok (d,Z))(h2:fr Z=.ok (ds,Z)):dA fa fr Z=.ok (d::ds,Z):=zbA h1 h2
abbrev bR(n:Nat)(bar da db dc:Dt)(W:List Dt)(k:Int)(Q:List Dt)(at_ num:Int)(o11 o12 o13:Option B):Ev:=[some (.val (.int n)),some (.val bar),some (.val da),some (.val db),some (.val dc),some (.val (.tup W)),some (.val (.int k)),some (.val (.tup Q)),some (.val (.int at_)),some (.val (.int num)),o11,o12,o13]
section
variable{n:Nat}{bar da db dc:Dt}{W Q:List Dt}{k at_ num:Int}{o11 o12 o13:Option B}{st:List Dt}
theorem zvK(hq:Q.length<=20):∃ l:List Dt,l.length=5/\(∀ x∈l,OkW x)/\zbF 11 (zbU (dA (dOp zbm (dOp zbm (zbn (zab 8) dO0 (dO1 (zab 9))) (zb9 (dA (zab 10) dA0))) (zbn (zab 8) (dO1 (dOp zbe (zab 9) (dC (.int 1)))) dO0)) (dA (dOp zbm (zbn (zab 8) dO0 (dO1 (zab 9))) (zbn (zab 8) (dO1 (dOp zbe (zab 9) (dC (.int 1)))) dO0)) (dA (dOp zbm (zab 8) (zbn (zab 8) (dO1 (zjn (dC (.int 2)))) dO0)) (dA (zmW (zab 8)) (dA (zbn (zab 8) dO0 (dO1 (zjn (dC (.int 2))))) dA0)))))) (some (.own st)::bR n bar da db dc W k Q at_ num o11 o12 o13)=.ok (.nx,some (.own st)::bR n bar da db dc W k Q at_ num (some (.own l)) o12 o13):=by
 have c1:=zcE Q none (some at_)
 have c2:=zcE Q (some (at_+1)) none
 have c3:=zcE Q (some (-2)) none
 have c4:=zcE Q none (some (-2))
 refine ⟨[.tup (zcA Q none (some at_)++[.int num]++zcA Q (some (at_+1)) none),.tup (zcA Q none (some at_)++zcA Q (some (at_+1)) none),.tup (Q++zcA Q (some (-2)) none),.tup Q.reverse,.tup (zcA Q none (some (-2)))],rfl,?_,zcl (Z1:=some (.own st)::bR n bar da db dc W k Q at_ num o11 o12 o13) (zbE (dAc ?_ (dAc ?_ (dAc ?_ (dAc (d:=.tup Q.reverse) rfl (dAz (d:=.tup (zcA Q none (some (-2)))) rfl))))) (by simp only[wan,List.length_nil];omega)) xws⟩
 ·intro x hx
  simp only[wap,wak,or_false] at hx
  rcases hx with rfl|rfl|rfl|rfl|rfl <;> refine zeI ?_ <;> (try simp only[wav,wan,List.length_nil,List.length_reverse]) <;> omega
 ·exact zao (zao (d:=.tup (zcA Q none (some at_))) (e:=.tup [.int num]) rfl rfl (zci (by simp only[wan,List.length_nil];omega))) (e:=.tup (zcA Q (some (at_+1)) none)) rfl (zci (by simp only[wav,wan,List.length_nil];omega))
 ·exact zao (d:=.tup (zcA Q none (some at_))) (e:=.tup (zcA Q (some (at_+1)) none)) rfl rfl (zci xwo)
 ·exact zao (d:=.tup Q) (e:=.tup (zcA Q (some (-2)) none)) rfl rfl (zci xwo)
theorem zvm{l:List Dt}(h5:l.length=5)(hl:∀ x∈l,OkW x):∃ l':List Dt,l'.length=6/\(∀ x∈l',OkW x)/\dEx (zft 11 (dFz (zgS zfd (dA (zab 8) dA0)))) (some (.own st)::bR n bar da db dc W k Q at_ num (some (.own l)) o12 o13)=.ok (.nx,some (.own st)::bR n bar da db dc W k Q at_ num (some (.own l')) o12 o13):=by
 refine ⟨l++[.lst Q],by simp[h5],fun x hx=>?_,znL (l0:=l) (l:=l) (d:=.lst Q) (Z1:=some (.own st)::bR n bar da db dc W k Q at_ num (some (.own l)) o12 o13) rfl (zaG (zku (d:=.tup Q) rfl rfl)) rfl xwo⟩
 rcases wax.mp hx with z|z
 ·exact hl x z
 ·rw[List.mem_singleton.mp z];intro m e;cases e
theorem zvB(hq:Q.length<=20){l:List Dt}(h6:l.length=6)(hl:∀ x∈l,OkW x):∃ l':List Dt,l'.length=11/\(∀ x∈l',OkW x)/\zbF 11 (zfG (zfV 11) (dFz (zbU (dA (dOp zbm (dOp zbm (zbn (zab 8) dO0 (dO1 (zab 9))) (dC (.tup [(.bl true)]))) (zbn (zab 8) (dO1 (dOp zbe (zab 9) (dC (.int 1)))) dO0)) (dA (dOp zbm (dOp zbm (dOp zbm (zbn (zab 8) dO0 (dO1 (dC (.int 1)))) (zbn (zab 8) (dO1 (dC (.int 1))) (dO1 (dC (.int 2))))) (zbn (zab 8) dO0 (dO1 (dC (.int 1))))) (zbn (zab 8) (dO1 (dC (.int 1))) dO0)) (dA (zb9 dA0) (dA (dC .non) (dA (zbn (zab 8) dO0 (dO1 (dC (.int 1)))) dA0)))))))) (some (.own st)::bR n bar da db dc W k Q at_ num (some (.own l)) o12 o13)=.ok (.nx,some (.own st)::bR n bar da db dc W k Q at_ num (some (.own l')) o12 o13):=by
 have c1:=zcE Q none (some at_)
 have c2:=zcE Q (some (at_+1)) none
 have c3:=zcE Q none (some 1)
 have c4:=zcE Q (some 1) (some 2)
 have c5:=zcE Q (some 1) none
 let Z1:Ev:=some (.own st)::bR n bar da db dc W k Q at_ num (some (.val (.lst l))) o12 o13
 let m:List Dt:=[.tup (zcA Q none (some at_)++[.bl true]++zcA Q (some (at_+1)) none),.tup (zcA Q none (some 1)++zcA Q (some 1) (some 2)++zcA Q none (some 1)++zcA Q (some 1) none),.tup [],.non,.tup (zcA Q none (some 1))]
 have em:dFz (zbU (dA (dOp zbm (dOp zbm (zbn (zab 8) dO0 (dO1 (zab 9))) (dC (.tup [(.bl true)]))) (zbn (zab 8) (dO1 (dOp zbe (zab 9) (dC (.int 1)))) dO0)) (dA (dOp zbm (dOp zbm (dOp zbm (zbn (zab 8) dO0 (dO1 (dC (.int 1)))) (zbn (zab 8) (dO1 (dC (.int 1))) (dO1 (dC (.int 2))))) (zbn (zab 8) dO0 (dO1 (dC (.int 1))))) (zbn (zab 8) (dO1 (dC (.int 1))) dO0)) (dA (zb9 dA0) (dA (dC .non) (dA (zbn (zab 8) dO0 (dO1 (dC (.int 1)))) dA0)))))) Z1=.ok (.lst m,Z1):=by
  refine zaG (zbE (dAc ?_ (dAc ?_ (dAc (d:=.tup []) (zaU rfl xws) (dAc (d:=.non) rfl (dAz (d:=.tup (zcA Q none (some 1))) rfl))))) (by simp only[m,wan,List.length_nil];omega))
  ·exact zao (zao (d:=.tup (zcA Q none (some at_))) (e:=.tup [.bl true]) rfl rfl (zci (by simp only[wan,List.length_nil];omega))) (e:=.tup (zcA Q (some (at_+1)) none)) rfl (zci (by simp only[wav,wan,List.length_nil];omega))
  ·exact zao (zao (zao (d:=.tup (zcA Q none (some 1))) (e:=.tup (zcA Q (some 1) (some 2))) rfl rfl (zci xwo)) (e:=.tup (zcA Q none (some 1))) rfl (zci (by simp only[wav];omega))) (e:=.tup (zcA Q (some 1) none)) rfl (zci (by simp only[wav];omega))
 refine ⟨l++m,by simp[h6,m],fun x hx=>?_,zcl (Z1:=Z1) (zlx (zkz rfl) em (by simp[h6,m])) (by simp[Z1])⟩
 rcases wax.mp hx with z|z
 ·exact hl x z
 ·simp only[m,wap,wak,or_false] at z
  rcases z with rfl|rfl|rfl|rfl|rfl
  ·refine zeI ?_
   simp only[wav,wan,List.length_nil];omega
  ·refine zeI ?_
   simp only[wav];omega
  ·exact zeI xws
  ·intro m e;cases e
  ·exact zeI xwo
end
theorem zbp{da db dc:Dt}{m:List Dt}(h:∀ x∈m,OkW x):ze3 (.tup [da,db,dc,.tup m]):=fun a b c w1 w2 w3 e=>by
 injection e with e
 injection e with _ e
 injection e with _ e
 injection e with _ e
 injection e with e _
 injection e with e
 subst e
 exact ⟨h _ xws,h _ xws,h _ xws⟩
theorem zdD{d:Dt}(h:∀ a b c w1 w2 w3,d≠.tup [a,b,c,.tup [w1,w2,w3]]):ze3 d:=fun a b c w1 w2 w3 e=>absurd e (h _ _ _ _ _ _)
section
variable{n:Nat}{bar da db dc:Dt}{W Q O:List Dt}{k at_ num:Int}{o11 o12 o13:Option B}{st:List Dt}
theorem odd1(hO:∀ x∈O,OkW x)(hW:∀ x∈W,OkW x):∃ l:List Dt,l.length=5/\(∀ x∈l,ze3 x)/\zbF 13 (zbU (dA (zb9 (dA (zab 3) (dA (zab 4) (dA (zab 5) (dA (zab 12) dA0))))) (dA (zb9 (dA (zab 3) (dA (zab 4) (dA (zab 5) (dA (zab 12) dA0))))) (dA (zb9 (dA (zab 3) (dA (zab 4) (dA (zab 5) (dA (zab 12) dA0))))) (dA (zb9 (dA (zab 3) (dA (zab 5) (dA (zab 4) (dA (zab 6) dA0))))) (dA (zb9 (dA (zab 4) (dA (zab 3) (dA (zab 5) (dA (zab 6) dA0))))) dA0)))))) (some (.own st)::bR n bar da db dc W k Q at_ num o11 (some (.val (.tup O))) o13)=.ok (.nx,some (.own st)::bR n bar da db dc W k Q at_ num o11 (some (.val (.tup O))) (some (.own l))):=by
 let Z:Ev:=some (.own st)::bR n bar da db dc W k Q at_ num o11 (some (.val (.tup O))) o13
 have t4:∀{i j p q:Nat}{x y z u:Dt},zab i Z=.ok (x,Z)->zab j Z=.ok (y,Z)->zab p Z=.ok (z,Z)->zab q Z=.ok (u,Z)->zb9 (dA (zab i) (dA (zab j) (dA (zab p) (dA (zab q) dA0)))) Z=.ok (.tup [x,y,z,u],Z):=fun h1 h2 h3 h4=>zaU (dAc h1 (dAc h2 (dAc h3 (dAz h4)))) xws
 refine ⟨[.tup [da,db,dc,.tup O],.tup [da,db,dc,.tup O],.tup [da,db,dc,.tup O],.tup [da,dc,db,.tup W],.tup [db,da,dc,.tup W]],rfl,?_,zcl (Z1:=Z) (zbE (dAc (t4 rfl rfl rfl rfl) (dAc (t4 rfl rfl rfl rfl) (dAc (t4 rfl rfl rfl rfl) (dAc (t4 rfl rfl rfl rfl) (dAz (t4 rfl rfl rfl rfl)))))) xws) (by simp[Z])⟩
 intro x hx
 simp only[wap,wak,or_false] at hx
 rcases hx with rfl|rfl|rfl|rfl|rfl
 ·exact zbp hO
 ·exact zbp hO
 ·exact zbp hO
 ·exact zbp hW
 ·exact zbp hW
theorem odd2{l:List Dt}(h5:l.length=5)(hl:∀ x∈l,ze3 x)(hW:∀ x∈W,OkW x):∃ l':List Dt,l'.length=6/\(∀ x∈l',ze3 x)/\dEx (zft 13 (zb9 (dA (zab 3) (dA (zab 4) (dA (zab 5) (dA (zbn (zab 6) dO0 (dO1 (dC (.int 2)))) dA0)))))) (some (.own st)::bR n bar da db dc W k Q at_ num o11 o12 (some (.own l)))=.ok (.nx,some (.own st)::bR n bar da db dc W k Q at_ num o11 o12 (some (.own l'))):=by
 let Z:Ev:=some (.own st)::bR n bar da db dc W k Q at_ num o11 o12 (some (.own l))
 refine ⟨l++[.tup [da,db,dc,.tup (zcA W none (some 2))]],by simp[h5],fun x hx=>?_,znL (l0:=l) (l:=l) (Z1:=Z) rfl (zaU (ds:=[da,db,dc,.tup (zcA W none (some 2))]) (dAc rfl (dAc rfl (dAc rfl (dAz rfl)))) xws) rfl xwo⟩
 rcases wax.mp hx with z|z
 ·exact hl x z
 ·rw[List.mem_singleton.mp z];exact zbp fun x hx=>hW x (ziY hx)
theorem odd3{l:List Dt}(h6:l.length=6)(hl:∀ x∈l,ze3 x)(hW:∀ x∈W,OkW x){a:Int}(ha:da=.int a):∃ l':List Dt,l'.length=14/\(∀ x∈l',ze3 x)/\zbF 13 (zfG (zfV 13) (dFz (zbU (dA (zb9 (dA (zab 3) (dA (zab 4) (dA (zab 5) (dA (zmW (zab 6)) dA0))))) (dA (zb9 (dA (zab 3) (dA (zab 4) (dA (zab 5) (dA (dFz (zgS zfd (dA (zab 6) dA0))) dA0))))) (dA (dFz (zbU (dA (zab 3) (dA (zab 4) (dA (zab 5) (dA (zab 6) dA0)))))) (dA (zb9 (dA (zab 3) (dA (zab 4) (dA (zab 5) dA0)))) (dA (zb9 (dA (zab 3) (dA (zab 4) (dA (zab 1) (dA (zab 6) dA0))))) (dA (dC .non) (dA (dC .dct) (dA (zab 3) dA0))))))))))) (some (.own st)::bR n bar da db dc W k Q at_ num o11 o12 (some (.own l)))=.ok (.nx,some (.own st)::bR n bar da db dc W k Q at_ num o11 o12 (some (.own l'))):=by
 let Z:Ev:=some (.own st)::bR n bar da db dc W k Q at_ num o11 o12 (some (.val (.lst l)))
 let m:List Dt:=[.tup [da,db,dc,.tup W.reverse],.tup [da,db,dc,.lst W],.lst [da,db,dc,.tup W],.tup [da,db,dc],.tup [da,db,.int n,.tup W],.non,.dct,da]
 have em:dFz (zbU (dA (zb9 (dA (zab 3) (dA (zab 4) (dA (zab 5) (dA (zmW (zab 6)) dA0))))) (dA (zb9 (dA (zab 3) (dA (zab 4) (dA (zab 5) (dA (dFz (zgS zfd (dA (zab 6) dA0))) dA0))))) (dA (dFz (zbU (dA (zab 3) (dA (zab 4) (dA (zab 5) (dA (zab 6) dA0)))))) (dA (zb9 (dA (zab 3) (dA (zab 4) (dA (zab 5) dA0)))) (dA (zb9 (dA (zab 3) (dA (zab 4) (dA (zab 1) (dA (zab 6) dA0))))) (dA (dC .non) (dA (dC .dct) (dA (zab 3) dA0))))))))) Z=.ok (.lst m,Z):=by
  refine zaG (zbE (dAc (zaU (ds:=[da,db,dc,.tup W.reverse]) (dAc rfl (dAc rfl (dAc rfl (dAz rfl)))) xws) (dAc (zaU (ds:=[da,db,dc,.lst W]) (dAc rfl (dAc rfl (dAc rfl (dAz (zaG (zku (d:=.tup W) rfl rfl)))))) xws) (dAc (zaG (zbE (ds:=[da,db,dc,.tup W]) (dAc rfl (dAc rfl (dAc rfl (dAz rfl)))) xws)) (dAc (zaU (ds:=[da,db,dc]) (dAc rfl (dAc rfl (dAz rfl))) xws) (dAc (zaU (ds:=[da,db,.int n,.tup W]) (dAc rfl (dAc rfl (dAc rfl (dAz rfl)))) xws) (dAc rfl (dAc rfl (dAz rfl)))))))) (by simp[m]))
 refine ⟨l++m,by simp[h6,m],fun x hx=>?_,zcl (Z1:=Z) (zlx (zkz rfl) em (by simp[h6,m])) (by simp[Z])⟩
 rcases wax.mp hx with z|z
 ·exact hl x z
 ·simp only[m,wap,wak,or_false] at z
  rcases z with rfl|rfl|rfl|rfl|rfl|rfl|rfl|rfl
  ·exact zbp fun x hx=>hW x (List.mem_reverse.mp hx)
  ·exact zdD fun a b c w1 w2 w3 e=>by injection e with e;injection e with _ e;injection e with _ e;injection e with _ e;injection e with e _;cases e
  ·exact zdD fun a b c w1 w2 w3 e=>by cases e
  ·exact zdD fun a b c w1 w2 w3 e=>by injection e with e;injection e with _ e;injection e with _ e;injection e with _ e;cases e
  ·exact zbp hW
  ·exact zdD fun a b c w1 w2 w3 e=>by cases e
  ·exact zdD fun a b c w1 w2 w3 e=>by cases e
  ·exact zdD fun a b c w1 w2 w3 e=>by rw[ha] at e;cases e
theorem odd4{l:List Dt}(h14:l.length=14)(hl:∀ x∈l,ze3 x)(hW:∀ x∈W,OkW x)(hWl:W.length=3):∃ l':List Dt,l'.length=18/\(∀ x∈l',ze3 x)/\zbF 13 (zfG (zfV 13) (dFz (zbU (dA (zb9 (dA (zab 3) (dA (zab 4) (dA (zab 5) (dA (dOp zbm (zab 6) (zbn (zab 6) dO0 (dO1 (dC (.int 1))))) dA0))))) (dA (zb9 (dA (dC (.bl false)) (dA (zab 4) (dA (zab 5) (dA (zab 6) dA0))))) (dA (zb9 (dA (zb9 (dA (zab 3) (dA (zab 4) (dA (zab 5) dA0)))) (dA (zab 6) dA0))) (dA (zb9 (dA (zab 3) (dA (zab 3) (dA (zab 5) (dA (zab 6) dA0))))) dA0))))))) (some (.own st)::bR n bar da db dc W k Q at_ num o11 o12 (some (.own l)))=.ok (.nx,some (.own st)::bR n bar da db dc W k Q at_ num o11 o12 (some (.own l'))):=by
 let Z:Ev:=some (.own st)::bR n bar da db dc W k Q at_ num o11 o12 (some (.val (.lst l)))
 have c1:=zcE W none (some 1)
 let m:List Dt:=[.tup [da,db,dc,.tup (W++zcA W none (some 1))],.tup [.bl false,db,dc,.tup W],.tup [.tup [da,db,dc],.tup W],.tup [da,da,dc,.tup W]]
 have em:dFz (zbU (dA (zb9 (dA (zab 3) (dA (zab 4) (dA (zab 5) (dA (dOp zbm (zab 6) (zbn (zab 6) dO0 (dO1 (dC (.int 1))))) dA0))))) (dA (zb9 (dA (dC (.bl false)) (dA (zab 4) (dA (zab 5) (dA (zab 6) dA0))))) (dA (zb9 (dA (zb9 (dA (zab 3) (dA (zab 4) (dA (zab 5) dA0)))) (dA (zab 6) dA0))) (dA (zb9 (dA (zab 3) (dA (zab 3) (dA (zab 5) (dA (zab 6) dA0))))) dA0))))) Z=.ok (.lst m,Z):=by
  refine zaG (zbE (dAc (zaU (ds:=[da,db,dc,.tup (W++zcA W none (some 1))]) (dAc rfl (dAc rfl (dAc rfl (dAz (zao (d:=.tup W) (e:=.tup (zcA W none (some 1))) rfl rfl (zci xwo)))))) xws) (dAc (zaU (ds:=[.bl false,db,dc,.tup W]) (dAc rfl (dAc rfl (dAc rfl (dAz rfl)))) xws) (dAc (zaU (ds:=[.tup [da,db,dc],.tup W]) (dAc (zaU (ds:=[da,db,dc]) (dAc rfl (dAc rfl (dAz rfl))) xws) (dAz rfl)) xws) (dAz (zaU (ds:=[da,da,dc,.tup W]) (dAc rfl (dAc rfl (dAc rfl (dAz rfl)))) xws))))) (by simp[m]))
 refine ⟨l++m,by simp[h14,m],fun x hx=>?_,zcl (Z1:=Z) (zlx (zkz rfl) em (by simp[h14,m])) (by simp[Z])⟩
 rcases wax.mp hx with z|z
 ·exact hl x z
 ·simp only[m,wap,wak,or_false] at z
  rcases z with rfl|rfl|rfl|rfl
  ·exact zbp fun x hx=>by
    rcases wax.mp hx with z|z
    ·exact hW x z
    ·exact hW x (ziY z)
  ·exact zbp hW
  ·exact zdD fun a b c w1 w2 w3 e=>by injection e with e;injection e with _ e;injection e with _ e;cases e
  ·exact zbp hW
end
theorem zjC{n:Nat}{d:Dt}(hd:Br d){st:List Dt}(hs:St st):∃ x st',St st'/\ze3 x/\zaR [.own st,.val (.int n),.val d]=.ok (x,[.own st',.val .non,.val .non]):=by
 obtain ⟨a,b,c,u,v,w,rfl,hu,hv,hw⟩:=hd
 let W:List Dt:=[tz u,tz v,tz w]
 have hW:∀ x∈W,OkW x:=by
  intro x hx
  simp only[W,wap,wak,or_false] at hx
  rcases hx with rfl|rfl|rfl <;> refine zeI ?_ <;> rw[List.length_map] <;> omega
 obtain ⟨k,st1,e1,hs1,k0,k1⟩:=zbb (m:=3) hs xwo xwo
 obtain ⟨q,hq0,hq1,hq⟩ : ∃ q:List Int,q≠[]/\q.length<=20/\W[k.toNat]? = some (tz q):=by
  have:k=0\/k=1\/k=2:=by omega
  rcases this with rfl|rfl|rfl
  ·exact ⟨u,hu.1,hu.2,rfl⟩
  ·exact ⟨v,hv.1,hv.2,rfl⟩
  ·exact ⟨w,hw.1,hw.2,rfl⟩
 have hqp:0<q.length:=List.length_pos_iff.mpr hq0
 obtain ⟨at_,st2,e2,hs2,a0,a1⟩:=zbb (m:=(q.length:Int)) hs1 xwo xwo
 obtain ⟨num,st3,e3,hs3,_,_⟩:=zbb (m:=9) hs2 xwo xwo
 let bar:Dt:=brD a b c u v w
 let R:Option B->Option B->Option B->Option B->Ev:=fun o7 o8 o9 o10=>[some (.val (.int n)),some (.val bar),some (.val (.int a)),some (.val (.int b)),some (.val (.int c)),some (.val (.tup W)),o7,o8,o9,o10,none,none,none]
 let A0:Ev:=[some (.own st),some (.val (.int n)),some (.val bar),none,none,none,none,none,none,none,none,none,none,none]
 suffices h:∃ x st' r,St st'/\ze3 x/\zfg A0=.ok (.rt x,some (.own st')::some (.val (.int n))::some (.val bar)::r) by
  obtain ⟨x,st',r,hs',hx,e⟩:=h
  exact ⟨x,st',hs',hx,zav rfl e rfl⟩
 unfold zfg
 rw[zal (Z1:=some (.own st)::R none none none none) (show zrA (zab 2) (zmF [3,4,5,6]) A0=_ from rfl)]
 rw[zal (Z1:=some (.own st1)::R (some (.val (.int k))) none none none) (zaO (d:=.int k) (Z1:=some (.own st1)::R none none none none) (zfU e1 rfl) (by simp[R]))]
 rw[zal (Z1:=some (.own st1)::R (some (.val (.int k))) (some (.val (tz q))) none none) (zaO (d:=tz q) (Z1:=some (.own st1)::R (some (.val (.int k))) none none none) (zao (d:=.tup W) (e:=.int k) rfl rfl (zdn k0 (by show k<((3:Nat):Int);omega) hq)) (by simp[R]))]
 rw[zal (Z1:=some (.own st2)::R (some (.val (.int k))) (some (.val (tz q))) (some (.val (.int at_))) none) (zaO (d:=.int at_) (Z1:=some (.own st2)::R (some (.val (.int k))) (some (.val (tz q))) none none) (zfU e2 (zbl (d:=tz q) rfl (by simp[tz,zbz]))) (by simp[R]))]
 rw[zal (Z1:=some (.own st3)::bR n bar (.int a) (.int b) (.int c) W k (q.map .int) at_ num none none none) (zaO (d:=.int num) (Z1:=some (.own st3)::R (some (.val (.int k))) (some (.val (tz q))) (some (.val (.int at_))) none) (zfU e3 rfl) (by simp[R]))]
 have hQ:(q.map Dt.int).length<=20:=by rw[List.length_map];exact hq1
 obtain ⟨l1,n1,g1,s1⟩:=zvK (n:=n) (bar:=bar) (da:=.int a) (db:=.int b) (dc:=.int c) (W:=W) (Q:=q.map .int) (k:=k) (at_:=at_) (num:=num) (o11:=none) (o12:=none) (o13:=none) (st:=st3) hQ
 rw[zal s1]
 obtain ⟨l2,n2,g2,s2⟩:=zvm (n:=n) (bar:=bar) (da:=.int a) (db:=.int b) (dc:=.int c) (W:=W) (Q:=q.map .int) (k:=k) (at_:=at_) (num:=num) (o12:=none) (o13:=none) (st:=st3) n1 g1
 rw[zal s2]
 obtain ⟨l3,n3,g3,s3⟩:=zvB (n:=n) (bar:=bar) (da:=.int a) (db:=.int b) (dc:=.int c) (W:=W) (Q:=q.map .int) (k:=k) (at_:=at_) (num:=num) (o12:=none) (o13:=none) (st:=st3) hQ n2 g2
 rw[zal s3]
 obtain ⟨x,st4,hs4,hx,ex⟩:=zuN (zaL:=bR n bar (.int a) (.int b) (.int c) W k (q.map .int) at_ num (some (.own l3)) none none) (i:=11) hs3 n3 xwo xwo (fun _=>rfl)
 have c1:=zcE W none (some k)
 have c2:=zcE W (some (k+1)) none
 have hWl:W.length=3:=rfl
 let O:List Dt:=zcA W none (some k)++[x]++zcA W (some (k+1)) none
 have hO:∀ y∈O,OkW y:=by
  intro y hy
  rcases wax.mp hy with z|z
  ·rcases wax.mp z with z|z
   ·exact hW y (ziY z)
   ·rw[List.mem_singleton.mp z];exact g3 x hx
  ·exact hW y (ziY z)
 rw[zal (Z1:=some (.own st4)::bR n bar (.int a) (.int b) (.int c) W k (q.map .int) at_ num (some (.own l3)) (some (.val (.tup O))) none) (zaO (d:=.tup O) (Z1:=some (.own st4)::bR n bar (.int a) (.int b) (.int c) W k (q.map .int) at_ num (some (.own l3)) none none)
  (zao (zao (d:=.tup (zcA W none (some k))) (e:=.tup [x]) rfl (zaU (zbA ex rfl) xws) (zci (by simp only[wan,List.length_nil];omega))) (e:=.tup (zcA W (some (k+1)) none)) rfl (zci (by simp only[wav,wan,List.length_nil];omega))) xws)]
 obtain ⟨m1,p1,f1,t1⟩:=odd1 (n:=n) (bar:=bar) (da:=.int a) (db:=.int b) (dc:=.int c) (W:=W) (Q:=q.map .int) (O:=O) (k:=k) (at_:=at_) (num:=num) (o11:=some (.own l3)) (o13:=none) (st:=st4) hO hW
 rw[zal t1]
 obtain ⟨m2,p2,f2,t2⟩:=odd2 (n:=n) (bar:=bar) (da:=.int a) (db:=.int b) (dc:=.int c) (W:=W) (Q:=q.map .int) (k:=k) (at_:=at_) (num:=num) (o11:=some (.own l3)) (o12:=some (.val (.tup O))) (st:=st4) p1 f1 hW
 rw[zal t2]
 obtain ⟨m3,p3,f3,t3⟩:=odd3 (n:=n) (bar:=bar) (da:=.int a) (db:=.int b) (dc:=.int c) (W:=W) (Q:=q.map .int) (k:=k) (at_:=at_) (num:=num) (o11:=some (.own l3)) (o12:=some (.val (.tup O))) (st:=st4) p2 f2 hW rfl
 rw[zal t3]
 obtain ⟨m4,p4,f4,t4⟩:=odd4 (n:=n) (bar:=bar) (da:=.int a) (db:=.int b) (dc:=.int c) (W:=W) (Q:=q.map .int) (k:=k) (at_:=at_) (num:=num) (o11:=some (.own l3)) (o12:=some (.val (.tup O))) (st:=st4) p3 f3 hW hWl
 rw[zal t4]
 obtain ⟨y,st5,hs5,hy,ey⟩:=zuN (zaL:=bR n bar (.int a) (.int b) (.int c) W k (q.map .int) at_ num (some (.own l3)) (some (.val (.tup O))) (some (.own m4))) (i:=13) hs4 p4 xwo xwo (fun _=>rfl)
 exact ⟨y,st5,_,hs5,f4 y hy,zbi ey⟩
def fsD(fs:List (Int×List Int)):List (Int×Dt):=fs.map fun p=>(p.1,tz p.2)
theorem zfx:∀{fs:List (Int×List Int)}{k:Int},k∉fs.map (·.1)->zhH (fsD fs) k=none
 |[],_,_=>rfl
 |p::fs,k,h=>by
  rw[List.map_cons,List.mem_cons,not_or] at h
  show (if p.1=k then some (tz p.2) else zhH (fsD fs) k)=none
  rw[if_neg (fun z=>h.1 z.symm)]
  exact zfx h.2
theorem zfs:∀{fs:List (Int×List Int)}{k:Int},k∈fs.map (·.1)->∃ w,(k,w)∈fs/\zhH (fsD fs) k=some (tz w)
 |[],_,h=>by simp at h
 |p::fs,k,h=>by
  by_cases e:p.1=k
  ·refine ⟨p.2,by rw[<- e];simp,?_⟩
   show (if p.1=k then some (tz p.2) else zhH (fsD fs) k)=_
   rw[if_pos e]
  ·rw[List.map_cons,List.mem_cons] at h
   obtain ⟨w,h1,h2⟩:=zfs (h.resolve_left fun z=>e z.symm)
   refine ⟨w,wah _ h1,?_⟩
   show (if p.1=k then some (tz p.2) else zhH (fsD fs) k)=_
   rw[if_neg e];exact h2
theorem zqt{fs:List (Int×List Int)}{k:Int}{w:List Int}(h:k∉fs.map (·.1)):ztj (fsD fs) k (tz w)=fsD (fs++[(k,w)]):=by
 unfold ztj
 rw[zfx h]
 simp[fsD]
structure Fo(n:Nat)(fs:List (Int×List Int)):Prop where
 nd:(fs.map (·.1)).Nodup
 rg:∀ k:Int,k∈fs.map (·.1)->0<=k/\k<(n:Int)
 ws:∀ p∈fs,p.2≠[]/\p.2.length+1<=2 * fs.length
theorem zpA{n:Nat}{l:List Int}(h:l.Nodup)(hr:∀ x∈l,0<=x/\x<n):l.length<=n:=by
 have hsp:=zcN l
 have hlt:(zfv l).Pairwise (· < ·):=List.Pairwise.imp₂ (fun a b hab hne=>by omega) (zfp l) (hsp.nodup_iff.mpr h)
 have:=zlh (lo:=0) (n:=(n:Int)) hlt fun x hx=>hr x (hsp.mem_iff.mp hx)
 rw[hsp.length_eq] at this
 omega
theorem Fo.le{n:Nat}{fs:List (Int×List Int)}(F:Fo n fs):fs.length<=n:=by
 have:=zpA F.nd F.rg
 simpa using this
theorem Fo.add{n:Nat}{fs:List (Int×List Int)}(F:Fo n fs){k:Int}{w:List Int}(hk:k∉fs.map (·.1))(hr:0<=k/\k<n)(hw:w≠[]/\w.length+1<=2 * (fs.length+1)):Fo n (fs++[(k,w)]):=by
 refine ⟨?_,fun x hx=>?_,fun p hp=>?_⟩
 ·rw[List.map_append,List.nodup_append]
  refine ⟨F.nd,xws,fun x hx y hy=>?_⟩
  simp at hy
  subst hy
  intro z;subst z;exact hk hx
 ·rw[List.map_append,List.mem_append] at hx
  rcases hx with z|z
  ·exact F.rg x z
  ·simp at z;subst z;exact hr
 ·rw[List.length_append,List.length_singleton]
  rcases wax.mp hp with z|z
  ·obtain ⟨a,b⟩:=F.ws p z
   exact ⟨a,xwo⟩
  ·rw[List.mem_singleton.mp z];exact hw
abbrev wA(ps:List (List Int))(one ot tq:Int)(fs:List (Int×List Int))(zs:List Int)(o6 o7 o8 o9:Option B):Ev:=[some (.val (pd ps)),some (.val (.int one)),some (.val (.int ot)),some (.val (.int tq)),some (.dic (fsD fs)),some (.own (zs.map .int)),o6,o7,o8,o9]
abbrev zew:DS:=dIf (zfI (zur false 4 (zab 9)) (dTB (zag zeU (dR (zab 8) (dR (zab 6) (dR (zab 9) (dR (zab 3) dR0))))))) (zaF (zmy 4 (zab 9) (dOp zbm (zlk 4 (zab 6)) (zb9 (dA (zab 7) (dA (zab 9) dA0))))) (dEx (zft 5 (zab 9)))) dNx
def Lk(n:Nat)(ps:List (List Int))(one ot tq guest:Int)(c:Nat)(fs:List (Int×List Int))(zs:List Int):Prop:=Fo n fs/\guest∈fs.map (·.1)/\(∀ z∈zs,z∈fs.map (·.1))/\c+zs.length=fs.length
theorem zoF{n:Nat}{ps:List (List Int)}(h7:n<=7){one ot tq guest:Int}{c:Nat}{fs:List (Int×List Int)}{zs:List Int}{num:Int}{q:List Int}(hq:Pty n q){m:Int}(hm:m∈q)(h:Lk n ps one ot tq guest c fs zs) :
  ∃ fs' zs',Lk n ps one ot tq guest c fs' zs'/\zew (wA ps one ot tq fs zs (some (.val (.int guest))) (some (.val (.int num))) (some (.val (tz q))) (some (.val (.int m))))=.ok (.nx,wA ps one ot tq fs' zs' (some (.val (.int guest))) (some (.val (.int num))) (some (.val (tz q))) (some (.val (.int m)))):=by
 obtain ⟨F,hg,hz,hc⟩:=h
 let Z:Ev:=wA ps one ot tq fs zs (some (.val (.int guest))) (some (.val (.int num))) (some (.val (tz q))) (some (.val (.int m)))
 have t1:zur false 4 (zab 9) Z=.ok (false == (zhH (fsD fs) m).isSome,Z):=rfl
 have t2:dTB (zag zeU (dR (zab 8) (dR (zab 6) (dR (zab 9) (dR (zab 3) dR0))))) Z=.ok (decide (guest∈q) && (decide (m∈q) && decide (tq∉q)),Z):=zaz (zeJ (xs:=[tz q,.int guest,.int m,.int tq]) (za3 rfl (za3 rfl (za3 rfl (za3 rfl zbY)))) (zig _ _ _ _))
 by_cases hin:m∈fs.map (·.1)
 ·obtain ⟨w,_,e⟩:=zfs hin
  rw[e] at t1
  exact ⟨fs,zs,⟨F,hg,hz,hc⟩,by show dIf _ _ _ Z=_;rw[zch (zkU t1)];rfl⟩
 ·rw[zfx hin] at t1
  by_cases hl:(decide (guest∈q) && (decide (m∈q) && decide (tq∉q)))=true
  ·rw[hl] at t2
   obtain ⟨w,hw,eg⟩:=zfs hg
   obtain ⟨w0,w1⟩:=F.ws _ hw
   dsimp only at w0 w1
   have hle:=F.le
   have F':=F.add hin (hq.2.2 m hm) (w:=w++[num,m]) ⟨xws,by simp;omega⟩
   let Z2:Ev:=wA ps one ot tq (fs++[(m,w++[num,m])]) zs (some (.val (.int guest))) (some (.val (.int num))) (some (.val (tz q))) (some (.val (.int m)))
   have e1:zlk 4 (zab 6) Z=.ok (tz w,Z):=by
    show (match zhH (fsD fs) guest with|some d=>R.ok (d,Z)|none=>.no)=_
    rw[eg]
   have e2:dOp zbm (zlk 4 (zab 6)) (zb9 (dA (zab 7) (dA (zab 9) dA0))) Z=.ok (tz (w++[num,m]),Z):=zao e1 (zaU (ds:=[.int num,.int m]) (dAc rfl (dAz rfl)) xws) (zpP w (num,m) xwo)
   have e3:zmy 4 (zab 9) (dOp zbm (zlk 4 (zab 6)) (zb9 (dA (zab 7) (dA (zab 9) dA0)))) Z=.ok (.nx,Z2):=by
    unfold zmy
    rw[e2]
    show (if (fsD fs).length<16777216 then R.ok (Fl.nx,Z.set 4 (some (.dic (ztj (fsD fs) m (tz (w++[num,m])))))) else .no)=_
    rw[if_pos (by simp[fsD];omega),zqt hin]
    rfl
   refine ⟨fs++[(m,w++[num,m])],zs++[m],⟨F',by rw[List.map_append];exact List.mem_append_left _ hg,fun z hz'=>?_,by simp;omega⟩,?_⟩
   ·rw[List.map_append]
    rcases wax.mp hz' with y|y
    ·exact List.mem_append_left _ (hz z y)
    ·rw[List.mem_singleton.mp y];simp
   ·show dIf _ _ _ Z=_
    rw[zb2 ((zgs t1).trans t2),zal e3,znL (i:=5) (l0:=zs.map .int) (l:=zs.map .int) (d:=.int m) (Z1:=Z2) rfl rfl rfl (by rw[List.length_map];omega)]
    simp[Z2,wA]
  ·rw[Bool.not_eq_true] at hl
   rw[hl] at t2
   exact ⟨fs,zs,⟨F,hg,hz,hc⟩,by show dIf _ _ _ Z=_;rw[zch ((zgs t1).trans t2)];rfl⟩
theorem zmx{n:Nat}{ps:List (List Int)}(h7:n<=7){one ot tq guest:Int}{c:Nat}{fs:List (Int×List Int)}{zs:List Int}{num:Int}{q:List Int}(hq:Pty n q)(h:Lk n ps one ot tq guest c fs zs){o9:Option B} :
  ∃ fs' zs' o9',Lk n ps one ot tq guest c fs' zs'/\ze4 (dIt (zab 8)) (zaM 9) zew (wA ps one ot tq fs zs (some (.val (.int guest))) (some (.val (.int num))) (some (.val (tz q))) o9)=.ok (.nx,wA ps one ot tq fs' zs' (some (.val (.int guest))) (some (.val (.int num))) (some (.val (tz q))) o9'):=by
 let I:Nat->Ev->Prop:=fun _ Z=>∃ fs zs o9,Lk n ps one ot tq guest c fs zs/\Z=wA ps one ot tq fs zs (some (.val (.int guest))) (some (.val (.int num))) (some (.val (tz q))) o9
 obtain ⟨Z',e,fs',zs',o9',hL,rfl⟩:=zh8 (g:=zaM 9) (body:=zew) (I:=I) (q.map .int) (wA ps one ot tq fs zs (some (.val (.int guest))) (some (.val (.int num))) (some (.val (tz q))) o9) (fun k d hd Z ⟨fs,zs,o9,hL,e⟩=>by
  subst e
  obtain ⟨m,hm,rfl⟩:=List.mem_map.mp hd
  obtain ⟨fs',zs',hL',e'⟩:=zoF (num:=num) h7 hq hm hL
  exact ⟨_,_,by simp[zaM,wA],e',fs',zs',_,hL',rfl⟩) ⟨fs,zs,o9,h,rfl⟩
 exact ⟨fs',zs',o9',hL,(zde rfl).trans e⟩
theorem zjx{n:Nat}{ps:List (List Int)}(h7:n<=7)(hp:zgv n ps){one ot tq guest:Int}{c:Nat}{fs:List (Int×List Int)}{zs:List Int}(h:Lk n ps one ot tq guest c fs zs){o7 o8 o9:Option B} :
  ∃ fs' zs' o7' o8' o9',Lk n ps one ot tq guest c fs' zs'/\ze4 (zoX (zab 0)) (zeh 7 8) (ze4 (dIt (zab 8)) (zaM 9) zew) (wA ps one ot tq fs zs (some (.val (.int guest))) o7 o8 o9)=.ok (.nx,wA ps one ot tq fs' zs' (some (.val (.int guest))) o7' o8' o9'):=by
 let I:Nat->Ev->Prop:=fun _ Z=>∃ fs zs o7 o8 o9,Lk n ps one ot tq guest c fs zs/\Z=wA ps one ot tq fs zs (some (.val (.int guest))) o7 o8 o9
 obtain ⟨Z',e,fs',zs',o7',o8',o9',hL,rfl⟩:=zh8 (g:=zeh 7 8) (body:=ze4 (dIt (zab 8)) (zaM 9) zew) (I:=I) (zf8 (lp ps)) (wA ps one ot tq fs zs (some (.val (.int guest))) o7 o8 o9) (fun k d hd Z ⟨fs,zs,o7,o8,o9,hL,e⟩=>by
  subst e
  unfold lp at hd
  rw[zpF] at hd
  obtain ⟨z,hz,rfl⟩:=List.mem_map.mp hd
  have hq:z.2∈ps:=(List.of_mem_zip hz).2
  obtain ⟨fs',zs',o9',hL',e'⟩:=zmx (num:=(z.1:Nat)) (o9:=o9) h7 (hp _ hq) hL
  exact ⟨_,_,by simp[zeh,wA],e',fs',zs',_,_,o9',hL',rfl⟩) ⟨fs,zs,o7,o8,o9,h,rfl⟩
 exact ⟨fs',zs',o7',o8',o9',hL,(zde rfl).trans e⟩
abbrev zru:DS:=zaF (zb1 6 (zf6 5 (dC (.int 0)))) (ze4 (zoX (zab 0)) (zeh 7 8) (ze4 (dIt (zab 8)) (zaM 9) zew))
theorem zie{n:Nat}{ps:List (List Int)}(h7:n<=7)(hp:zgv n ps){one ot tq:Int}:∀(f c:Nat)(fs:List (Int×List Int))(zs:List Int)(o6 o7 o8 o9:Option B),Fo n fs->(∀ z∈zs,z∈fs.map (·.1))->c+zs.length=fs.length->8<=f+c ->
  ∃ fs' o6' o7' o8' o9',Fo n fs'/\zcI (dTB (dOp gGt (zdS 5) (dC (.int 0)))) zru f (wA ps one ot tq fs zs o6 o7 o8 o9)=.ok (.nx,wA ps one ot tq fs' [] o6' o7' o8' o9')
 |0,c,fs,zs,o6,o7,o8,o9,F,_,hc,hf=>by have:=F.le;omega
 |f+1,c,fs,[],o6,o7,o8,o9,F,_,hc,hf=>by
  refine ⟨fs,o6,o7,o8,o9,F,?_⟩
  unfold zcI
  rw[show dTB (dOp gGt (zdS 5) (dC (.int 0))) (wA ps one ot tq fs [] o6 o7 o8 o9)=.ok (false,wA ps one ot tq fs [] o6 o7 o8 o9) from rfl]
  rfl
 |f+1,c,fs,z::zs,o6,o7,o8,o9,F,hz,hc,hf=>by
  have t:dTB (dOp gGt (zdS 5) (dC (.int 0))) (wA ps one ot tq fs (z::zs) o6 o7 o8 o9)=.ok (true,wA ps one ot tq fs (z::zs) o6 o7 o8 o9):=by
   refine zaz (zao (d:=.int (((z::zs).map Dt.int).length:Nat)) (e:=.int 0) rfl rfl ?_)
   show R.ok (Dt.bl (decide ((((z::zs).map Dt.int).length:Int) > 0)))=_
   rw[decide_eq_true (by rw[List.length_map,List.length_cons];omega)]
  have hpop:zb1 6 (zf6 5 (dC (.int 0))) (wA ps one ot tq fs (z::zs) o6 o7 o8 o9)=.ok (.nx,wA ps one ot tq fs zs (some (.val (.int z))) o7 o8 o9):=by
   refine zaO (d:=.int z) (Z1:=wA ps one ot tq fs zs o6 o7 o8 o9) ?_ xws
   show (match zkB ((z::zs).map Dt.int) 0 with|some y=>R.ok (y.1,(wA ps one ot tq fs (z::zs) o6 o7 o8 o9).set 5 (some (.own y.2)))|none=>.no)=_
   have:zkB ((z::zs).map Dt.int) 0=some (.int z,zs.map .int):=by
    unfold zkB
    rw[if_pos (by rfl),zkC xwo (by rw[List.length_map,List.length_cons];omega)]
    rfl
   rw[this]
   rfl
  obtain ⟨fs1,zs1,p7,p8,p9,⟨F1,g1,z1,c1⟩,e1⟩:=zjx (one:=one) (ot:=ot) (tq:=tq) (guest:=z) (c:=c+1) (fs:=fs) (zs:=zs) (o7:=o7) (o8:=o8) (o9:=o9) h7 hp ⟨F,hz z wau,fun y hy=>hz y (wah _ hy),by rw[List.length_cons] at hc;omega⟩
  obtain ⟨fs',o6',o7',o8',o9',F',e'⟩:=zie (one:=one) (ot:=ot) (tq:=tq) h7 hp f (c+1) fs1 zs1 (some (.val (.int z))) p7 p8 p9 F1 z1 c1 xwo
  refine ⟨fs',o6',o7',o8',o9',F',?_⟩
  unfold zcI
  rw[t]
  simp only[R.bind_ok,if_true]
  rw[show zru (wA ps one ot tq fs (z::zs) o6 o7 o8 o9)=.ok (.nx,wA ps one ot tq fs1 zs1 (some (.val (.int z))) p7 p8 p9) from by show zaF _ _ _=_;rw[zal hpop];exact e1]
  exact e'
def NW(d:Dt):Prop:=d=.non\/∃ w:List Int,d=tz w/\w≠[]/\w.length<=20
theorem zk9{n:Nat}{ps:List (List Int)}(h7:n<=7)(hp:zgv n ps){one ot tq:Int}(h1:0<=one/\one<n) :
  ∃ d,NW d/\zcw [.val (pd ps),.val (.int one),.val (.int ot),.val (.int tq)]=.ok (d,[.val .non,.val .non,.val .non,.val .non]):=by
 have F0:Fo n [(one,[one])]:=⟨xws,by simp;omega,xws⟩
 obtain ⟨fs,o6,o7,o8,o9,F,e⟩:=zie (ps:=ps) (one:=one) (ot:=ot) (tq:=tq) h7 hp 10 0 [(one,[one])] [one] none none none none F0 xws rfl xwo
 have hg:NW ((zhH (fsD fs) ot).getD .non):=by
  by_cases h:ot∈fs.map (·.1)
  ·obtain ⟨w,hw,eg⟩:=zfs h
   rw[eg]
   obtain ⟨a,b⟩:=F.ws _ hw
   dsimp only at a b
   have:=F.le
   exact .inr ⟨w,rfl,a,xwo⟩
  ·rw[zfx h];exact .inl rfl
 refine ⟨_,hg,zav (Z':=wA ps one ot tq fs [] o6 o7 o8 o9) rfl ?_ rfl⟩
 let A:Option B->Option B->Ev:=fun o4 o5=>[some (.val (pd ps)),some (.val (.int one)),some (.val (.int ot)),some (.val (.int tq)),o4,o5,none,none,none,none]
 show zeR (A none none)=_
 unfold zeR
 have e0:zoB 4 (zab 1) (zb9 (dA (zab 1) dA0)) (A none none)=.ok (.nx,A (some (.dic (fsD [(one,[one])]))) none):=by
  unfold zoB
  rw[show zab 1 (A none none)=.ok (.int one,A none none) from rfl]
  simp only[R.bind_ok]
  rw[zaU (ds:=[.int one]) (dAz rfl) xws]
  rfl
 rw[zal e0]
 rw[zal (Z1:=wA ps one ot tq [(one,[one])] [one] none none none none) (zcl (Z1:=A (some (.dic (fsD [(one,[one])]))) none) (zbE (ds:=[.int one]) (dAz rfl) xws) (by simp[A]))]
 rw[zal e]
 exact zbi rfl
theorem zkk(w:List Int)(k:Nat):okN (k+1) (tz w)=true:=by
 simp[tz,okN,zgE]
theorem zoE{d:Dt}(h:NW d):okN 59 d=true:=by
 rcases h with rfl|⟨w,rfl,_⟩
 ·rfl
 ·exact zkk w 58
def NB(d:Dt):Prop:=d=.non\/Br d
theorem zrV{n:Nat}{ps:List (List Int)}(h7:n<=7)(hp:zgv n ps){a b c:Int}(ha:0<=a/\a<n)(hb:0<=b/\b<n):∃ d,NB d/\zcs [.val (pd ps),.val (.int a),.val (.int b),.val (.int c)]=.ok (d,[.val .non,.val .non,.val .non,.val .non]):=by
 obtain ⟨x1,n1,e1⟩:=zk9 (ps:=ps) (ot:=b) (tq:=c) h7 hp ha
 obtain ⟨x2,n2,e2⟩:=zk9 (ps:=ps) (ot:=c) (tq:=b) h7 hp ha
 obtain ⟨x3,n3,e3⟩:=zk9 (ps:=ps) (ot:=c) (tq:=a) h7 hp hb
 let A:Option B->Ev:=fun o=>[some (.val (pd ps)),some (.val (.int a)),some (.val (.int b)),some (.val (.int c)),o]
 let T:List ((Int×Int×Int)×Dt):=[((a,b,c),x1),((a,c,b),x2),((b,c,a),x3)]
 have hC:za0 (dIt (zag zht (dR (zab 1) (dR (zab 2) (dR (zab 3) dR0))))) (zaM 5) dTT (zag zcw (dR (zab 0) (dR (dOp gIx (zab 5) (dC (.int 0))) (dR (dOp gIx (zab 5) (dC (.int 1))) (dR (dOp gIx (zab 5) (dC (.int 2))) dR0))))) 1 (A none)=.ok (T.map (·.2),A none):=by
  refine zbB (l:=T) (u:=fun t=>.tup [.int t.1.1,.int t.1.2.1,.int t.1.2.2]) (f:=fun t=>t.2) (ds:=[.tup [.int a,.int b,.int c],.tup [.int a,.int c,.int b],.tup [.int b,.int c,.int a]]) ?_ rfl (by simp[T]) (fun t ht=>?_) rfl
  ·unfold dIt
   rw[zeJ (xs:=[.int a,.int b,.int c]) (Z1:=A none) (za3 rfl (za3 rfl (za3 rfl zbY))) (zjD _ _ _)]
   rfl
  ·have hF:zcw [.val (pd ps),.val (.int t.1.1),.val (.int t.1.2.1),.val (.int t.1.2.2)]=.ok (t.2,[.val .non,.val .non,.val .non,.val .non]):=by
    simp only[T,wap,wak,or_false] at ht
    rcases ht with rfl|rfl|rfl
    ·exact e1
    ·exact e2
    ·exact e3
   exact zeJ (xs:=[pd ps,.int t.1.1,.int t.1.2.1,.int t.1.2.2]) (za3 rfl (za3 rfl (za3 rfl (za3 rfl zbY)))) hF
 let A1:Ev:=A (some (.val (.lst [x1,x2,x3])))
 have eS:zb1 4 (dFz (za0 (dIt (zag zht (dR (zab 1) (dR (zab 2) (dR (zab 3) dR0))))) (zaM 5) dTT (zag zcw (dR (zab 0) (dR (dOp gIx (zab 5) (dC (.int 0))) (dR (dOp gIx (zab 5) (dC (.int 1))) (dR (dOp gIx (zab 5) (dC (.int 2))) dR0))))) 1)) (A none)=.ok (.nx,A1):=zaO (Z1:=A none) (zaG hC) (by simp[A])
 have hall:[x1,x2,x3].all (okN 60)=true:=by
  simp[znQ (zoE n1) (show 59<=60 by omega),znQ (zoE n2) (show 59<=60 by omega),znQ (zoE n3) (show 59<=60 by omega)]
 have tI:dTB (dOp (gIn false) (dC .non) (zab 4)) A1=.ok (inD .non [x1,x2,x3],A1):=by
  refine zaz (zao (d:=.non) (e:=.lst [x1,x2,x3]) rfl rfl ?_)
  unfold gIn
  simp only[hall]
  simp[okN]
 by_cases hn:inD .non [x1,x2,x3]=true
 ·rw[hn] at tI
  refine ⟨.non,.inl rfl,zav (Z':=A1) rfl ?_ rfl⟩
  show zd1 (A none)=_
  unfold zd1
  rw[zal eS]
  refine zbi ?_
  unfold zuQ
  rw[tI]
  rfl
 ·rw[Bool.not_eq_true] at hn
  rw[hn] at tI
  have nn:x1≠.non/\x2≠.non/\x3≠.non:=by
   unfold inD at hn
   refine ⟨?_,?_,?_⟩ <;> rintro rfl <;> simp[eqD] at hn
  obtain ⟨u,rfl,u0,u1⟩:=n1.resolve_left nn.1
  obtain ⟨v,rfl,v0,v1⟩:=n2.resolve_left nn.2.1
  obtain ⟨w,rfl,w0,w1⟩:=n3.resolve_left nn.2.2
  refine ⟨brD a b c u v w,.inr ⟨a,b,c,u,v,w,rfl,⟨u0,u1⟩,⟨v0,v1⟩,⟨w0,w1⟩⟩,zav (Z':=A1) rfl ?_ rfl⟩
  show zd1 (A none)=_
  unfold zd1
  rw[zal eS]
  refine zbi ?_
  unfold zuQ
  rw[tI]
  show zb9 (dA (zab 1) (dA (zab 2) (dA (zab 3) (dA (dFn zdu (dA (zab 4) dA0)) dA0)))) A1=_
  exact zaU (ds:=[.int a,.int b,.int c,.tup [tz u,tz v,tz w]]) (dAc rfl (dAc rfl (dAc rfl (dAz (zbl (d:=.lst [tz u,tz v,tz w]) rfl rfl))))) xws
def brL(d:Dt):Int:=match d with
 |.tup [_,_,_,.tup [.tup u,.tup v,.tup w]]=>(u.length:Int)+((v.length:Int)+(w.length:Int))
 |_=>0
theorem zqj{d:Dt}(h:Br d):zcP [.val d]=.ok (.int (brL d),[.val .non]):=by
 obtain ⟨a,b,c,u,v,w,rfl,hu,hv,hw⟩:=h
 let Z:Ev:=[some (.val (brD a b c u v w))]
 refine zav (Z':=Z) rfl ?_ rfl
 show zeQ Z=_
 unfold zeQ
 have hC:za0 (dIt (dOp gIx (zab 0) (dC (.int 3)))) (zaM 1) dTT (dFn zbz (dA (zab 1) dA0)) 1 Z=.ok ([u,v,w].map fun q=>.int (q.length:Int),Z):=by
  refine zbB (l:=[u,v,w]) (u:=tz) (f:=fun q=>.int (q.length:Int)) (ds:=[tz u,tz v,tz w]) rfl rfl xws (fun q hq=>?_) rfl
  exact zbl (d:=tz q) rfl (by simp[tz,zbz])
 refine zbi (zbl (zaG hC) ?_)
 have e:([u,v,w].map fun q=>Dt.int (q.length:Int))=([(u.length:Int),(v.length:Int),(w.length:Int)]).map Dt.int:=rfl
 rw[e]
 show (match zfk (([(u.length:Int),(v.length:Int),(w.length:Int)]).map Dt.int) with|some ns=>if zgy ns=true then R.ok (Dt.int ns.sum) else .no|_=>.no)=_
 rw[zhf]
 simp only
 have hs:zgy [(u.length:Int),(v.length:Int),(w.length:Int)]=true:=by
  unfold zgy
  simp only[wan,List.length_nil,List.all_cons,List.all_nil,Bool.and_true,wae,war]
  omega
 rw[if_pos hs]
 congr 2
 simp[brL,brD,tz,List.sum_cons]
theorem ltI(a b:Int)(k:Nat):ltD k (.int a) (.int b)=some (decide (a<b)):=by cases k <;> rfl
theorem zf5{f:Dt->Dt->Option Bool}:∀{xs ys:List Dt},(∀ x∈xs,okN 60 x=true)->(∀ y∈ys,okN 60 y=true)->(∀(i:Nat)(x y:Dt),xs[i]? = some x->ys[i]? = some y->∃ b,f x y=some b)->∃ b,ltL f xs ys=some b
 |[],[],_,_,_=>⟨false,rfl⟩
 |[],_::_,_,_,_=>⟨true,rfl⟩
 |_::_,[],_,_,_=>⟨false,rfl⟩
 |x::xs,y::ys,h1,h2,h=>by
  unfold ltL
  rw[if_pos (by rw[h1 x List.mem_cons_self,h2 y List.mem_cons_self];rfl)]
  split
  ·exact zf5 (fun z hz=>h1 z (wah _ hz)) (fun z hz=>h2 z (wah _ hz)) fun i x y e1 e2=>h (i+1) x y (by simpa using e1) (by simpa using e2)
  ·exact h 0 x y rfl rfl
theorem zvA(u v:List Int)(k:Nat):∃ b,ltD (k+1) (tz u) (tz v)=some b:=by
 show ∃ b,ltL (ltD k) (u.map .int) (v.map .int)=some b
 refine zf5 (fun x hx=>?_) (fun x hx=>?_) fun i x y e1 e2=>?_
 ·obtain ⟨a,_,rfl⟩:=List.mem_map.mp hx;rfl
 ·obtain ⟨a,_,rfl⟩:=List.mem_map.mp hx;rfl
 ·obtain ⟨a,_,rfl⟩:=List.mem_map.mp (List.mem_of_getElem? e1)
  obtain ⟨b,_,rfl⟩:=List.mem_map.mp (List.mem_of_getElem? e2)
  exact ⟨_,ltI a b k⟩
theorem zrF{u v w u' v' w':List Int}(k:Nat):∃ b,ltD (k+2) (.tup [tz u,tz v,tz w]) (.tup [tz u',tz v',tz w'])=some b:=by
 show ∃ b,ltL (ltD (k+1)) [tz u,tz v,tz w] [tz u',tz v',tz w']=some b
 refine zf5 (fun x hx=>?_) (fun x hx=>?_) fun i x y e1 e2=>?_
 ·simp only[wap,wak,or_false] at hx
  rcases hx with rfl|rfl|rfl <;> exact zkk _ 59
 ·simp only[wap,wak,or_false] at hx
  rcases hx with rfl|rfl|rfl <;> exact zkk _ 59
 ·have hx:=List.mem_of_getElem? e1
  have hy:=List.mem_of_getElem? e2
  simp only[wap,wak,or_false] at hx hy
  rcases hx with rfl|rfl|rfl <;> rcases hy with rfl|rfl|rfl <;> exact zvA _ _ k
theorem zrf(a b c:Int)(u v w:List Int):okN 60 (brD a b c u v w)=true:=by
 show ([Dt.int a,.int b,.int c,.tup [tz u,tz v,tz w]].all (okN 59))=true
 simp[okN,zkk _ 57]
theorem zvx{a b c a' b' c':Int}{u v w u' v' w':List Int}(k:Nat):∃ x,ltD (k+3) (brD a b c u v w) (brD a' b' c' u' v' w')=some x:=by
 show ∃ x,ltL (ltD (k+2)) [Dt.int a,.int b,.int c,.tup [tz u,tz v,tz w]] [Dt.int a',.int b',.int c',.tup [tz u',tz v',tz w']]=some x
 have okw:∀ u v w,okN 60 (.tup [tz u,tz v,tz w])=true:=fun u v w=>by
  show ([tz u,tz v,tz w].all (okN 59))=true
  simp[zkk _ 58]
 refine zf5 (fun x hx=>?_) (fun x hx=>?_) fun i x y e1 e2=>?_
 ·simp only[wap,wak,or_false] at hx
  rcases hx with rfl|rfl|rfl|rfl <;> first|rfl|exact okw _ _ _
 ·simp only[wap,wak,or_false] at hx
  rcases hx with rfl|rfl|rfl|rfl <;> first|rfl|exact okw _ _ _
 ·match i,e1,e2 with
  |0,e1,e2=>cases e1;cases e2;exact ⟨_,ltI _ _ _⟩
  |1,e1,e2=>cases e1;cases e2;exact ⟨_,ltI _ _ _⟩
  |2,e1,e2=>cases e1;cases e2;exact ⟨_,ltI _ _ _⟩
  |3,e1,e2=>cases e1;cases e2;exact zrF k
  |i+4,e1,e2=>simp at e1
def zti(d:Dt):Dt:=.tup [.int (brL d),d]
theorem ztI{d e:Dt}(hd:Br d)(he:Br e):∃ x,ltD 8 (zti d) (zti e)=some x:=by
 show ∃ x,ltL (ltD 7) [.int (brL d),d] [.int (brL e),e]=some x
 obtain ⟨a,b,c,u,v,w,rfl,_⟩:=hd
 obtain ⟨a',b',c',u',v',w',rfl,_⟩:=he
 refine zf5 (fun x hx=>?_) (fun x hx=>?_) fun i x y e1 e2=>?_
 ·simp only[wap,wak,or_false] at hx
  rcases hx with rfl|rfl
  ·rfl
  ·exact zrf ..
 ·simp only[wap,wak,or_false] at hx
  rcases hx with rfl|rfl
  ·rfl
  ·exact zrf ..
 ·match i,e1,e2 with
  |0,e1,e2=>cases e1;cases e2;exact ⟨_,ltI _ _ _⟩
  |1,e1,e2=>cases e1;cases e2;exact zvx 4
  |i+2,e1,e2=>simp at e1
theorem ziu:∀(ds:List Dt)(d:Dt),Br d->(∀ e∈ds,Br e)->∃ r,zjP (zti d,d) (ds.map fun e=>(zti e,e))=some r/\Br r
 |[],d,h,_=>⟨d,rfl,h⟩
 |e::ds,d,h,hs=>by
  obtain ⟨x,hx⟩:=ztI (hs e wau) h
  rw[List.map_cons]
  unfold zjP
  simp only
  rw[hx]
  cases x with
  |true=>exact ziu ds e (hs e wau) fun y hy=>hs y (wah _ hy)
  |false=>exact ziu ds d h fun y hy=>hs y (wah _ hy)
theorem zlH:∀(ds:List Dt),(∀ e∈ds,Br e)->zgc (zb9 (dA (zag zcP (dR (zab 0) dR0)) (dA (zab 0) dA0))) ds=some (ds.map fun e=>(zti e,e))
 |[],_=>rfl
 |d::ds,h=>by
  unfold zgc
  rw[zaU (ds:=[.int (brL d),d]) (Z1:=[some (.val d)]) (dAc (zeJ (xs:=[d]) (za3 rfl zbY) (zqj (h d wau))) (dAz rfl)) xws]
  simp only
  rw[zlH ds fun e he=>h e (List.mem_cons_of_mem _ he)]
  rfl
theorem zp7(ds:List Dt)(h:∀ e∈ds,Br e):∃ r,zmn .non (ds.map fun e=>(zti e,e))=some r/\NB r:=by
 cases ds with
 |nil=>exact ⟨.non,rfl,.inl rfl⟩
 |cons d ds =>
  obtain ⟨r,e,hr⟩:=ziu ds d (h d wau) fun y hy=>h y (wah _ hy)
  exact ⟨r,e,.inr hr⟩
def bpF(ps:List (List Int))(a b c:Int):Dt:=match zcs [.val (pd ps),.val (.int a),.val (.int b),.val (.int c)] with
 |.ok z=>z.1
 |_=>.non
theorem zlS{n:Nat}{ps:List (List Int)}(h7:n<=7)(hp:zgv n ps){a b c:Int}(ha:0<=a/\a<n)(hb:0<=b/\b<n):NB (bpF ps a b c)/\zcs [.val (pd ps),.val (.int a),.val (.int b),.val (.int c)]=.ok (bpF ps a b c,[.val .non,.val .non,.val .non,.val .non]):=by
 obtain ⟨d,h,e⟩:=zrV (c:=c) h7 hp ha hb
 have:bpF ps a b c=d:=by unfold bpF;rw[e]
 rw[this]
 exact ⟨h,e⟩
theorem zjY{i:Nat}{fa:De}{Z Z1:Ev}{l0 l m:List Dt}(h0:Z[i]? = some (some (.own l0)))(h1:fa Z=.ok (.lst m,Z1))(h2:Z1[i]? = some (some (.own l)))(hl:l.length+m.length<=1000):dEx (zmp i fa) Z=.ok (.nx,Z1.set i (some (.own (l++m)))):=by
 refine zhw (d:=.non) ?_
 unfold zmp
 rw[h0]
 simp only
 rw[h1]
 simp only[R.bind_ok]
 rw[h2]
 simp only[zr7]
 rw[if_pos xwo]
abbrev lbA(n:Nat)(ps:List (List Int))(l:List Dt)(o4 o5:Option B):Ev:=[some (.val (.int n)),some (.val (pd ps)),some (.tab zgJ),some (.own l),o4,o5]
abbrev zuP:DS:=dEx (zmp 3 (dFz (za0 (zbt (zab 5)) (zaM 6) dTT (zag zcs (dR (zab 1) (dR (zab 6) (dR (zab 5) (dR (zab 4) dR0))))) 1)))
theorem zq0{n:Nat}{ps:List (List Int)}(h7:n<=7)(hp:zgv n ps){l:List Dt}(hl:∀ x∈l,NB x)(hn:l.length<=500){c b:Nat}(hb:b<n):∃ l',(∀ x∈l',NB x)/\l'.length<=l.length+7/\zuP (lbA n ps l (some (.val (.int c))) (some (.val (.int b))))=.ok (.nx,lbA n ps l' (some (.val (.int c))) (some (.val (.int b)))):=by
 let Z:Ev:=lbA n ps l (some (.val (.int c))) (some (.val (.int b)))
 have hC:za0 (zbt (zab 5)) (zaM 6) dTT (zag zcs (dR (zab 1) (dR (zab 6) (dR (zab 5) (dR (zab 4) dR0))))) 1 Z=.ok ((List.range b).map fun a=>bpF ps (0+(a:Nat)) b c,Z):=by
  refine zbB (l:=List.range b) (u:=fun a=>.int (0+(a:Nat))) (f:=fun a=>bpF ps (0+(a:Nat)) b c) (ds:=za7 0 b) (zdG rfl xwo) rfl (by rw[List.length_range];omega) (fun a ha=>?_) rfl
  have ha':=List.mem_range.mp ha
  exact zeJ (xs:=[pd ps,.int (0+(a:Nat)),.int b,.int c]) (za3 rfl (za3 rfl (za3 rfl (za3 rfl zbY)))) (zlS h7 hp xwo xwo).2
 refine ⟨l++(List.range b).map fun a=>bpF ps (0+(a:Nat)) b c,fun x hx=>?_,by rw[List.length_append,List.length_map,List.length_range];omega,zjY (i:=3) (l0:=l) (l:=l) (Z1:=Z) rfl (zaG hC) rfl (by rw[List.length_map,List.length_range];omega)⟩
 rcases wax.mp hx with z|z
 ·exact hl x z
 ·obtain ⟨a,ha,rfl⟩:=List.mem_map.mp z
  have ha':=List.mem_range.mp ha
  exact (zlS h7 hp xwo xwo).1
theorem zms{n:Nat}{ps:List (List Int)}(h7:n<=7)(hp:zgv n ps){kc:Nat}{l:List Dt}(hl:∀ x∈l,NB x)(hn:l.length+49 * (kc+1)<=343){c:Nat}(hc:c<n){o5:Option B}:∃ l' o5',(∀ x∈l',NB x)/\l'.length+49 * kc<=343/\ze4 (zbt (zab 4)) (zaM 5) zuP (lbA n ps l (some (.val (.int c))) o5)=.ok (.nx,lbA n ps l' (some (.val (.int c))) o5'):=by
 let I:Nat->Ev->Prop:=fun k Z=>∃ l o5,(∀ x∈l,NB x)/\l.length+7 * k+49 * kc<=343/\Z=lbA n ps l (some (.val (.int c))) o5
 obtain ⟨Z',e,l',o5',h1,h2,rfl⟩:=zh8 (g:=zaM 5) (body:=zuP) (I:=I) (za7 0 c) (lbA n ps l (some (.val (.int c))) o5) (fun k d hd Z ⟨l,o5,h1,h2,e⟩=>by
  subst e
  unfold za7 at hd
  obtain ⟨b,hb,rfl⟩:=List.mem_map.mp hd
  have hb':=List.mem_range.mp hb
  obtain ⟨l',g1,g2,g3⟩:=zq0 (n:=n) (ps:=ps) (c:=c) (b:=b) h7 hp h1 xwo xwo
  refine ⟨lbA n ps l (some (.val (.int c))) (some (.val (.int b))),_,?_,g3,l',_,g1,xwo,rfl⟩
  rw[show (0:Int)+(b:Nat)=(b:Nat) by omega]
  simp[zaM]) ⟨l,o5,hl,by simp[za7];omega,rfl⟩
 exact ⟨l',o5',h1,xwo,(zde (zdG rfl xwo)).trans e⟩
theorem znC{fi:DA}{g:DG}{ft:DT}{fe:De}{m:Nat}{Z Z1:Ev}{l:List Dt}(h:fi Z=.ok (l,Z1)):za0 fi g ft fe m Z=za0 (fun Z=>.ok (l,Z)) g ft fe m Z1:=by
 unfold za0;rw[h]
theorem zrK{n:Nat}{ps:List (List Int)}(h1:1<=n)(h7:n<=7)(hp:zgv n ps)(hps:ps.length<=8):∃ d,NB d/\zcy [.val (.int n),.val (pd ps),.tab zgJ]=.ok (d,[.val .non,.val .non,.tab zgJ]):=by
 let A0:Option B->Ev:=fun o=>[some (.val (.int n)),some (.val (pd ps)),some (.tab zgJ),o,none,none]
 let I:Nat->Ev->Prop:=fun k Z=>∃ l o4 o5,(∀ x∈l,NB x)/\l.length+49 * k<=343/\Z=lbA n ps l o4 o5
 obtain ⟨Z',e,l,o4,o5,hl,hn,rfl⟩:=zh8 (g:=zaM 4) (body:=ze4 (zbt (zab 4)) (zaM 5) zuP) (I:=I) (za7 0 n) (lbA n ps [] none none) (fun k d hd Z ⟨l,o4,o5,g1,g2,e⟩=>by
  subst e
  unfold za7 at hd
  obtain ⟨c,hc,rfl⟩:=List.mem_map.mp hd
  have hc':=List.mem_range.mp hc
  obtain ⟨l',o5',k1,k2,k3⟩:=zms (n:=n) (ps:=ps) (kc:=k) (c:=c) (o5:=o5) h7 hp g1 xwo hc'
  refine ⟨lbA n ps l (some (.val (.int c))) o5,_,?_,k3,l',_,o5',k1,k2,rfl⟩
  rw[show (0:Int)+(c:Nat)=(c:Nat) by omega]
  simp[zaM]) ⟨[],none,none,xws,by simp[za7];omega,rfl⟩
 have hL:l.length<=343:=by omega
 let F:List Dt:=l.filter fun d=>!zit d
 have hF:∀ x∈F,Br x:=fun x hx=>by
  rw[List.mem_filter] at hx
  rcases hl x hx.1 with rfl|h
  ·simp[zit] at hx
  ·exact h
 obtain ⟨r,er,hr⟩:=zp7 F hF
 let Z1:Ev:=[some (.val (.int n)),some (.val (pd ps)),some (.tab zgJ),some (.val (.lst l)),o4,o5]
 have hC:za0 (dIt (zfV 3)) (zaM 6) (zq5 false (zab 6)) (zab 6) 1 (lbA n ps l o4 o5)=.ok (F,Z1):=by
  rw[znC (l:=l) (Z1:=Z1) rfl]
  have:=zdg (p:=fun d=>!zit d) (f:=id) (ft:=zq5 false (zab 6)) (fe:=zab 6) (Z0:=Z1) (l:=l) (fi:=fun Z=>.ok (l,Z)) (j:=6) rfl rfl xwo (fun d hd=>by
   show R.ok (false == zit d,Z1++[some (.val d)])=_
   cases zit d <;> rfl) (fun d hd _=>rfl)
  rw[this,List.map_id]
 let Z2:Ev:=[some (.val (.int n)),some (.val (pd ps)),some (.tab zgJ),some (.val (.lst F)),o4,o5]
 refine ⟨r,hr,zav (Z':=Z2) rfl ?_ rfl⟩
 show zfe (A0 none)=_
 unfold zfe
 rw[zal (Z1:=A0 none) (zhw (zeJ (xs:=[.int n,pd ps]) (za3 rfl (za3 rfl zbY)) (zoL h1 h7 hp hps)))]
 rw[zal (Z1:=lbA n ps [] none none) (zcl (Z1:=A0 none) (zbE rfl xws) (by simp[A0]))]
 rw[zal ((zde (zdG rfl xwo)).trans e)]
 rw[zal (Z1:=lbA n ps F o4 o5) (zcl (Z1:=Z1) hC (by simp[Z1]))]
 refine zbi ?_
 unfold zp8
 rw[show zfV 3 (lbA n ps F o4 o5)=.ok (.lst F,Z2) from rfl]
 show (if zgJ=zgJ then match zgc (zb9 (dA (zag zcP (dR (zab 0) dR0)) (dA (zab 0) dA0))) F with|some kd=>(match zmn .non kd with|some r=>R.ok (r,Z2)|none=>.no)|none=>.no else .no)=_
 rw[if_pos rfl,zlH F hF]
 simp only
 rw[er]
abbrev zke:DS:=(zaF (zb1 9 (zag zbP (dR (zab 3) (dR (zab 4) (dR (zab 8) dR0))))) (dIf (zdW (zaP (dTB (zcZ "bool" (zab 9)))) (dTB (dOp (gEq true) (zab 9) (zag zcn (dR (zab 3) (dR (zab 4) (dR (zab 8) dR0))))))) (zbN (dC (.bl false))) dNx))
abbrev zuw:DS:=(ze4 (dIt (zab 5)) (zaM 7) (ze4 (dIt (dFz (zbU (dA (zab 7) (dA (zag zaR (dRO 2 (dR (zab 3) (dR (zab 7) dR0)))) (dA (zag zaR (dRO 2 (dR (zab 3) (dR (zab 7) dR0)))) dA0)))))) (zaM 8) zke))
def outer:DS:=(zaF (zbF 2 (zg0 zc9 (dR (zab 0) (dR (zab 1) dR0)))) (zaF (zb1 3 (dOp zbe (dC (.int 3)) (zag zaf (dRO 2 (dR (dC (.int 5)) dR0))))) (zaF (zb1 4 (zag zbX (dRO 2 (dR (zab 3) (dR (dC (.int 8)) dR0))))) (zaF (zb1 5 (dFz (za0 (zbt (dC (.int 3))) (zaM 13) dTT (zag zbJ (dRO 2 (dR (zab 3) (dR (zab 4) dR0)))) 1))) (zaF (zb1 6 (zag zcy (dRT 11 (dR (zab 3) (dR (dFz (zgS zfd (dA (zab 4) dA0))) dR0))))) (zaF (dIf (zq5 false (zab 6)) (zb1 5 (dFz (zfG (zab 5) (dFz (zbU (dA (zab 6) (dA (zab 6) dA0))))))) dNx) (zaF zuw (zaF (zb1 10 (dOp gIx (dC (.lst [(.int 0),(.int 8),(.bl true),.non])) (zag zaf (dRO 2 (dR (dC (.int 4)) dR0))))) (zaF (dIf (dTB (dOp (gEq true) (dFz (zp6 12 zcS (zag zbP (dR (zab 10) (dR (dC .non) (dR (dC .non) dR0)))))) (dC (.lst [(.int 0)])))) (zbN (dC (.bl false))) dNx) (dIf (dTB (dOp (gEq true) (dFz (zp6 12 zcS (zag zbP (dR (zab 3) (dR (dFn zdu (dA (zab 4) dA0)) (dR (dC .non) dR0)))))) (dC (.lst [(.int 1)])))) (zbN (dC (.bl false))) dNx))))))))))
theorem zsi:zlj=(zaF (ze4 (zbt (dFn ziz (dA (dC (.int 1)) (dA (dFn zjd (dA (dFn zbz (dA (zab 0) dA0)) (dA (dC (.int 5)) dA0))) dA0)))) (zaM 1) outer) (zbN (dC (.bl true)))):=rfl
def Bad(d:Dt):Prop:=isW d=false\/∃ n,d=.int n/\(n<1\/7<n)
theorem zpM{d t:Dt}(h:Bad d):zaS [.val d,.val t]=.er 0:=by
 unfold zaS zaq
 rw[if_pos (show zbx [.val d,.val t]=[false,false] from rfl)]
 show (zbf [some (.val d),some (.val t)]).bind _=_
 unfold zbf dIf zaP dTB
 rw[zqU (Z':=[some (.val d),some (.val t)]) (Z'':=[some (.val d),some (.val t)]) rfl rfl (zja h)]
 rfl
theorem zqy{n:Nat}{l:List Dt}(h1:1<=n)(h7:n<=7):zaS [.val (.int n),.val (.tup l)]=.er 1:=by
 unfold zaS zaq
 rw[if_pos (show zbx [.val (.int n),.val (.tup l)]=[false,false] from rfl)]
 show (zbf [some (.val (.int n)),some (.val (.tup l))]).bind _=_
 unfold zbf
 rw[zb2 (zaW (zaz (zhP (Z':=[some (.val (.int n)),some (.val (.tup l))]) (Z'':=[some (.val (.int n)),some (.val (.tup l))]) rfl rfl (ze9 h1 h7 (.tup l) trivial))))]
 rfl
theorem zr5{fE:De}{Z:Ev}{n:Nat}{z:Int}(hz:z=n)(h8:Z[12]? = some (some (.tab zcS)))(h:fE (zcB Z)=.er n)(hn:n<8):dIf (dTB (dOp (gEq true) (dFz (zp6 12 zcS fE)) (dC (.lst [(.int z)])))) (zbN (dC (.bl false))) dNx Z=.ok (.nx,Z):=by
 subst hz
 have hr:zp6 12 zcS fE Z=.ok ([.int n],Z):=by
  unfold zp6
  rw[h8]
  simp only[if_true]
  rw[h]
  simp only[hn,if_true]
 have:dTB (dOp (gEq true) (dFz (zp6 12 zcS fE)) (dC (.lst [(.int n)]))) Z=.ok (false,Z):=by
  refine zaz (zao (zaG hr) (e:=.lst [.int n]) rfl ?_)
  rw[zg9 rfl rfl]
  rw[show eqD (.lst [.int n]) (.lst [.int n])=true by rw[eqD,zlY,zlY,eqD];simp]
  rfl
 rw[zch this]
 rfl
def zq7:List Dt:=[(.int 0),(.int 8),(.bl true),.non]
theorem zqw:∀ d∈zq7,Bad d:=by
 intro d hd
 simp only[zq7,wap,wak,or_false] at hd
 rcases hd with rfl|rfl|rfl|rfl
 ·exact .inr ⟨0,rfl,xwo⟩
 ·exact .inr ⟨8,rfl,xwo⟩
 ·exact .inl rfl
 ·exact .inl rfl
theorem zlJ{d t:Dt}{n:Nat}(h:zaS [.val d,.val t]=.er n):zbP [.val d,.val t,.val .non]=.er n:=by
 unfold zbP zaq
 rw[if_pos (show zbx [.val d,.val t,.val .non]=[false,false,false] from rfl)]
 show (zfm [some (.val d),some (.val t),some (.val .non),none]).bind _=_
 unfold zfm zaF dEx
 rw[ziU (xs:=[d,t]) (Z1:=[some (.val d),some (.val t),some (.val .non),none]) (za3 rfl (za3 rfl zbY)) h]
 rfl
theorem zvJ{F:FD}{fr:DAr}{Z Z1:Ev}{xs:List Dt}{j:Nat}{q:Str}{y:Dt}{l:List B}(h:fr Z=.ok (xs.map Arg.d,Z1))(hj:Z1[j]? = some (some (.tab q)))(hF:F (xs.map B.val++[.tab q])=.ok (y,l))(hl:l[xs.length]? = some (.tab q)):zag F (dRT j fr) Z=.ok (y,Z1):=by
 have pf:∀{xs:List Dt}{i k:Nat},zbD i k (xs.map Arg.d++[.s j])=if j=i then some (k+xs.length) else none:=by
  intro xs
  induction xs with
  |nil=>intro i k;show (if j=i then some k else zbD i (k+1) [])=_;split <;> rfl
  |cons x xs ih =>
   intro i k
   show zbD i (k+1) (xs.map Arg.d++[.s j])=_
   rw[ih,List.length_cons]
   split
   ·congr 1;omega
   ·rfl
 have uf:∀{as:List PV.Arg}{xs:List Dt}{k:Nat},zaV as k (xs.map Arg.d++[.s j])=(zco as j == some (k+xs.length)):=by
  intro as xs
  induction xs with
  |nil=>intro k;show ((zco as j == some k) && true)=_;simp
  |cons x xs ih =>
   intro k
   show zaV as (k+1) (xs.map Arg.d++[.s j])=_
   rw[ih,List.length_cons,show k+1+xs.length=k+(xs.length+1) by omega]
 have rs:∀{xs:List Dt},zay Z1 (xs.map Arg.d++[.s j])=.ok (xs.map B.val++[.tab q]):=by
  intro xs
  induction xs with
  |nil =>
   show (match Z1[j]? with|some (some b)=>if zjm b=true then (R.ok []).bind fun bs=>.ok (b::bs) else .no|_=>.no)=_
   rw[hj];rfl
  |cons x xs ih =>
   show (zay Z1 (xs.map Arg.d++[.s j])).bind _=_
   rw[ih];rfl
 unfold zag dRT
 rw[h]
 simp only[R.bind_ok]
 have hu:zhE (xs.map Arg.d++[.s j])=true:=by
  unfold zhE
  rw[uf]
  unfold zco
  rw[pf]
  simp
 rw[if_pos hu,rs]
 simp only[R.bind_ok]
 rw[hF]
 simp only[R.bind_ok]
 have:ze5 (xs.map Arg.d++[.s j]) l 0 Z1 = Z1:=by
  apply List.ext_getElem?
  intro i
  rw[ziC]
  unfold zco
  rw[pf,Nat.zero_add]
  cases e:Z1[i]? with
  |none=>rfl
  |some o =>
   simp only[Option.map_some,Option.some.injEq]
   split
   ·rename_i k hk
    split at hk
    ·rename_i hji
     subst hji
     cases hk
     rw[Nat.zero_add,hl]
     rw[hj] at e;cases e;rfl
    ·cases hk
   ·rfl
 rw[this]
theorem zlM{g:DG}{fe:De}{A:List Dt->Option B->Ev}{P:Dt->Prop}:∀(ds st:List Dt)(o:Option B),St st->(∀ d∈ds,∀ st o,St st->∃ y st',St st'/\P y/\g d (A st o)=.ok (A st (some (.val d)))/\fe (A st (some (.val d)))=.ok (y,A st' (some (.val d)))) ->
  ∃ ys st' o',St st'/\(∀ y∈ys,P y)/\ys.length=ds.length/\zb0 g dTT fe ds (A st o)=.ok (ys,A st' o')
 |[],st,o,hs,_=>⟨[],st,o,hs,xws,rfl,rfl⟩
 |d::ds,st,o,hs,h=>by
  obtain ⟨y,st1,hs1,hy,e1,e2⟩:=h d wau st o hs
  obtain ⟨ys,st',o',hs',hys,hl,e⟩:=zlM ds st1 (some (.val d)) hs1 fun x hx=>h x (wah _ hx)
  refine ⟨y::ys,st',o',hs',fun z hz=>?_,by simp[hl],?_⟩
  ·rcases wap.mp hz with rfl|hz'
   ·exact hy
   ·exact hys z hz'
  ·unfold zb0
   rw[e1]
   simp only[R.bind_ok]
   unfold dTT
   simp only[R.bind_ok,if_true]
   rw[e2]
   simp only[R.bind_ok]
   have e':zb0 g (fun Z=>R.ok (true,Z)) fe ds (A st1 (some (.val d)))=.ok (ys,A st' o'):=e
   rw[e']
   rfl
abbrev EV(S K:Option B)(st:List Dt)(n:Nat)(ps:List (List Int))(o5 o6 o7 o8 o9 o10:Option B):Ev:=[S,K,some (.own st),some (.val (.int n)),some (.val (pd ps)),o5,o6,o7,o8,o9,o10,some (.tab zgJ),some (.tab zcS)]
theorem zqR{d:Dt}(h:Br d):ze3 d:=by
 obtain ⟨a,b,c,u,v,w,rfl,hu,hv,hw⟩:=h
 refine zbp fun x hx=>?_
 simp only[wap,wak,or_false] at hx
 rcases hx with rfl|rfl|rfl <;> refine zeI ?_ <;> rw[List.length_map] <;> omega
section
variable{S K:Option B}{n:Nat}{ps:List (List Int)}
theorem znf(h1:1<=n)(h7:n<=7)(hp:zgv n ps)(hps:ps.length<=8){st:List Dt}{o5 o6 o7 o9 o10:Option B}{d:Dt}(hd:ze3 d):∃ o9',zke (EV S K st n ps o5 o6 o7 (some (.val d)) o9 o10)=.ok (.nx,EV S K st n ps o5 o6 o7 (some (.val d)) o9' o10):=by
 let Z1:Ev:=EV S K st n ps o5 o6 o7 (some (.val d)) (some (.val (.bl (zgR n ps d)))) o10
 have e1:zb1 9 (zag zbP (dR (zab 3) (dR (zab 4) (dR (zab 8) dR0)))) (EV S K st n ps o5 o6 o7 (some (.val d)) o9 o10)=.ok (.nx,Z1) :=
  zaO (d:=.bl (zgR n ps d)) (Z1:=EV S K st n ps o5 o6 o7 (some (.val d)) o9 o10) (zeJ (xs:=[.int n,pd ps,d]) (za3 rfl (za3 rfl (za3 rfl zbY))) (zmq h1 h7 hp hps hd)) xws
 have t1:zaP (dTB (zcZ "bool" (zab 9))) Z1=.ok (false,Z1):=by
  refine zaW (b:=true) (zaz ?_)
  simp[Z1,zcZ,zab,zjk,tyD]
 have t2:dTB (dOp (gEq true) (zab 9) (zag zcn (dR (zab 3) (dR (zab 4) (dR (zab 8) dR0))))) Z1=.ok (false,Z1):=by
  refine zaz (zao (d:=.bl (zgR n ps d)) (e:=.bl (zgR n ps d)) rfl (zeJ (xs:=[.int n,pd ps,d]) (za3 rfl (za3 rfl (za3 rfl zbY))) (zn1 h1 h7 hp hps hd)) ?_)
  rw[zg9 rfl rfl,eqD]
  simp
 refine ⟨some (.val (.bl (zgR n ps d))),?_⟩
 show zaF _ _ _=_
 rw[zal e1,zch ((zaZ t1).trans t2)]
 rfl
theorem zqf(h1:1<=n)(h7:n<=7)(hp:zgv n ps)(hps:ps.length<=8){st:List Dt}(hs:St st){o5 o6 o8 o9 o10:Option B}{d:Dt}(hd:Br d):∃ st' o8' o9',St st'/\ze4 (dIt (dFz (zbU (dA (zab 7) (dA (zag zaR (dRO 2 (dR (zab 3) (dR (zab 7) dR0)))) (dA (zag zaR (dRO 2 (dR (zab 3) (dR (zab 7) dR0)))) dA0)))))) (zaM 8) zke (EV S K st n ps o5 o6 (some (.val d)) o8 o9 o10)=.ok (.nx,EV S K st' n ps o5 o6 (some (.val d)) o8' o9' o10):=by
 obtain ⟨x,st1,hs1,hx,e1⟩:=zjC (n:=n) hd hs
 obtain ⟨y,st2,hs2,hy,e2⟩:=zjC (n:=n) hd hs1
 have c1:zag zaR (dRO 2 (dR (zab 3) (dR (zab 7) dR0))) (EV S K st n ps o5 o6 (some (.val d)) o8 o9 o10)=.ok (x,EV S K st1 n ps o5 o6 (some (.val d)) o8 o9 o10):=zlw (Z:=EV S K st n ps o5 o6 (some (.val d)) o8 o9 o10) rfl rfl rfl e1
 have c2:zag zaR (dRO 2 (dR (zab 3) (dR (zab 7) dR0))) (EV S K st1 n ps o5 o6 (some (.val d)) o8 o9 o10)=.ok (y,EV S K st2 n ps o5 o6 (some (.val d)) o8 o9 o10):=zlw (Z:=EV S K st1 n ps o5 o6 (some (.val d)) o8 o9 o10) rfl rfl rfl e2
 have ei:dIt (dFz (zbU (dA (zab 7) (dA (zag zaR (dRO 2 (dR (zab 3) (dR (zab 7) dR0)))) (dA (zag zaR (dRO 2 (dR (zab 3) (dR (zab 7) dR0)))) dA0))))) (EV S K st n ps o5 o6 (some (.val d)) o8 o9 o10)=.ok ([d,x,y],EV S K st2 n ps o5 o6 (some (.val d)) o8 o9 o10):=by
  unfold dIt
  rw[zaG (zbE (ds:=[d,x,y]) (zbA rfl (zbA c1 (zbA c2 rfl))) xws)]
  rfl
 let I:Nat->Ev->Prop:=fun _ Z=>∃ o8 o9,Z=EV S K st2 n ps o5 o6 (some (.val d)) o8 o9 o10
 obtain ⟨Z',e,o8',o9',rfl⟩:=zh8 (g:=zaM 8) (body:=zke) (I:=I) [d,x,y] (EV S K st2 n ps o5 o6 (some (.val d)) o8 o9 o10) (fun k t ht Z ⟨o8,o9,e⟩=>by
  subst e
  have ht':ze3 t:=by
   simp only[wap,wak,or_false] at ht
   rcases ht with rfl|rfl|rfl
   ·exact zqR hd
   ·exact hx
   ·exact hy
  obtain ⟨o9',e9⟩:=znf (S:=S) (K:=K) (st:=st2) (o5:=o5) (o6:=o6) (o7:=some (.val d)) (o9:=o9) (o10:=o10) h1 h7 hp hps ht'
  exact ⟨_,_,by simp[zaM],e9,_,o9',rfl⟩) ⟨o8,o9,rfl⟩
 exact ⟨st2,o8',o9',hs2,(zde ei).trans e⟩
theorem zpf(h1:1<=n)(h7:n<=7)(hp:zgv n ps)(hps:ps.length<=8){st:List Dt}(hs:St st){bs:List Dt}(hb:∀ d∈bs,Br d){o6 o7 o8 o9 o10:Option B}:∃ st' o7' o8' o9',St st'/\zuw (EV S K st n ps (some (.val (.lst bs))) o6 o7 o8 o9 o10)=.ok (.nx,EV S K st' n ps (some (.val (.lst bs))) o6 o7' o8' o9' o10):=by
 let I:Nat->Ev->Prop:=fun _ Z=>∃ st o7 o8 o9,St st/\Z=EV S K st n ps (some (.val (.lst bs))) o6 o7 o8 o9 o10
 obtain ⟨Z',e,st',o7',o8',o9',hs',rfl⟩:=zh8 (g:=zaM 7) (body:=ze4 (dIt (dFz (zbU (dA (zab 7) (dA (zag zaR (dRO 2 (dR (zab 3) (dR (zab 7) dR0)))) (dA (zag zaR (dRO 2 (dR (zab 3) (dR (zab 7) dR0)))) dA0)))))) (zaM 8) zke) (I:=I) bs (EV S K st n ps (some (.val (.lst bs))) o6 o7 o8 o9 o10) (fun k d hd Z ⟨st,o7,o8,o9,hs,e⟩=>by
  subst e
  obtain ⟨st',o8',o9',hs',e'⟩:=zqf (S:=S) (K:=K) (o5:=some (.val (.lst bs))) (o6:=o6) (o8:=o8) (o9:=o9) (o10:=o10) h1 h7 hp hps hs (hb d hd)
  exact ⟨_,_,by simp[zaM],e',st',_,o8',o9',hs',rfl⟩) ⟨st,o7,o8,o9,hs,rfl⟩
 exact ⟨st',o7',o8',o9',hs',(zde rfl).trans e⟩
end
theorem zmv{ns:List Int}{k:Nat}{o2 o3 o4 o5 o6 o7 o8 o9 o10:Option B}:∃ b2 b3 b4 b5 b6 b7 b8 b9 b10,outer [some (.val (.scr ns)),some (.val (.int k)),o2,o3,o4,o5,o6,o7,o8,o9,o10,some (.tab zgJ),some (.tab zcS)]=.ok (.nx,[some (.val (.scr ns)),some (.val (.int k)),b2,b3,b4,b5,b6,b7,b8,b9,b10,some (.tab zgJ),some (.tab zcS)]):=by
 let S:Option B:=some (.val (.scr ns))
 let K:Option B:=some (.val (.int k))
 let Q:Option B:=some (.tab zgJ)
 let Q2:Option B:=some (.tab zcS)
 obtain ⟨st,hs,e1⟩:=zmY (ns:=ns) (k:=k)
 have x1:zbF 2 (zg0 zc9 (dR (zab 0) (dR (zab 1) dR0))) [S,K,o2,o3,o4,o5,o6,o7,o8,o9,o10,Q,Q2]=.ok (.nx,[S,K,some (.own st),o3,o4,o5,o6,o7,o8,o9,o10,Q,Q2]) :=
  zcl (zux (Z':=[S,K,o2,o3,o4,o5,o6,o7,o8,o9,o10,Q,Q2]) (Z'':=[S,K,o2,o3,o4,o5,o6,o7,o8,o9,o10,Q,Q2]) rfl rfl e1) xws
 obtain ⟨v,st1,e2,hs1,v0,v1⟩:=zbb (m:=5) hs xwd xwd
 obtain ⟨N,hN⟩ : ∃ N:Nat,(N:Int)=3+v:=⟨(3+v).toNat,xwo⟩
 have n3:3<=N:=by omega
 have n7:N<=7:=by omega
 have n1:1<=N:=by omega
 let NV:Option B:=some (.val (.int N))
 have x2:zb1 3 (dOp zbe (dC (.int 3)) (zag zaf (dRO 2 (dR (dC (.int 5)) dR0)))) [S,K,some (.own st),o3,o4,o5,o6,o7,o8,o9,o10,Q,Q2]=.ok (.nx,[S,K,some (.own st1),NV,o4,o5,o6,o7,o8,o9,o10,Q,Q2]):=by
  refine zaO (zao rfl (zk6 (Z:=[S,K,some (.own st),o3,o4,o5,o6,o7,o8,o9,o10,Q,Q2]) rfl rfl e2) (z:=.int N) ?_) xws
  rw[hN];rfl
 obtain ⟨ps,st2,hs2,hp,hl,e3⟩:=zjB (n:=N) n1 n7 hs1
 have x3:zb1 4 (zag zbX (dRO 2 (dR (zab 3) (dR (dC (.int 8)) dR0)))) [S,K,some (.own st1),NV,o4,o5,o6,o7,o8,o9,o10,Q,Q2]=.ok (.nx,EV S K st2 N ps o5 o6 o7 o8 o9 o10) :=
  zaO (zlw (Z:=[S,K,some (.own st1),NV,o4,o5,o6,o7,o8,o9,o10,Q,Q2]) rfl rfl rfl e3) xws
 obtain ⟨bs,st3,o13,hs3,hbs,hbl,e4⟩:=zlM (g:=zaM 13) (fe:=zag zbJ (dRO 2 (dR (zab 3) (dR (zab 4) dR0)))) (A:=fun st o=>EV S K st N ps o5 o6 o7 o8 o9 o10++[o]) (P:=Br) (za7 0 3) st2 none hs2 (fun d hd st o hs=>by
  obtain ⟨y,st',hs',hy,ey⟩:=zmz (n:=N) (ps:=ps) n3 n7 hp hl hs
  exact ⟨y,st',hs',hy,by simp[zaM],zlw (Z:=EV S K st N ps o5 o6 o7 o8 o9 o10++[some (.val d)]) rfl rfl rfl ey⟩)
 have x4:zb1 5 (dFz (za0 (zbt (dC (.int 3))) (zaM 13) dTT (zag zbJ (dRO 2 (dR (zab 3) (dR (zab 4) dR0)))) 1)) (EV S K st2 N ps o5 o6 o7 o8 o9 o10)=.ok (.nx,EV S K st3 N ps (some (.val (.lst bs))) o6 o7 o8 o9 o10):=by
  refine zaO (d:=.lst bs) (Z1:=EV S K st3 N ps o5 o6 o7 o8 o9 o10) (zaG ?_) xws
  unfold za0
  rw[zdG (j:=3) (Z1:=EV S K st2 N ps o5 o6 o7 o8 o9 o10) rfl xwo]
  simp only[R.bind_ok]
  rw[if_pos (zpo (by simp[za7]))]
  show (match zb0 (zaM 13) dTT (zag zbJ (dRO 2 (dR (zab 3) (dR (zab 4) dR0)))) (za7 0 3) (EV S K st2 N ps o5 o6 o7 o8 o9 o10++[none]) with|.ok z=>R.ok (z.1,z.2.take (EV S K st2 N ps o5 o6 o7 o8 o9 o10).length)|_=>.no)=_
  rw[e4]
  rfl
 have hb3:bs.length=3:=by rw[hbl];simp[za7]
 obtain ⟨told,ht,e5⟩:=zrK (n:=N) (ps:=ps) n1 n7 hp hl
 have x5:zb1 6 (zag zcy (dRT 11 (dR (zab 3) (dR (dFz (zgS zfd (dA (zab 4) dA0))) dR0)))) (EV S K st3 N ps (some (.val (.lst bs))) o6 o7 o8 o9 o10)=.ok (.nx,EV S K st3 N ps (some (.val (.lst bs))) (some (.val told)) o7 o8 o9 o10) :=
  zaO (d:=told) (Z1:=EV S K st3 N ps (some (.val (.lst bs))) o6 o7 o8 o9 o10) (zvJ (xs:=[.int N,pd ps]) (q:=zgJ) (za3 rfl (za3 (zaG (zku (d:=pd ps) rfl rfl)) zbY)) rfl e5 rfl) xws
 obtain ⟨bs',hbs',x6⟩ : ∃ bs',(∀ d∈bs',Br d)/\dIf (zq5 false (zab 6)) (zb1 5 (dFz (zfG (zab 5) (dFz (zbU (dA (zab 6) (dA (zab 6) dA0))))))) dNx (EV S K st3 N ps (some (.val (.lst bs))) (some (.val told)) o7 o8 o9 o10)=.ok (.nx,EV S K st3 N ps (some (.val (.lst bs'))) (some (.val told)) o7 o8 o9 o10):=by
  rcases ht with rfl|ht
  ·exact ⟨bs,hbs,rfl⟩
  ·refine ⟨bs++[told,told],fun d hd=>?_,?_⟩
   ·rcases wax.mp hd with z|z
    ·exact hbs d z
    ·simp only[wap,wak,or_false] at z
     rcases z with rfl|rfl <;> exact ht
   ·have hnn:zit told=false:=by
     obtain ⟨a,b,c,u,v,w,rfl,_⟩:=ht
     rfl
    have t:zq5 false (zab 6) (EV S K st3 N ps (some (.val (.lst bs))) (some (.val told)) o7 o8 o9 o10)=.ok (true,EV S K st3 N ps (some (.val (.lst bs))) (some (.val told)) o7 o8 o9 o10):=by
     show R.ok (false == zit told,_)=_
     rw[hnn];rfl
    rw[zb2 t]
    exact zaO (d:=.lst (bs++[told,told])) (Z1:=EV S K st3 N ps (some (.val (.lst bs))) (some (.val told)) o7 o8 o9 o10) (zaG (zlx rfl (zaG (zbE (ds:=[told,told]) (dAc rfl (dAz rfl)) xws)) (by simp[hb3]))) xws
 obtain ⟨st4,p7,p8,p9,hs4,x7⟩:=zpf (S:=S) (K:=K) (o6:=some (.val told)) (o7:=o7) (o8:=o8) (o9:=o9) (o10:=o10) n1 n7 hp hl hs3 hbs'
 obtain ⟨u,st5,eu,hs5,u0,u1⟩:=zbb (m:=4) hs4 xwd xwd
 have hul:u.toNat<zq7.length:=by show u.toNat<4;omega
 let Z8:Ev:=EV S K st5 N ps (some (.val (.lst bs'))) (some (.val told)) p7 p8 p9 (some (.val zq7[u.toNat]))
 have x8:zb1 10 (dOp gIx (dC (.lst [(.int 0),(.int 8),(.bl true),.non])) (zag zaf (dRO 2 (dR (dC (.int 4)) dR0)))) (EV S K st4 N ps (some (.val (.lst bs'))) (some (.val told)) p7 p8 p9 o10)=.ok (.nx,Z8) :=
  zaO (zao (d:=.lst zq7) (Z1:=EV S K st4 N ps (some (.val (.lst bs'))) (some (.val told)) p7 p8 p9 o10) rfl (zk6 (Z:=EV S K st4 N ps (some (.val (.lst bs'))) (some (.val told)) p7 p8 p9 o10) rfl rfl eu) (zkS u0 (by show u<4;omega) (wac hul))) xws
 have hb:=zqw zq7[u.toNat] (List.getElem_mem hul)
 have v3:zab 3 (zcB Z8)=.ok (.int N,zcB Z8):=rfl
 have v4:zab 4 (zcB Z8)=.ok (pd ps,zcB Z8):=rfl
 have v10:zab 10 (zcB Z8)=.ok (zq7[u.toNat],zcB Z8):=rfl
 have r1:=zr5 (z:=0) (n:=0) (Z:=Z8) (fE:=zag zbP (dR (zab 10) (dR (dC .non) (dR (dC .non) dR0)))) rfl rfl (ziU (xs:=[zq7[u.toNat],.non,.non]) (za3 v10 (za3 rfl (za3 rfl zbY))) (zlJ (zpM hb))) xwd
 have r2:=zr5 (z:=1) (n:=1) (Z:=Z8) (fE:=zag zbP (dR (zab 3) (dR (dFn zdu (dA (zab 4) dA0)) (dR (dC .non) dR0)))) rfl rfl (ziU (xs:=[.int N,.tup (lp ps),.non]) (za3 v3 (za3 (zbl v4 rfl) (za3 rfl zbY))) (zlJ (zqy n1 n7))) xwd
 refine ⟨some (.own st5),NV,some (.val (pd ps)),some (.val (.lst bs')),some (.val told),p7,p8,p9,some (.val zq7[u.toNat]),?_⟩
 unfold outer
 rw[zal x1,zal x2,zal x3,zal x4,zal x5,zal x6,zal x7,zal x8,zal r1]
 exact r2
theorem zpU(ns:List Int):zmm 10 zgJ zcS zlj ns:=by
 let Z0:Ev:=[some (.val (.scr ns)),none,none,none,none,none,none,none,none,none,none,some (.tab zgJ),some (.tab zcS)]
 obtain ⟨j,hj,ej⟩ : ∃ j:Int,zfH j=true/\dFn ziz (dA (dC (.int 1)) (dA (dFn zjd (dA (dFn zbz (dA (zab 0) dA0)) (dA (dC (.int 5)) dA0))) dA0)) Z0=.ok (.int j,Z0):=by
  refine ⟨(if (if (5:Int)<ns.length then (5:Int) else ns.length) > 1 then (if (5:Int)<ns.length then (5:Int) else ns.length) else 1),?_,rfl⟩
  unfold zfH
  simp only[wae,war]
  split <;> split <;> omega
 obtain ⟨Z',⟨a1,a2,a3,a4,a5,a6,a7,a8,a9,a10,rfl⟩,e⟩:=zlD (g:=zaM 1) (body:=outer) (ds:=za7 0 j.toNat) (Z:=Z0)
  (I:=fun Z=>∃ a1 a2 a3 a4 a5 a6 a7 a8 a9 a10,Z=[some (.val (.scr ns)),a1,a2,a3,a4,a5,a6,a7,a8,a9,a10,some (.tab zgJ),some (.tab zcS)])
  (fun d hd Z ⟨a1,a2,a3,a4,a5,a6,a7,a8,a9,a10,hρ⟩=>by
   subst hρ
   obtain ⟨k,_,rfl⟩:=List.mem_map.mp hd
   obtain ⟨b2,b3,b4,b5,b6,b7,b8,b9,b10,e⟩:=zmv (ns:=ns) (k:=k) (o2:=a2) (o3:=a3) (o4:=a4) (o5:=a5) (o6:=a6) (o7:=a7) (o8:=a8) (o9:=a9) (o10:=a10)
   refine ⟨[some (.val (.scr ns)),some (.val (.int k)),a2,a3,a4,a5,a6,a7,a8,a9,a10,some (.tab zgJ),some (.tab zcS)],_,?_,e,_,_,_,_,_,_,_,_,_,_,rfl⟩
   rw[Int.zero_add]
   rfl) ⟨none,none,none,none,none,none,none,none,none,none,rfl⟩
 have x:ze4 (zbt (dFn ziz (dA (dC (.int 1)) (dA (dFn zjd (dA (dFn zbz (dA (zab 0) dA0)) (dA (dC (.int 5)) dA0))) dA0)))) (zaM 1) outer Z0=.ok (.nx,[some (.val (.scr ns)),a1,a2,a3,a4,a5,a6,a7,a8,a9,a10,some (.tab zgJ),some (.tab zcS)]):=by
  unfold ze4
  rw[zr9 ej,zor hj]
  exact e
 refine ⟨[some (.val (.scr ns)),a1,a2,a3,a4,a5,a6,a7,a8,a9,a10,some (.tab zgJ),some (.tab zcS)],?_⟩
 show zlj Z0=_
 rw[zsi,zal x]
 rfl
theorem at8{α:Type}{f g:Nat->α}(h:(List.range 8).map f=(List.range 8).map g):∀ n,n<8->f n=g n:=fun n hn=>List.map_inj_left.mp h n (List.mem_range.mpr hn)
theorem xc_of{K:W.Frag}{cls:Nat->Addr}(h:((List.range 8).map fun n=>(W.excIn K (cls n) bmV "ValueError.__new__",W.findIn K (.ref (cls n)) "__getattribute__",W.findIn K (.ref (cls n)) "__getattr__",W.findIn K (.ref (cls n)) "__class__",W.subIn K (.ref (cls n)) (.type "BaseException")))=(List.range 8).map fun _=>(true,some (some (.builtin "BaseException.__getattribute__")),some none,some (some (.builtin "object.__class__")),some true)):∀ n,n<8->Xin K (cls n):=fun n hn=>by
 have e:=at8 h n hn
 simp only[Prod.mk.injEq] at e
 exact ⟨e.1,e.2.1,e.2.2.1,e.2.2.2.1,e.2.2.2.2⟩
theorem xi_of{K:W.Frag}{cls:Nat->Addr}(h:((List.range 8).map fun n=>(List.range 8).map fun k=>W.kitOne K (.ref (cls n)) (.ref (cls k)))=(List.range 8).map fun n=>(List.range 8).map fun k=>some (n == k)):∀ n k,n<8->k<8->W.kitOne K (.ref (cls n)) (.ref (cls k))=some (n == k):=fun n k hn hk=>at8 (at8 h n hn) k hk
abbrev c8(a b c d e f g h:Addr):Nat->Addr:=fun n=>match n with|0=>a|1=>b|2=>c|3=>d|4=>e|5=>f|6=>g|_=>h
section
variable{K:W.Frag}{h:Heap}{mg:Str->Option Value}(X:K.In h)(G:h.Ns mainGlobals mg)
include X G in
theorem fe{x:String}{i:Nat}{f:Addr}{od an:Option Addr}{sl:Array (Option Value)}{oc kV dc pm cd ct:Value}(a:W.nsIn K mainGlobals (Str.ofString x)=some (some (.ref f)))(l:K.lookup f=some ⟨oc,od,.func (W.fnOf (Str.ofString x) (Str.ofString x) (zdZ (top i)) (zcj (top i)) (zaj (top i)) .none kV dc pm an cd ct),sl⟩)(c:W.codeIn K cd (Str.ofString x)=true)(k:W.keepIn K (.ref f)=true):Uf K mg x i:=⟨_,_,zpk (st:=top i) l c k,W.mg_of X G a⟩
include X G in
theorem xs_of{CS:Addr}{x:Str}{cls:Nat->Addr}(m:W.nsIn K mainGlobals x=some (some (.ref CS)))(i:Xin K CS)(s:∀ n,n<8->W.subIn K (.ref (cls n)) (.ref CS)=some true):∃ Cs,Xin K Cs/\mg x=some (.ref Cs)/\∀ n,n<8->W.subIn K (.ref (cls n)) (.ref Cs)=some true:=⟨_,i,W.mg_of X G m,s⟩
include X G in
theorem ct{x:Str}{i:Int}{t:Tok}(m:W.nsIn K mainGlobals x=some (some (.int i t))):∃ t,mg x=some (.int i t):=⟨_,W.mg_of X G m⟩
include X G in
theorem fin{l:W.OpenLaw}{w:World}{fa f g cL PT cM QT:Addr}{C0 C1 C2 C3 C4 C5 C6 C7:Addr}(hfa:mg "law"=some (.ref fa)){od an oe ao:Option Addr}{sl sm:Array (Option Value)}{oc kV dc pm ct o2 k2 d2 p2 c2:Value}(T:Tx K mg (c8 C0 C1 C2 C3 C4 C5 C6 C7))
  (a:W.nsIn K mainGlobals (Str.ofString "least_bar")=some (some (.ref f))) (la:K.lookup f=some ⟨oc,od,.func (W.fnOf (Str.ofString "least_bar") (Str.ofString "least_bar") (zdZ (top 31)) (zcj (top 31)) (zaj (top 31)) .none kV dc pm an (.ref cL) ct),sl⟩) (ca:W.codeIn K (.ref cL) (Str.ofString "least_bar")=true) (ka:W.keepIn K (.ref f)=true)
  (b:W.nsIn K mainGlobals (Str.ofString "law")=some (some (.ref g))) (lb:K.lookup g=some ⟨o2,oe,.func (W.fnOf (Str.ofString "law") (Str.ofString "law") (zdZ (top 47)) (zcj (top 47)) (zaj (top 47)) .none k2 d2 p2 ao (.ref cM) c2),sm⟩) (cb:W.codeIn K (.ref cM) (Str.ofString "law")=true) (kb:W.keepIn K (.ref g)=true)
  (ch:W.codeHdIn K cL PT=true) (ch2:W.codeHdIn K cM QT=true) (hPQ:PT≠QT) :
  ∃(fd:FuncData)(cL cM:Addr),(∀(s:Shared)(v:Value),BindsTo s fd ⟨[v],[]⟩ [("script",v)])/\W.codeHdIn K cL PT=true/\W.codeHdIn K cM QT=true/\∀ base:Heap,K.In base->base.Ns mainGlobals mg->base.BuiltinsAt mg PT->base.BuiltinsAt mg QT->zhF l.prog w K mg base (CXe l.prog w) 27 fa fd ["script"] (zt1 K PT QT (zmm 10 zgJ zcS zlj)):=by
 have e:=hfa.symm.trans (W.mg_of X G b)
 cases e
 exact ⟨W.fnOf "law" "law" (zdZ (top 47)) (zcj (top 47)) (zaj (top 47)) .none k2 d2 p2 ao (.ref cM) c2,cL,cM,fun s v=>.of_eq rfl,ch,ch2,fun base hK _ hb hbQ=>zvI T hPQ rfl ch2 hbQ hK (zpk (st:=top 47) lb cb kb) (zlc T (zpk (st:=top 31) la ca ka) (W.mg_of X G a) rfl ch hb hK)⟩
end
theorem walk{l:W.OpenLaw}{q:Program}{loose:List Str}{XP:(Str->Option Value)->Heap->Prop}{YP:World->Heap->Prop}{d:DefRec}{K:Params->W.Frag}{PT QT:Addr}(hn:l.most=some 63)(hdf:d.params.defaults=[])
  (hY:∀(w:World)(h:Heap),YP w h->(K w.params).In h) (hYT:∀(w:World)(h:Heap),YP w h->h.get? PT=some (W.tabObj #[])) (hYQ:∀(w:World)(h:Heap),YP w h->h.get? QT=some (W.tabObj #[])) (hPQ:PT≠QT) (hnt:∀ w:World,W.noTabs (K w.params)=true)
  (F:∀(w:World)(mg:Str->Option Value)(fa:Addr)(h:Heap),(K w.params).In h->h.Ns mainGlobals mg->mg d.name=some (.ref fa) ->
   ∃(fd:FuncData)(cL cM:Addr),(∀(s:Shared)(u:Value),BindsTo s fd ⟨[u],[]⟩ [("script",u)])/\W.codeHdIn (K w.params) cL PT=true/\W.codeHdIn (K w.params) cM QT=true/\∀ base:Heap,(K w.params).In base->base.Ns mainGlobals mg->base.BuiltinsAt mg PT->base.BuiltinsAt mg QT->zhF l.prog w (K w.params) mg base (CXe l.prog w) 27 fa fd ["script"] (zt1 (K w.params) PT QT (zmm 10 zgJ zcS zlj))) :
  W.WalkO q loose XP YP l.row.toRowW d [] (fun f vs=>PySem.call f vs) :=
 znv (n:=63) (k:=27) (x:="script") (CX:=fun w=>CXe l.prog w) (sp:=fun w=>zt1 (K w.params) PT QT (zmm 10 zgJ zcS zlj)) hPQ hn xwd hdf ⟨rfl,xwd,xwd⟩ hY hYT hYQ hnt F (fun w H a ns hl hP hQ hS=>⟨a,ns,rfl,hS,hP,hQ,zpU ns,fun _=>rfl⟩) fun _ _ _ _ _ z=>CXe.none z
end Lw
def PySem.W.Fast.tw13522811644194058945:=0
def PySem.W.Fast.tw12411475331978316169:=0
def PySem.W.Fast.tw8456913478384696228:=0
def PySem.W.Fast.tw15163477809021453266:=0
def PySem.W.Fast.tw5034495910163369374:=0
def PySem.W.Fast.tw18277807702904679141:=0
def PySem.W.Fast.tw4540218249117705611:=0
def PySem.W.Fast.tw11663594705161911457:=0
def PySem.W.Fast.tw6129906505557884658:=0
def PySem.W.Fast.tw3566828490474745111:=0
def PySem.W.Fast.tw13723343521206894840:=0
def PySem.W.Fast.tw14997275730518708275:=0
def PySem.W.Fast.tw18150073351729000963:=0
def PySem.W.Fast.tw15824584091289422591:=0
open PySem PySem.W PyProof.Rows
set_option maxRecDepth 100000 in
set_option maxHeartbeats 0 in
theorem PySem.Challenge.cw_standtogether_k15_bars_looked_over_holds : PySem.Challenge.rw_standtogether_k15_bars_looked_over.Holds := by
  w_on; o_law; k_head; (case hw => w_witness2)
  k_fill
  refine Lw.walk (l := PySem.Challenge.rw_standtogether_k15_bars_looked_over) rfl rfl (fun w h Y => PySem.W.km_in_of Y) (fun w h Y => PySem.W.km_tabs_of Y _ List.mem_cons_self) (fun w h Y => PySem.W.km_tabs_of Y _ (List.mem_cons_of_mem _ List.mem_cons_self)) (by decide) (fun w => by kernel_rfl) ?F
  case F =>
    intro w mg fa h KX G hmg
    refine' Lw.fin KX G hmg ⟨Lw.xc_of ?_,PySem.W.mg_of KX G ?x0,PySem.W.mg_of KX G ?x1,PySem.W.mg_of KX G ?x2,PySem.W.mg_of KX G ?x3,PySem.W.mg_of KX G ?x4,PySem.W.mg_of KX G ?x5,PySem.W.mg_of KX G ?x6,
     PySem.W.mg_of KX G ?x7,Lw.xs_of KX G ?x8 ⟨?_,?_,?_,?_,?_⟩ (Lw.at8 ?_),Lw.xi_of ?_,Lw.at8 ?_,Lw.fe KX G ?_ ?_ ?_ ?_,Lw.fe KX G ?_ ?_ ?_ ?_,Lw.fe KX G ?_ ?_ ?_ ?_,Lw.fe KX G ?_ ?_ ?_ ?_,
     Lw.fe KX G ?_ ?_ ?_ ?_,Lw.fe KX G ?_ ?_ ?_ ?_,Lw.fe KX G ?_ ?_ ?_ ?_,Lw.fe KX G ?_ ?_ ?_ ?_,Lw.fe KX G ?_ ?_ ?_ ?_,Lw.fe KX G ?_ ?_ ?_ ?_,Lw.fe KX G ?_ ?_ ?_ ?_,Lw.fe KX G ?_ ?_ ?_ ?_,
     Lw.fe KX G ?_ ?_ ?_ ?_,Lw.fe KX G ?_ ?_ ?_ ?_,Lw.fe KX G ?_ ?_ ?_ ?_,Lw.fe KX G ?_ ?_ ?_ ?_,Lw.fe KX G ?_ ?_ ?_ ?_,Lw.fe KX G ?_ ?_ ?_ ?_,Lw.fe KX G ?_ ?_ ?_ ?_,Lw.fe KX G ?_ ?_ ?_ ?_,
     Lw.fe KX G ?_ ?_ ?_ ?_,Lw.fe KX G ?_ ?_ ?_ ?_,Lw.fe KX G ?_ ?_ ?_ ?_,Lw.fe KX G ?_ ?_ ?_ ?_,Lw.fe KX G ?_ ?_ ?_ ?_,Lw.fe KX G ?_ ?_ ?_ ?_,Lw.fe KX G ?_ ?_ ?_ ?_,Lw.fe KX G ?_ ?_ ?_ ?_,
     Lw.fe KX G ?_ ?_ ?_ ?_,Lw.fe KX G ?_ ?_ ?_ ?_,Lw.fe KX G ?_ ?_ ?_ ?_,Lw.fe KX G ?_ ?_ ?_ ?_,Lw.fe KX G ?_ ?_ ?_ ?_,PySem.W.mg_none_of KX G ?_,PySem.W.mg_none_of KX G ?_,PySem.W.mg_none_of KX G ?_,
     PySem.W.mg_none_of KX G ?_,PySem.W.mg_none_of KX G ?_,PySem.W.mg_none_of KX G ?_,PySem.W.mg_none_of KX G ?_,PySem.W.mg_none_of KX G ?_,PySem.W.mg_none_of KX G ?_,PySem.W.mg_none_of KX G ?_,PySem.W.mg_none_of KX G ?_,
     PySem.W.mg_none_of KX G ?_,PySem.W.mg_none_of KX G ?_,PySem.W.mg_none_of KX G ?_,PySem.W.mg_none_of KX G ?_,Lw.ct KX G ?_,Lw.ct KX G ?_⟩ ?_ ?_ ?_ ?_ ?_ ?_ ?_ ?_ ?_ ?_ (by decide)
    (case x0|x1|x2|x3|x4|x5|x6|x7|x8 => k_is)
    all_goals try first | k_is | kernel_rfl
end
