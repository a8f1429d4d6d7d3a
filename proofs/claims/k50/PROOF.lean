import PyProof.Rows.All
import Wide.All
import OpenK.AllK
import Wide.FinOn
import Lean
import PyProof.EqAt
import PyProof.EqKinds
import PyProof.TupleCall
import PySem.Challenge.RW_standtogether_k50_webs_and_stretches_kno
set_option Elab.async false
set_option linter.all false
set_option maxRecDepth 100000
set_option maxHeartbeats 4000000
section
open PySem PySem.Spec PyProof.Rows
theorem xwo{p:Prop}(h:p:=by omega):p:=h
theorem xwl{p:Prop}(h:p:=by lia):p:=h
theorem xws{p:Prop}(h:p:=by simp):p:=h
theorem xwk{p:Prop}(h:p:=by kernel_rfl):p:=h
theorem xwd{p:Prop}(h:p:=by decide):p:=h
theorem xwD{p:Prop}(h:p:=by decide +kernel):p:=h
theorem xwO{p:Prop}(h:p:=by first|exact Or.inl rfl|exact Or.inr rfl):p:=h
theorem xwV{p:Prop}(h:p:=by first|exact Or.inl rfl|exact Or.inr (Or.inl rfl)|exact Or.inr (Or.inr rfl)):p:=h
theorem xwA{p:Prop}(h:p:=by first|exact .inl rfl|exact .inr rfl|assumption):p:=h
theorem xwN{i:Nat}{l:List Nat}(h:l.contains i=false):i∉l:=λm=>by rw[List.contains_iff_mem.mpr m] at h;cases h
def waa:=@Heap.get?_push_of_some
def wab:=@wpAny_bind
def wac:=@List.getElem?_eq_getElem
def wad:=@wpAny_pure
def wae:=@Bool.and_eq_true
def waf:=@List.size_toArray
def wag:=@List.length_map
def wah:=@List.mem_cons_of_mem
def wai:=@Heap.lt_size
def waj:=@Heap.get?_push_size
def wak:=@List.not_mem_nil
def wal:=@Nat.le_refl
def wam:=@List.getElem?_eq_some_iff
def wan:=@List.length_cons
def wap:=@List.mem_cons
def war:=@decide_eq_true_eq
def was:=@Nat.lt_of_lt_of_le
def wat:=@decide_eq_true
def wau:=@List.mem_cons_self
def wav:=@List.length_append
def waw:=@decide_eq_false
def wax:=@List.mem_append
def waz:=@List.getElem?_set_self
def waA:=@List.mem_append_right
def waB:=@Option.some.inj
def waD:=@wpS_bind
def waE:=@wpS_pure
def waI:=@List.mem_of_getElem?
def waM:=@Nat.lt_irrefl
def waN:=@Nat.ne_of_lt
def waO:=@Nat.le_trans
def waP:=@False.elim
def waS:=@List.mem_append_left
def waU:=@Nat.le_add_right
end
section
namespace L2
open PySem PySem.Spec PyProof.Rows
abbrev Key:=Sum Int Str
def zut:Key->Value->Bool
 |.inl k,v=>Value.isInt k v
 |.inr x,v=>Value.isStrOf x v
def keyH(w:World):Key->Int
 |.inl k=>hashInt k
 |.inr x=>hashStr w x
theorem zbs:∀{k:Key}{v:Value},zut k v=true->(∃ i t,k=Sum.inl i/\v=Value.int i t)\/(∃ x t,k=Sum.inr x/\v=Value.str x t)
 |.inl i,v,h=>by obtain ⟨t,e⟩:=Value.isInt_shape (k:=i) (v:=v) h;exact .inl ⟨i,t,rfl,e⟩
 |.inr x,v,h=>by obtain ⟨t,e⟩:=Value.isStrOf_shape (x:=x) (v:=v) h;exact .inr ⟨x,t,rfl,e⟩
theorem zus(a b:Int):decide ((Sum.inl a:Key)=Sum.inl b)=(a == b):=by
 by_cases e:a=b
 ·subst e;simp
 ·have h:¬ (Sum.inl a:Key)=Sum.inl b:=λq=>e (Sum.inl.inj q);rw[decide_eq_false h];exact (beq_eq_false_iff_ne.mpr e).symm
theorem ztN(a b:Str):decide ((Sum.inr a:Key)=Sum.inr b)=decide (a=b):=by
 by_cases e:a=b
 ·subst e;simp
 ·have h:¬ (Sum.inr a:Key)=Sum.inr b:=λq=>e (Sum.inr.inj q);rw[decide_eq_false h,decide_eq_false e]
theorem ztd(a:Int)(b:Str):decide ((Sum.inl a:Key)=Sum.inr b)=false:=waw (λq=>nomatch q)
theorem zti(a:Str)(b:Int):decide ((Sum.inr a:Key)=Sum.inl b)=false:=waw (λq=>nomatch q)
def zn9(prog:Program)(w:World):PySem.KeyKind prog w Key where
 is:=zut
 hash:=keyH w
 inj:=λv a b ha hb=>by
  rcases zbs ha with ⟨i,t,rfl,rfl⟩|⟨x,t,rfl,rfl⟩
  ·rcases zbs hb with ⟨j,u,rfl,e⟩|⟨y,u,rfl,e⟩
   ·injection e with e1 _;rw[e1]
   ·exact nomatch e
  ·rcases zbs hb with ⟨j,u,rfl,e⟩|⟨y,u,rfl,e⟩
   ·exact nomatch e
   ·injection e with e1 _;rw[e1]
 byValue:=λk v h=>by rcases zbs h with ⟨i,t,rfl,rfl⟩|⟨x,t,rfl,rfl⟩ <;> rfl
 pyHash:=λhv h=>by
  rcases zbs hv with ⟨i,t,rfl,rfl⟩|⟨x,t,rfl,rfl⟩
  ·exact wpAny_pyHash_int h
  ·exact wpAny_pyHash_str h
 eqBool:=λhu hv h=>by
  rcases zbs hu with ⟨i,t,rfl,rfl⟩|⟨x,t,rfl,rfl⟩
  ·rcases zbs hv with ⟨j,u,rfl,rfl⟩|⟨y,u,rfl,rfl⟩
   ·rw[zus] at h;exact wpAny_eqBool_int h
   ·rw[ztd] at h;exact SeqAt.EqAt.int_str i t y u _ _ _ _ h
  ·rcases zbs hv with ⟨j,u,rfl,rfl⟩|⟨y,u,rfl,rfl⟩
   ·rw[zti] at h;exact SeqAt.EqAt.str_int x t j u _ _ _ _ h
   ·rw[ztN] at h;exact wpAny_eqBool_str h
 «strs» := λk x t v h=>by
  rcases zbs h with ⟨i,u,rfl,e⟩|⟨y,u,rfl,e⟩
  ·exact nomatch e
  ·injection e with e1 _;subst e1;cases v <;> rfl
end L2
namespace L2
open PySem PySem.Spec PyProof.Rows
inductive V where
 |non|bl (b:Bool)|int (i:Int)|str (x:Str)|byt (b:Array UInt8)|flt (b:UInt64)|ref (a:Addr)|ty (n:String)
 deriving DecidableEq
def zca:V->Value->Prop
 |.non,u=>u=Value.none
 |.bl b,u=>u=Value.bool b
 |.int i,u=>∃ t,u=Value.int i t
 |.str x,u=>∃ t,u=Value.str x t
 |.byt b,u=>∃ t,u=Value.bytes b t
 |.flt b,u=>∃ t,u=Value.float b t
 |.ref a,u=>u=Value.ref a
 |.ty n,u=>u=Value.type n
abbrev zba:List V->List Value->Prop:=Paired zca
theorem zba.length{xs:List V}{us:List Value}(r:zba xs us):xs.length=us.length:=Paired.length r
theorem zba.get:∀{xs:List V}{us:List Value}{i:Nat}{x:V},zba xs us->xs[i]? = some x->∃ u,us[i]? = some u/\zca x u
 |_,_,_,_,.nil,e=>by simp at e
 |_,_,0,_,.cons r _,e=>by simp at e;subst e;exact ⟨_,rfl,r⟩
 |_,_,i+1,x,.cons _ t,e=>by obtain ⟨u,h1,h2⟩:=zba.get (i:=i) (x:=x) t (by simpa using e);exact ⟨u,by simpa using h1,h2⟩
theorem zba.set{x:V}{u:Value}(r:zca x u):∀{xs:List V}{us:List Value}(i:Nat),zba xs us->zba (xs.set i x) (us.set i u)
 |_,_,_,.nil=>.nil
 |_,_,0,.cons _ t=>.cons r t
 |_,_,i+1,.cons q t=>.cons q (zba.set r i t)
theorem zba.append:∀{xs ys:List V}{us ws:List Value},zba xs us->zba ys ws->zba (xs++ys) (us++ws)
 |_,_,_,_,.nil,s=>s
 |_,_,_,_,.cons r t,s=>.cons r (zba.append t s)
theorem zba.take:∀{xs:List V}{us:List Value}(n:Nat),zba xs us->zba (xs.take n) (us.take n)
 |_,_,0,_=>.nil
 |_,_,_+1,.nil=>.nil
 |_,_,n+1,.cons r t=>.cons r (zba.take n t)
theorem zba.drop:∀{xs:List V}{us:List Value}(n:Nat),zba xs us->zba (xs.drop n) (us.drop n)
 |_,_,0,r=>r
 |_,_,_+1,.nil=>.nil
 |_,_,n+1,.cons _ t=>zba.drop n t
def RelO:Option V->Option Value->Prop
 |some v,some u=>zca v u
 |none,none=>True
 |_,_=>False
def KV{κ:Type}:List (κ×V)->List (κ×Value)->Prop:=Paired λ(p:κ×V) (q:κ×Value)=>p.1=q.1/\zca p.2 q.2
def kV:Key->V
 |.inl i=>.int i
 |.inr x=>.str x
inductive HO where
  |lst (xs:List V)
  |tup (xs:List V)
  |dK (kvs:List (Key×V))|dT (kvs:List (List Key×V))
  |set (S:Int->Bool) (n:Nat)
  |ins (C dx:Addr) (fs:List (Str×V))
  |own (x:Addr)
  |xd (fs:List (Str×V))
  |met (f x:Addr)
  |rng (lo hi:Int)
  |frz (o:Obj) (u:HO)
  |tbl (ps:Array Value)
  |ext (φ : Heap->Prop)
abbrev Hp:=Addr->Option HO
def upd(H:Hp)(a:Addr)(o:HO):Hp:=λb=>if b=a then some o else H b
theorem zan{H:Hp}{a:Addr}{o:HO}:upd H a o a=some o:=by unfold upd;rw[if_pos rfl]
theorem zaj{H:Hp}{a b:Addr}{o:HO}(h:b≠a):upd H a o b=H b:=by unfold upd;rw[if_neg h]
theorem zak{H:Hp}{a b:Addr}{o:HO}(h:H a=some o)(h':H b=none):a≠b:=by intro e;subst e;rw[h] at h';cases h'
section
variable(P:Program)(w:World)
def zc2(H:Hp)(h:Heap)(a:Addr):HO->Prop
 |.lst xs=>xs.length<=sizeLine/\∃(its:List Value)(n:Nat),zba xs its/\h.get? a=some { cls:=.type "list",data:=.seq its.toArray n }
 |.tup xs=>xs.length<=sizeLine/\∃ its:List Value,zba xs its/\∃ n,h.get? a=some { cls:=.type "tuple",data:=.seq its.toArray n }
 |.dK kvs=>kvs.length<=sizeLine/\(a == sysModules)=false/\∃ vs,KV kvs vs/\h.DictOf (zn9 P w) a vs
 |.dT kvs=>kvs.length<=sizeLine/\(a == sysModules)=false/\∃ xs:List (List Key×Addr×Value),
   Paired (λ(p:List Key×V) (q:List Key×Addr×Value)=>p.1=q.1/\H q.2.1=some (.tup (p.1.map kV))/\zca p.2 q.2.2) kvs xs /\
   ∃ o es ep,h.get? a=some o/\o.ExactDict/\o.data=.dict es ep/\es.toList=xs.map (entryOfKey (tupleKind (zn9 P w)))/\(xs.map (·.1)).Nodup
 |.set S n=>h.SetOf (intKind P w) a S n
 |.ins C dx fs=>H dx=some (.own a)/\fs.length<=1000/\dx≠a/\h.get? a=some (W.instObj C dx) /\
   ∃ mA,h.Ns1 dx mA/\(∀ f,RelO (fs.lookup f) (mA f))/\PySem.Within mA (fs.map (·.1))
 |.own _=>∃ o,h.get? a=some o
 |.xd fs=>∃ mA,h.Ns1 a mA/\∀ f,RelO (fs.lookup f) (mA f)
 |.rng lo hi=>∃ t u v,h.get? a=some { cls:=.type "range",data:=.fields #[.int lo t,.int hi u,.int 1 v] }
 |.frz o u=>h.get? a=some o/\zc2 H h a u
 |.tbl ps=>h.get? a=some { cls:=.none,data:=.fields ps }
 |.met f x=>h.get? a=some (W.methodObj (.ref f) (.ref x))
 |.ext φ => φ h/\(∃ o,h.get? a=some o)/\∀ h1 h2:Heap,φ h1->(∀ o,h1.get? a=some o->h2.get? a=some o)->φ h2
def HOk(H:Hp)(h:Heap):Prop:=∀ a o,H a=some o->zc2 P w H h a o
end
section
variable{P:Program}{w:World}{H H':Hp}{h h':Heap}{a:Addr}{o:HO}
theorem zc2.lt(x:zc2 P w H h a o):a<h.objs.size:=by
 cases o with
 |lst xs=>obtain ⟨_,_,_,_,e⟩:=x;exact wai e
 |tup xs=>obtain ⟨_,_,_,_,e⟩:=x;exact wai e
 |dK kvs=>obtain ⟨_,_,_,_,o,_,_,e,_⟩:=x;exact wai e
 |dT kvs=>obtain ⟨_,_,_,_,o,_,_,e,_⟩:=x;exact wai e
 |set S n=>obtain ⟨o,_,_,_,e,_⟩:=x;exact wai e
 |ins C dx fs=>obtain ⟨_,_,_,e,_⟩:=x;exact wai e
 |own y=>obtain ⟨_,e⟩:=x;exact wai e
 |xd fs=>obtain ⟨_,⟨_,_,_,e,_⟩,_⟩:=x;exact wai e
 |rng lo hi=>obtain ⟨_,_,_,e⟩:=x;exact wai e
 |frz ob u=>obtain ⟨e,_⟩:=x;exact wai e
 |tbl ps=>exact wai (show h.get? a=some _ from x)
 |met f y=>exact wai (show h.get? a=some _ from x)
 |ext φ => obtain ⟨_,⟨_,e⟩,_⟩:=x;exact wai e
theorem Paired.mapP{α β:Type}{F G:α->β->Prop}:∀{l₁:List α}{l₂:List β},Paired F l₁ l₂->(∀ a b,F a b->G a b)->Paired G l₁ l₂
 |_,_,.nil,_=>.nil
 |_,_,.cons r t,f=>.cons (f _ _ r) (Paired.mapP t f)
theorem zc2.stay(x:zc2 P w H h a o)(k:∀ b u,(b=a\/H b=some (.own a))->h.get? b=some u->h'.get? b=some u)
  (ho:∀ b,H b=some (.own a)->H' b=some (.own a)) (ht:∀ b xs,H b=some (.tup xs)->H' b=some (.tup xs)):zc2 P w H' h' a o:=by
 induction o with
 |lst xs=>obtain ⟨z,its,n,r,e⟩:=x;exact ⟨z,its,n,r,k _ _ (.inl rfl) e⟩
 |tup xs=>obtain ⟨z,its,r,n,e⟩:=x;exact ⟨z,its,r,n,k _ _ (.inl rfl) e⟩
 |dK kvs=>obtain ⟨z,y,vs,r,ob,es,ep,e,c⟩:=x;exact ⟨z,y,vs,r,ob,es,ep,k _ _ (.inl rfl) e,c⟩
 |dT kvs =>
  obtain ⟨z,y,xs,r,ob,es,ep,e,c⟩:=x;exact ⟨z,y,xs,Paired.mapP r λp q z=>⟨z.1,ht _ _ z.2.1,z.2.2⟩,ob,es,ep,k _ _ (.inl rfl) e,c⟩
 |set S n=>obtain ⟨ob,es,ep,t,e,c⟩:=x;exact ⟨ob,es,ep,t,k _ _ (.inl rfl) e,c⟩
 |ins C dx fs =>
  obtain ⟨d,z,ne,e,mA,⟨od,es,ep,e2,c⟩,r⟩:=x;exact ⟨ho _ d,z,ne,k _ _ (.inl rfl) e,mA,⟨od,es,ep,k _ _ (.inr d) e2,c⟩,r⟩
 |own y=>obtain ⟨ob,e⟩:=x;exact ⟨ob,k _ _ (.inl rfl) e⟩
 |xd fs=>obtain ⟨mA,⟨od,es,ep,e,c⟩,r⟩:=x;exact ⟨mA,⟨od,es,ep,k _ _ (.inl rfl) e,c⟩,r⟩
 |rng lo hi=>obtain ⟨t,u,v,e⟩:=x;exact ⟨t,u,v,k _ _ (.inl rfl) e⟩
 |frz ob u ih=>obtain ⟨e,q⟩:=x;exact ⟨k _ _ (.inl rfl) e,ih q⟩
 |tbl ps =>
  have e:h.get? a=some { cls:=.none,data:=.fields ps }:=x;show h'.get? a=some { cls:=.none,data:=.fields ps };exact k a _ (.inl rfl) e
 |met f y =>
  have e:h.get? a=some (W.methodObj (.ref f) (.ref y)):=x;show h'.get? a=some (W.methodObj (.ref f) (.ref y));exact k a _ (.inl rfl) e
 |ext φ => obtain ⟨p,⟨o,e⟩,st⟩:=x;exact ⟨st _ _ p λo q=>k _ _ (.inl rfl) q,⟨o,k _ _ (.inl rfl) e⟩,st⟩
theorem HOk.lt(x:HOk P w H h)(e:H a=some o):a<h.objs.size:=(x a o e).lt
theorem HOk.fresh(x:HOk P w H h)(e:h.objs.size<=a):H a=none:=by
 cases q:H a with
 |none=>rfl
 |some u=>exact absurd (was (x.lt q) e) (waM _)
theorem HOk.kept(x:HOk P w H h)(k:∀ b u,h.get? b=some u->h'.get? b=some u):HOk P w H h':=λa o e =>
 (x a o e).stay (λb u _ q=>k b u q) (λ_ q=>q) λ_ _ q=>q
theorem HOk.laid(x:HOk P w H h)(k:∀ b u,h.get? b=some u->h'.get? b=some u)(hp:h.objs.size<=a)(new:zc2 P w (upd H a o) h' a o):HOk P w (upd H a o) h':=λb u e=>by
 have hn:=x.fresh hp;by_cases hb:b=a
 ·subst hb;rw[zan] at e;cases e;exact new
 ·rw[zaj hb] at e;exact (x b u e).stay (λc v _ q=>k c v q) (λc q=>by rw[zaj (zak q hn)];exact q) λc xs q=>by rw[zaj (zak q hn)];exact q
end
def Rd(H:Hp)(a:Addr)(u:HO):Prop:=H a=some u\/∃ o,H a=some (.frz o u)
theorem Rd.of{H:Hp}{a:Addr}{u:HO}(h:H a=some u):Rd H a u:=.inl h
theorem Rd.ok{P:Program}{w:World}{H:Hp}{h:Heap}{a:Addr}{u:HO}(r:Rd H a u)(x:HOk P w H h):zc2 P w H h a u:=by
 rcases r with r|⟨o,r⟩
 ·exact x a u r
 ·obtain ⟨_,q⟩:=x a _ r;exact q
def Mut:Option HO->Prop
 |some (.lst _)=>True
 |some (.dK _)=>True
 |some (.dT _)=>True
 |some (.set _ _)=>True
 |some (.ins _ _ _)=>True
 |some (.ext _)=>True
 |_=>False
section
variable{P:Program}{w:World}{H:Hp}{h h':Heap}{x e:Addr}{o':HO}
theorem HOk.write(ok:HOk P w H h)(mu:Mut (H x))(he:e=x\/H e=some (.own x))(k:∀ b u,b≠e->h.get? b=some u->h'.get? b=some u)(heo:∃ u,h'.get? e=some u)
  (new:zc2 P w (upd H x o') h' x o'):HOk P w (upd H x o') h':=λb u q=>by
 have nown:∀ c y,H c=some (.own y)->c≠x:=λc y r z=>by subst z;rw[r] at mu;exact mu
 have ntup:∀ c xs,H c=some (.tup xs)->c≠x:=λc xs r z=>by subst z;rw[r] at mu;exact mu
 by_cases hb:b=x
 ·subst hb;rw[zan] at q;cases q;exact new
 ·rw[zaj hb] at q;by_cases hbe:b=e
  ·have q':H b=some (.own x):=by
    rcases he with z|z
    ·exact absurd (hbe.trans z) hb
    ·rw[hbe];exact z
   rw[q] at q';cases q';obtain ⟨v,hv⟩:=heo;exact ⟨v,by rw[hbe];exact hv⟩
  ·refine (ok b u q).stay (λc v hc r=>k c v ?_ r) (λc r=>by rw[zaj (nown c b r)];exact r) λc xs r=>by rw[zaj (ntup c xs r)];exact r
   rcases hc with rfl|hc
   ·exact hbe
   ·rintro rfl;rcases he with z|z
    ·exact nown c b hc z
    ·rw[hc] at z;cases z;exact hb rfl
end
structure Un(fs ex:List Addr)(H H':Hp)(h h':Heap):Prop where
 keep:∀ b o,h.get? b=some o->H b=none->b∉fs->b∉ex->h'.get? b=some o
 slot:∀ b o,h.get? b=some o->H b=none->b∈fs->b∉ex->∃ sl,h'.get? b=some { o with slots:=sl }
 free:∀ b o,h.get? b=some o->H b=none->b∉ex->H' b=none
 there:∀ b o,h.get? b=some o->b∉ex->∃ o',h'.get? b=some o'
 tups:∀ b xs,H b=some (.tup xs)->H' b=some (.tup xs)
 frzs:∀ b o u,H b=some (.frz o u)->H' b=some (.frz o u)
 tbls:∀ b ps,H b=some (.tbl ps)->∃ more,H' b=some (.tbl (ps++more))
section
variable{fs fs' ex ex':List Addr}{H H1 H2:Hp}{h h1 h2 h':Heap}{a x e:Addr}{o:HO}
theorem Un.any(u:Un fs ex H H1 h h1){b:Addr}{ob:Obj}(q:h.get? b=some ob)(n:H b=none)(hx:b∉ex):∃ sl,h1.get? b=some { ob with slots:=sl }:=by
 by_cases hb:b∈fs
 ·exact u.slot b ob q n hb hx
 ·exact ⟨ob.slots,u.keep b ob q n hb hx⟩
theorem Un.trans(a:Un fs ex H H1 h h1)(b:Un fs ex H1 H2 h1 h2):Un fs ex H H2 h h2 where
 keep:=λc ob q n hc hx=>b.keep c ob (a.keep c ob q n hc hx) (a.free c ob q n hx) hc hx
 slot:=λc ob q n hc hx=>by obtain ⟨sl,e1⟩:=a.slot c ob q n hc hx;obtain ⟨sl',e2⟩:=b.slot c _ e1 (a.free c ob q n hx) hc hx;exact ⟨sl',e2⟩
 free:=λc ob q n hx=>by obtain ⟨o',e1⟩:=a.there c ob q hx;exact b.free c o' e1 (a.free c ob q n hx) hx
 there:=λc ob q hx=>by obtain ⟨o',e1⟩:=a.there c ob q hx;exact b.there c o' e1 hx
 tups:=λc xs q=>b.tups c xs (a.tups c xs q)
 frzs:=λc ob xs q=>b.frzs c ob xs (a.frzs c ob xs q)
 tbls:=λc ps q=>by obtain ⟨m1,e1⟩:=a.tbls c ps q;obtain ⟨m2,e2⟩:=b.tbls c _ e1;exact ⟨m1++m2,by rw[e2,Array.append_assoc]⟩
theorem Un.kept(k:∀ b u,h.get? b=some u->h'.get? b=some u):Un fs ex H H h h' :=
 ⟨λb ob q _ _ _=>k b ob q,λb ob q _ _ _=>⟨ob.slots,k b ob q⟩,λ_ _ _ n _=>n,λb ob q _=>⟨ob,k b ob q⟩,λ_ _ q=>q,λ_ _ _ q=>q,λ_ ps q=>⟨#[],by rw[q];simp⟩⟩
theorem Un.refl:Un fs ex H H h h:=Un.kept λ_ _ q=>q
theorem Un.laid(k:∀ b u,h.get? b=some u->h'.get? b=some u)(hp:h.objs.size<=a)(hn:H a=none):Un fs ex H (upd H a o) h h' where
 keep:=λb u q _ _ _=>k b u q
 slot:=λb u q _ _ _=>⟨u.slots,k b u q⟩
 free:=λb u q n _=>by rw[zaj (Nat.ne_of_lt (Nat.lt_of_lt_of_le (Heap.lt_size q) hp))];exact n
 there:=λb u q _=>⟨u,k b u q⟩
 tups:=λb xs q=>by rw[zaj (zak q hn)];exact q
 frzs:=λb u xs q=>by rw[zaj (zak q hn)];exact q
 tbls:=λb ps q=>⟨#[],by rw[zaj (zak q hn),q];simp⟩
theorem Un.write(mu:Mut (H x))(he:e=x\/H e=some (.own x))(k:∀ b u,b≠e->h.get? b=some u->h'.get? b=some u)(heo:∃ u,h'.get? e=some u):Un fs ex H (upd H x o) h h':=by
 have hx:∀ b,H b=none->b≠x:=λb n z=>by subst z;rw[n] at mu;exact mu
 have hb:∀ b,H b=none->b≠e:=λb n z=>by
  subst z;rcases he with r|r
  ·exact hx b n r
  ·rw[n] at r;cases r
 have hm:∀ b u,H b=some u->¬ Mut (some u)->b≠x:=λb u q nm z=>by subst z;rw[q] at mu;exact nm mu
 refine ⟨λb u q n _ _=>k b u (hb b n) q,λb u q n _ _=>⟨u.slots,k b u (hb b n) q⟩,λb u q n _=>by rw[zaj (hx b n)];exact n,λb u q _=>?_,
  λb xs q=>by rw[zaj (hm b _ q λz=>z)];exact q,λb u xs q=>by rw[zaj (hm b _ q λz=>z)];exact q,λb ps q=>⟨#[],by rw[zaj (hm b _ q λz=>z),q];simp⟩⟩
 by_cases hbe:b=e
 ·subst hbe;exact heo
 ·exact ⟨u,k b u hbe q⟩
theorem Un.mono(u:Un fs ex H H1 h h1)(hs:∀ b∈fs,b∈fs')(hx:∀ b∈ex,b∈ex'):Un fs' ex' H H1 h h1 :=
 ⟨λb ob q n hb he=>u.keep b ob q n (λz=>hb (hs b z)) λz=>he (hx b z),λ_ _ q n _ he=>u.any q n λz=>he (hx _ z),λb ob q n he=>u.free b ob q n λz=>he (hx b z),λb ob q he=>u.there b ob q λz=>he (hx b z),u.tups,u.frzs,u.tbls⟩
end
def trk(h:Heap)(H:Hp):List Addr:=(List.range h.objs.size).filter λa=>(H a).isSome
def zoB(h:Heap)(H:Hp):Heap:=W.hideAll h (trk h H)
theorem zmR(h:Heap)(H:Hp):(zoB h H).objs.size=h.objs.size:=W.hideAll_size _ _
theorem zpj{h:Heap}{H:Hp}{b:Addr}{o:Obj}(e:h.get? b=some o)(n:H b=none):(zoB h H).get? b=some o :=
 W.hideAll_get _ e λhm=>by have q:(H b).isSome=true:=(List.mem_filter.mp hm).2;rw[n] at q;simp at q
theorem zrT{h:Heap}{H:Hp}{b:Addr}{o:Obj}(e:(zoB h H).get? b=some o):h.get? b=some o/\H b=none:=by
 have e':h.get? b=some o:=W.of_hideAll (trk h H) e;refine ⟨e',?_⟩;cases q:H b with
 |none=>rfl
 |some x =>
  have hm:b∈trk h H:=List.mem_filter.mpr ⟨List.mem_range.mpr (wai e'),by simp[q]⟩;have z:(zoB h H).get? b=none:=W.hideAll_none (trk h H) hm;rw[z] at e;cases e
def zsi(g h:Heap)(L:Addr):List (Addr×Obj):=(List.range h.objs.size).filterMap λa=>if a=L\/(g.get? a).isSome=true then none else (h.get? a).map λo=>(a,o)
def zbo(g h:Heap)(L d:Addr):List (Addr×Obj):=(zsi g h L).filter λp=>decide (p.1≠d)
end L2
namespace L2
open PySem PySem.Spec PyProof.Rows
structure Mod(K:W.Frag)(mg:Str->Option Value)(base:Heap):Prop where
 kin:K.In base
 glob:base.Ns mainGlobals mg
 blt:∃ mb,base.Ns builtinsNs mb/\∀ x:Str,x≠"__name__"->mb x=bootBuiltins x
 nolimit:base.NoLimit
structure Cx where
 prog:Program
 w:World
 K:W.Frag
 mg:Str->Option Value
 base:Heap
 A:Around
 N:List Str
 s₀:Shared
 H₀:Hp
 env:Env
 outer:List Env
 stack:List Env
 ex:List Addr
 fn:Str->Bool
 calm:Bool
 pn:List (Addr×Obj)
 xe:Value->Shared->Prop
def frs(l:List Env):List Addr:=l.filterMap (·.frame)
abbrev Cx.fs(X:Cx):List Addr:=frs X.outer
def Vis(sc:Scope)(x:Str):Prop:=sc.names.lookup x=some .local\/sc.names.lookup x=some .cell\/sc.names.lookup x=some .free
def Loc(sc:Scope)(x:Str):Prop:=sc.names.lookup x=some .local\/sc.names.lookup x=some .cell
def Look(env:Env)(h:Heap)(m:Str->Option Value)(x:Str)(u:Value):Prop :=
 (env.kindOf x=some .local/\m x=some u)\/((env.kindOf x=some .cell\/env.kindOf x=some .free)/\∃ c,env.cells.lookup x=some c/\h.IsCell c (some u))
structure Cx.Ok(X:Cx):Prop where
 mod:Mod X.K X.mg X.base
 kind:X.env.scope.kind=.function
 glob:X.env.globals=mainGlobals
 blt:X.env.builtins=builtinsNs
 above:X.s₀.heap.objs.size<=X.env.locals
 inj:∀ x y c,X.env.cells.lookup x=some c->X.env.cells.lookup y=some c->x=y
 has:∀ x,(X.env.kindOf x=some .cell\/X.env.kindOf x=some .free)->∃ c,X.env.cells.lookup x=some c
 cab:∀ x c,X.fn x=true->X.env.cells.lookup x=some c->X.s₀.heap.objs.size<=c
 hd:X.calm=true->X.A.handled=none
 frames:X.A.frames=some X.stack
 stk:X.stack=X.outer\/(X.stack=X.env::X.outer/\X.env.frame=some X.env.locals)
 exf:∀ b∈X.ex,b≠X.env.locals/\∀ x c,X.env.cells.lookup x=some c->c≠b
 bs:∀ b o,X.base.get? b=some o->X.s₀.heap.get? b=some o/\X.H₀ b=none
 bsz:X.base.objs.size<=X.s₀.heap.objs.size
 noex:∀ b o,X.base.get? b=some o->b∉X.ex
 exfs:∀ b∈X.ex,b∉X.fs
 funs:X.s₀.heap.FunFrames X.base X.outer
 frf:∀ b∈X.fs,X.H₀ b=none
structure Inv(X:Cx)(pS:List (Addr×Obj))(Y:List (Option V))(H:Hp)(s:Shared):Prop where
 ok:X.Ok
 os:s.os=X.s₀.os
 bare:AllBare s.gens
 base:Un X.fs X.ex X.H₀ H X.s₀.heap s.heap
 loc:∃ m,s.heap.Ns X.env.locals m/\∀(i:Nat)(x:Str)(v:V),X.N[i]? = some x->Y[i]? = some (some v)->Vis X.env.scope x->∃ u,zca v u/\Look X.env s.heap m x u
 cell:∀ x c,X.env.cells.lookup x=some c->∃ v,s.heap.IsCell c v
 free:H X.env.locals=none
 freeC:∀ x c,X.env.cells.lookup x=some c->H c=none
 pin:∀ p∈X.pn++pS,s.heap.get? p.1=some p.2/\H p.1=none/\p.1≠X.env.locals/\p.1∉X.fs/\∀ v,p.2.data≠.cell v
 hok:HOk X.prog X.w H s.heap
 len:Y.length=X.N.length
section
variable{X:Cx}{pS:List (Addr×Obj)}{Y:List (Option V)}{H H':Hp}{s:Shared}{h':Heap}
theorem Cx.Ok.nofr(ok:X.Ok){b:Addr}{o:Obj}(e:X.base.get? b=some o):b∉X.fs:=λhb=>by have:=(ok.funs.mem hb).1;rw[e] at this;cases this
theorem Inv.bs(I:Inv X pS Y H s):∀ b o,X.base.get? b=some o->s.heap.get? b=some o/\H b=none:=λb o e =>
 ⟨I.base.keep b o (I.ok.bs b o e).1 (I.ok.bs b o e).2 (I.ok.nofr e) (I.ok.noex b o e),I.base.free b o (I.ok.bs b o e).1 (I.ok.bs b o e).2 (I.ok.noex b o e)⟩
theorem Inv.bk(I:Inv X pS Y H s):∀ b o,X.base.get? b=some o->s.heap.get? b=some o:=λb o e=>(I.bs b o e).1
theorem Inv.mod(I:Inv X pS Y H s):Mod X.K X.mg X.base:=I.ok.mod
theorem Inv.kIn(I:Inv X pS Y H s):X.K.In s.heap:=I.ok.mod.kin.keeps I.bk
theorem Inv.nolimit(I:Inv X pS Y H s):s.heap.NoLimit:=I.ok.mod.nolimit.keeps I.bk
theorem Inv.fr(I:Inv X pS Y H s):∃ m,Fr X.base X.env.locals s.heap m :=
 let ⟨m,hn,_⟩:=I.loc
 ⟨m,hn,I.bk,waO I.ok.bsz I.ok.above⟩
theorem Inv.lt(I:Inv X pS Y H s):X.env.locals<s.heap.objs.size:=let ⟨_,hn,_⟩:=I.loc;hn.lt
theorem Inv.sz(I:Inv X pS Y H s):X.s₀.heap.objs.size<=s.heap.objs.size:=waO I.ok.above (Nat.le_of_lt I.lt)
theorem Inv.nofs(I:Inv X pS Y H s){a:Addr}(h:s.heap.objs.size<=a):a∉X.fs:=λhb=>by obtain ⟨_,o,ho,_⟩:=I.ok.funs.mem hb;exact absurd (was (wai ho) (waO I.sz h)) (waM _)
theorem Inv.cne(I:Inv X pS Y H s):∀ x c,X.env.cells.lookup x=some c->c≠X.env.locals:=λx c e z=>by obtain ⟨v,o,ho,hd⟩:=I.cell x c e;obtain ⟨m,⟨o',es,ep,ho',hd',_⟩,_⟩:=I.loc;rw[z,ho'] at ho;cases ho;rw[hd'] at hd;cases hd
theorem Inv.funs(I:Inv X pS Y H s):s.heap.FunFrames X.base X.outer:=by
 have all:∀(l:List Env),(∀ b∈frs l,b∈X.fs)->X.s₀.heap.FunFrames X.base l->s.heap.FunFrames X.base l:=by
  intro l
  induction l with
  |nil=>intro _ _;trivial
  |cons env r ih =>
   intro hs hl;obtain ⟨hk,⟨L,o,hf,hn,ho,hd⟩,hr⟩:=hl;have hL:L∈X.fs:=hs L (by unfold frs;rw[List.filterMap_cons,hf];exact wau);obtain ⟨sl,e⟩:=I.base.slot L o ho (I.ok.frf L hL) hL λz=>I.ok.exfs L z hL;exact ⟨hk,⟨L,_,hf,hn,e,hd⟩,ih (λb hb=>hs b (by unfold frs;rw[List.filterMap_cons,hf];exact wah _ hb)) hr⟩
 exact all X.outer (λ_ hb=>hb) I.ok.funs
theorem Inv.stack(I:Inv X pS Y H s):s.heap.FunFrames X.base X.stack:=by
 rcases I.ok.stk with e|⟨e,hf⟩
 ·rw[e];exact I.funs
 ·rw[e];obtain ⟨m,hn,_⟩:=I.loc;refine .cons (by rw[I.ok.kind];decide) hf hn ?_ I.funs;exact Heap.get?_none_of_le (waO I.ok.bsz I.ok.above)
theorem Inv.stkSub(I:Inv X pS Y H s):∀ b∈frs X.stack,b∈X.env.locals::X.fs:=λb hb=>by
 rcases I.ok.stk with e|⟨e,hf⟩
 ·rw[e] at hb;exact wah _ hb
 ·rw[e] at hb;unfold frs at hb;rw[List.filterMap_cons,hf] at hb;exact hb
theorem Inv.stkFree(I:Inv X pS Y H s):∀ b∈frs X.stack,H b=none:=λb hb=>by
 rcases wap.mp (I.stkSub b hb) with e|hb
 ·rw[e];exact I.free
 ·obtain ⟨_,o,ho,_⟩:=I.ok.funs.mem hb;exact I.base.free b o ho (I.ok.frf b hb) λz=>I.ok.exfs b z hb
theorem Inv.step{g':Array GenState}{t':Nat}{d':Drawn}{ch:List Addr}(I:Inv X pS Y H s)
  (hch:∀ b∈ch,(b∈X.ex\/X.s₀.heap.objs.size<=b)/\b≠X.env.locals/\(∀ x c,X.env.cells.lookup x=some c->c≠b)/\∀ p∈X.pn++pS,p.1≠b)
  (keep:∀ b o,b≠X.env.locals->b∉X.fs->b∉ch->s.heap.get? b=some o->H b=none->h'.get? b=some o)
  (slot:∀ b o,b≠X.env.locals->b∈X.fs->b∉ch->s.heap.get? b=some o->H b=none->∃ sl,h'.get? b=some { o with slots:=sl }) (free:∀ b o,b∉ch->s.heap.get? b=some o->H b=none->H' b=none)
  (there:∀ b o,b∉ch->s.heap.get? b=some o->∃ o',h'.get? b=some o')
  (tups:∀ b xs,H b=some (.tup xs)->H' b=some (.tup xs)) (frzs:∀ b o u,H b=some (.frz o u)->H' b=some (.frz o u)) (tbls:∀ b ps,H b=some (.tbl ps)->∃ more,H' b=some (.tbl (ps++more)))
  (ns:∀ m,s.heap.Ns X.env.locals m->h'.Ns X.env.locals m) (hok:HOk X.prog X.w H' h') (hg:AllBare g') :
  Inv X pS Y H' { s with heap:=h',gens:=g',drawn:=d',toks:=t' }:=by
 have neL:∀ b o,X.s₀.heap.get? b=some o->b≠X.env.locals:=λb o e=>waN (was (wai e) I.ok.above);have neC:∀ b o,X.s₀.heap.get? b=some o->b∉X.ex->b∉ch:=λb o e hx hb=>by
  rcases (hch b hb).1 with z|z
  ·exact hx z
  ·exact absurd (was (wai e) z) (waM _)
 have cellK:∀ x c,X.env.cells.lookup x=some c->∀ v,s.heap.IsCell c v->h'.IsCell c v:=λx c e v ⟨o,ho,hd⟩=>by
  have nch:c∉ch:=λz=>(hch c z).2.2.1 x c e rfl;by_cases hc:c∈X.fs
  ·obtain ⟨sl,q⟩:=slot c o (I.cne x c e) hc nch ho (I.freeC x c e);exact ⟨_,q,hd⟩
  ·exact ⟨o,keep c o (I.cne x c e) hc nch ho (I.freeC x c e),hd⟩
 refine ⟨I.ok,I.os,hg,⟨λb o e n hb hx=>?_,λb o e n hb hx=>?_,λb o e n hx=>?_,λb o e hx=>?_,λb xs e=>tups b xs (I.base.tups b xs e),λb o xs e=>frzs b o xs (I.base.frzs b o xs e),λb ps e=>?_⟩,?_,λx c e=>?_,?_,λx c e=>?_,λp hp=>?_,hok,I.len⟩
 ·exact keep b o (neL b o e) hb (neC b o e hx) (I.base.keep b o e n hb hx) (I.base.free b o e n hx)
 ·obtain ⟨sl,e1⟩:=I.base.slot b o e n hb hx;obtain ⟨sl',e2⟩:=slot b _ (neL b o e) hb (neC b o e hx) e1 (I.base.free b o e n hx);exact ⟨sl',e2⟩
 ·obtain ⟨o',e1⟩:=I.base.there b o e hx;exact free b o' (neC b o e hx) e1 (I.base.free b o e n hx)
 ·obtain ⟨o',e1⟩:=I.base.there b o e hx;exact there b o' (neC b o e hx) e1
 ·obtain ⟨m1,e1⟩:=I.base.tbls b ps e;obtain ⟨m2,e2⟩:=tbls b _ e1;exact ⟨m1++m2,by rw[e2,Array.append_assoc]⟩
 ·obtain ⟨m,hn,hl⟩:=I.loc;refine ⟨m,ns m hn,λi x v e1 e2 e3=>?_⟩;obtain ⟨u,r,l⟩:=hl i x v e1 e2 e3;refine ⟨u,r,?_⟩;rcases l with l|⟨k,c,e,z⟩
  ·exact .inl l
  ·exact .inr ⟨k,c,e,cellK x c e _ z⟩
 ·obtain ⟨v,z⟩:=I.cell x c e;exact ⟨v,cellK x c e v z⟩
 ·obtain ⟨m,⟨o,_,_,ho,_⟩,_⟩:=I.loc;exact free _ o (λz=>(hch _ z).2.1 rfl) ho I.free
 ·obtain ⟨v,o,ho,hd⟩:=I.cell x c e;exact free c o (λz=>(hch c z).2.2.1 x c e rfl) ho (I.freeC x c e)
 ·obtain ⟨e,n,ne,nf,d⟩:=I.pin p hp;have nch:p.1∉ch:=λz=>(hch p.1 z).2.2.2 p hp rfl;exact ⟨keep p.1 p.2 ne nf nch e n,free p.1 p.2 nch e n,ne,nf,d⟩
theorem Inv.un{t':Nat}(I:Inv X pS Y H s)(u:Un X.fs [] H H' s.heap h')(hok:HOk X.prog X.w H' h'):Inv X pS Y H' { s with heap:=h',toks:=t' }:=by
 obtain ⟨m,⟨o,es,ep,ho,r⟩,_⟩:=id I.loc;obtain ⟨sl,hL⟩:=u.any ho I.free xws;exact I.step (g':=s.gens) (d':=s.drawn) (ch:=[]) (λ_ z=>nomatch z) (λb o _ hb _ e n=>u.keep b o e n hb xws) (λb o _ hb _ e n=>u.slot b o e n hb xws) (λb o _ e n=>u.free b o e n xws) (λb o _ e=>u.there b o e xws) u.tups u.frzs u.tbls (λm' hm=>by obtain ⟨o',es',ep',ho',r'⟩:=hm;rw[ho] at ho';cases ho';exact ⟨_,es',ep',hL,r'⟩) hok I.bare
theorem Inv.call{g':Array GenState}{t':Nat}{d':Drawn}{ch:List Addr}(I:Inv X pS Y H s)(u:Un (frs X.stack) ch H H' s.heap h')(hok:HOk X.prog X.w H' h')(hg:AllBare g')
  (hch:∀ b∈ch,(b∈X.ex\/X.s₀.heap.objs.size<=b)/\b≠X.env.locals/\(∀ x c,X.env.cells.lookup x=some c->c≠b)/\∀ p∈X.pn++pS,p.1≠b) :
  Inv X pS Y H' { s with heap:=h',gens:=g',drawn:=d',toks:=t' }:=by
 obtain ⟨m,⟨o,es,ep,ho,r⟩,_⟩:=id I.loc;obtain ⟨sl,hL⟩:=u.any ho I.free λz=>(hch _ z).2.1 rfl;exact I.step (ch:=ch) hch (λb o hL hb hc e n=>u.keep b o e n (λz=>(wap.mp (I.stkSub b z)).elim hL hb) hc) (λb o _ _ hc e n=>u.any e n hc) (λb o hc e n=>u.free b o e n hc) (λb o hc e=>u.there b o e hc) u.tups u.frzs u.tbls (λm' hm=>by obtain ⟨o',es',ep',ho',r'⟩:=hm;rw[ho] at ho';cases ho';exact ⟨_,es',ep',hL,r'⟩) hok hg
theorem Inv.turned{t':Nat}{it:Addr}(I:Inv X pS Y H s)(k:∀ b o,b≠it->s.heap.get? b=some o->h'.get? b=some o)(hn:H it=none)(hL:it≠X.env.locals)
  (h1:it∈X.ex\/X.s₀.heap.objs.size<=it) (h2:∀ x c,X.env.cells.lookup x=some c->c≠it) (h3:∀ p∈X.pn++pS,p.1≠it):Inv X pS Y H { s with heap:=h',toks:=t' }:=by
 have nit:∀ b u,H b=some u->b≠it:=λb u e z=>by rw[z,hn] at e;cases e
 refine I.step (g':=s.gens) (d':=s.drawn) (ch:=[it]) (λb hb=>?_) (λb o _ _ hc e _=>k b o (λz=>hc (by simp[z])) e) (λb o _ _ hc e _=>⟨o.slots,k b o (λz=>hc (by simp[z])) e⟩) (λ_ _ _ _ n=>n)
  (λb o hc e=>⟨o,k b o (λz=>hc (by simp[z])) e⟩) (λ_ _ e=>e) (λ_ _ _ e=>e) (λb ps e=>⟨#[],by rw[e];simp⟩) (λm hm=>?_) (λb u e=>?_) I.bare
 ·have e:b=it:=by simpa using hb
  subst e;exact ⟨h1,hL,h2,h3⟩
 ·obtain ⟨o,es,ep,ho,r⟩:=hm;exact ⟨o,es,ep,k _ o (Ne.symm hL) ho,r⟩
 ·refine (I.hok b u e).stay (λc v hc q=>k c v ?_ q) (λ_ q=>q) λ_ _ q=>q;rcases hc with z|z
  ·rw[z];exact nit b u e
  ·exact nit c _ z
theorem Inv.tok(I:Inv X pS Y H s)(t:Nat):Inv X pS Y H { s with toks:=t }:=I.un (h':=s.heap) (t':=t) Un.refl I.hok
theorem Inv.kept{t':Nat}(I:Inv X pS Y H s)(k:∀ b u,s.heap.get? b=some u->h'.get? b=some u):Inv X pS Y H { s with heap:=h',toks:=t' }:=I.un (Un.kept k) (I.hok.kept k)
theorem Inv.laid{a:Addr}{o:HO}{t':Nat}(I:Inv X pS Y H s)(k:∀ b u,s.heap.get? b=some u->h'.get? b=some u)(hp:s.heap.objs.size<=a)(new:zc2 X.prog X.w (upd H a o) h' a o) :
  Inv X pS Y (upd H a o) { s with heap:=h',toks:=t' }:=I.un (Un.laid k hp (I.hok.fresh hp)) (I.hok.laid k hp new)
theorem Inv.write{x e:Addr}{o:HO}{t':Nat}(I:Inv X pS Y H s)(mu:Mut (H x))(he:e=x\/H e=some (.own x))(k:∀ b u,b≠e->s.heap.get? b=some u->h'.get? b=some u)(heo:∃ u,h'.get? e=some u)
  (new:zc2 X.prog X.w (upd H x o) h' x o):Inv X pS Y (upd H x o) { s with heap:=h',toks:=t' }:=I.un (Un.write mu he k heo) (I.hok.write mu he k heo new)
theorem Inv.weak{Y':List (Option V)}(I:Inv X pS Y H s)(hl:Y'.length = Y.length)(w:∀(i:Nat) v,Y'[i]? = some (some v)->Y[i]? = some (some v)):Inv X pS Y' H s :=
 ⟨I.ok,I.os,I.bare,I.base,let ⟨m,hn,hl'⟩:=I.loc;⟨m,hn,λi x v e1 e2 e3=>hl' i x v e1 (w i v e2) e3⟩,I.cell,I.free,I.freeC,I.pin,I.hok,hl.trans I.len⟩
theorem Inv.pins_of{pins':List (Addr×Obj)}(I:Inv X pS Y H s)(h:∀ p∈pins',s.heap.get? p.1=some p.2/\H p.1=none/\p.1≠X.env.locals/\p.1∉X.fs/\∀ v,p.2.data≠.cell v):Inv X pins' Y H s :=
 ⟨I.ok,I.os,I.bare,I.base,I.loc,I.cell,I.free,I.freeC,λp hp=>(wax.mp hp).elim (λz=>I.pin p (waS _ z)) (h p),I.hok,I.len⟩
theorem zhV{N:List Str}(hN:N.Nodup){i j:Nat}{x:Str}(a:N[i]? = some x)(b:N[j]? = some x):i=j:=by obtain ⟨h1,e1⟩:=wam.mp a;obtain ⟨h2,e2⟩:=wam.mp b;exact (List.getElem_inj hN).mp (e1.trans e2.symm)
theorem zkf{M:Model}{A:Around}{E:Value->Shared->Prop}{i:Nat}{x:Str}{v:V}{u:Value}{Q:Unit->Shared->Prop}(I:Inv X pS Y H s)(hN:X.N.Nodup)(hi:X.N[i]? = some x)(hx:Loc X.env.scope x)(r:zca v u)
  (h:∀ s',Inv X pS (Y.set i (some v)) H s'->(∃ a,Heap.SameBut a s.heap s'.heap/\(a=X.env.locals\/X.env.cells.lookup x=some a))->Q () s') (hf:X.fn x=true\/X.env.scope.names.lookup x=some .local:=by exact xwA):wpAny M A (storeName X.env x u) Q E s:=by
 obtain ⟨m,hn,hl⟩:=id I.loc;have hcls:(X.env.scope.kind == .class || (X.env.scope.kind == .module && X.env.locals != X.env.globals))=false:=by rw[I.ok.kind];rfl
 have hiσ:i < Y.length:=by rw[I.len];exact (wam.mp hi).1
 have cne:=I.cne;have tracked:∀{a:Addr}{h':Heap},(∃ o,s.heap.get? a=some o/\H a=none)->Heap.SameBut a s.heap h'->HOk X.prog X.w H h':=λ{a h'} ha hs b ob e=>by
  obtain ⟨_,_,hfree⟩:=ha;refine (I.hok b ob e).stay (λc w' hc q=>(hs.2 c ?_).trans q) (λ_ q=>q) λ_ _ q=>q;rintro rfl;rcases hc with rfl|hc
  ·rw[hfree] at e;cases e
  ·rw[hfree] at hc;cases hc
 rcases hx with hk|hk
 ·refine wpAny_storeName_local hk hn (λh' hn' hs=>?_) hcls;obtain ⟨oL,_,_,hoL,_⟩:=id hn;refine h _ ⟨I.ok,I.os,I.bare,⟨λb o e n hb hx=>?_,λb o e n hb hx=>?_,I.base.free,λb o e hx=>?_,I.base.tups,I.base.frzs,I.base.tbls⟩,⟨_,hn',λj y v' e1 e2 e3=>?_⟩,λy c e=>?_,I.free,I.freeC,λp hp=>?_,tracked ⟨oL,hoL,I.free⟩ hs,by simpa using I.len⟩ ⟨_,hs,.inl rfl⟩
  ·exact (hs.2 b (waN (was (wai e) I.ok.above))).trans (I.base.keep b o e n hb hx)
  ·obtain ⟨sl,e1⟩:=I.base.slot b o e n hb hx;exact ⟨sl,(hs.2 b (waN (was (wai e) I.ok.above))).trans e1⟩
  ·obtain ⟨o',e1⟩:=I.base.there b o e hx;exact ⟨o',(hs.2 b (waN (was (wai e) I.ok.above))).trans e1⟩
  ·by_cases hj:j=i
   ·subst hj;rw[hi] at e1;cases e1;rw[List.getElem?_set_self hiσ] at e2;cases e2;exact ⟨u,r,.inl ⟨hk,xws⟩⟩
   ·rw[List.getElem?_set_ne (Ne.symm hj)] at e2;obtain ⟨u',r',q⟩:=hl j y v' e1 e2 e3;refine ⟨u',r',?_⟩;rcases q with ⟨k,e⟩|⟨k,c,e,z⟩
    ·refine .inl ⟨k,?_⟩;have:y≠x:=λe=>hj (zhV hN e1 (e ▸ hi));simp[this,e]
    ·exact .inr ⟨k,c,e,z.sameBut hs (cne y c e)⟩
  ·obtain ⟨w',z⟩:=I.cell y c e;exact ⟨w',z.sameBut hs (cne y c e)⟩
  ·obtain ⟨e,n,ne,nf,d⟩:=I.pin p hp;exact ⟨(hs.2 p.1 ne).trans e,n,ne,nf,d⟩
 ·have hfn:X.fn x=true:=by
   rcases hf with z|z
   ·exact z
   ·rw[z] at hk;cases hk
  obtain ⟨c,hc⟩:=I.ok.has x (.inl hk);obtain ⟨w',z⟩:=I.cell x c hc;refine wpAny_storeName_cell I.ok.kind hk hc z (λh' hc' hs=>?_);obtain ⟨oc,hoc,hocd⟩:=id z;refine h { s with heap:=h' } ⟨I.ok,I.os,I.bare,⟨λb o e n hb hx=>?_,λb o e n hb hx=>?_,I.base.free,λb o e hx=>?_,I.base.tups,I.base.frzs,I.base.tbls⟩,⟨m,hn.sameBut hs (Ne.symm (cne x c hc)),λj y v' e1 e2 e3=>?_⟩,λy c' e=>?_,I.free,I.freeC,λp hp=>?_,tracked ⟨oc,hoc,I.freeC x c hc⟩ hs,by simpa using I.len⟩ ⟨c,hs,.inr hc⟩
  ·exact (hs.2 b (waN (was (wai e) (I.ok.cab x c hfn hc)))).trans (I.base.keep b o e n hb hx)
  ·obtain ⟨sl,e1⟩:=I.base.slot b o e n hb hx;exact ⟨sl,(hs.2 b (waN (was (wai e) (I.ok.cab x c hfn hc)))).trans e1⟩
  ·obtain ⟨o',e1⟩:=I.base.there b o e hx;exact ⟨o',(hs.2 b (waN (was (wai e) (I.ok.cab x c hfn hc)))).trans e1⟩
  ·by_cases hj:j=i
   ·subst hj;rw[hi] at e1;cases e1;rw[List.getElem?_set_self hiσ] at e2;cases e2;exact ⟨u,r,.inr ⟨.inl hk,c,hc,hc'⟩⟩
   ·rw[List.getElem?_set_ne (Ne.symm hj)] at e2;obtain ⟨u',r',q⟩:=hl j y v' e1 e2 e3;refine ⟨u',r',?_⟩;rcases q with q|⟨k,c',e,z'⟩
    ·exact .inl q
    ·refine .inr ⟨k,c',e,z'.sameBut hs ?_⟩;rintro rfl;exact hj (zhV hN e1 (I.ok.inj _ _ _ e hc ▸ hi))
  ·by_cases hcc:c'=c
   ·subst hcc;exact ⟨_,hc'⟩
   ·obtain ⟨w2,z2⟩:=I.cell y c' e;exact ⟨w2,z2.sameBut hs hcc⟩
  ·obtain ⟨e,n,ne,nf,d⟩:=I.pin p hp;refine ⟨(hs.2 p.1 ?_).trans e,n,ne,nf,d⟩;intro q;rw[q,hoc] at e;have q':oc=p.2:=waB e;exact d w' (by rw[<- q'];exact hocd)
theorem zfk{M:Model}{A:Around}{E:Value->Shared->Prop}{i:Nat}{x:Str}{v:V}{u:Value}{Q:Unit->Shared->Prop}(I:Inv X pS Y H s)(hN:X.N.Nodup)(hi:X.N[i]? = some x)(hx:Loc X.env.scope x)(r:zca v u)
  (h:∀ s',Inv X pS (Y.set i (some v)) H s'->Q () s') (hf:X.fn x=true\/X.env.scope.names.lookup x=some .local:=by exact xwA):wpAny M A (storeName X.env x u) Q E s :=
 zkf I hN hi hx r (λs' I' _=>h s' I') hf
theorem Inv.call'{s':Shared}{ch:List Addr}(I:Inv X pS Y H s)(ho:s'.os=s.os)(u:Un (frs X.stack) ch H H' s.heap s'.heap)(hok:HOk X.prog X.w H' s'.heap)(hg:AllBare s'.gens)
  (hch:∀ b∈ch,(b∈X.ex\/X.s₀.heap.objs.size<=b)/\b≠X.env.locals/\(∀ x c,X.env.cells.lookup x=some c->c≠b)/\∀ p∈X.pn++pS,p.1≠b):Inv X pS Y H' s':=by
 obtain ⟨h',g',d',t',o'⟩:=s';have e:o'=s.os:=ho;subst e;exact I.call (g':=g') (t':=t') (d':=d') u hok hg hch
end
abbrev XK:=Value->Option Addr->Hp->Prop
abbrev St:=List (Option V)
abbrev VK:=V->Hp->Prop
abbrev TE:=St->Hp->VK->Prop
abbrev TT:=St->Hp->(Bool->Hp->Prop)->Prop
abbrev TA:=St->Hp->(List V->Hp->Prop)->Prop
structure zq7 where
 nx:St->Hp->Prop
 rt:VK
 bk:St->Hp->Prop:=λ_ _=>False
 ct:St->Hp->Prop:=λ_ _=>False
abbrev TS:=zq7->St->Hp->Prop
def EP(X:Cx)(pS:List (Addr×Obj))(Y:St)(Q:VK)(u:Value)(s':Shared):Prop:=∃ v H',Inv X pS Y H' s'/\zca v u/\Q v H'
def TP(X:Cx)(pS:List (Addr×Obj))(Y:St)(Q:Bool->Hp->Prop)(b:Bool)(s':Shared):Prop:=∃ H',Inv X pS Y H' s'/\Q b H'
def AP(X:Cx)(pS:List (Addr×Obj))(Y:St)(Q:List V->Hp->Prop)(us:List Value)(s':Shared):Prop:=∃ vs H',Inv X pS Y H' s'/\zba vs us/\Q vs H'
def SP(X:Cx)(pS:List (Addr×Obj))(D:zq7)(f:Flow)(s':Shared):Prop :=
 match f with
 |.next=>∃ Y' H',Inv X pS Y' H' s'/\D.nx Y' H'
 |.brk=>∃ Y' H',Inv X pS Y' H' s'/\D.bk Y' H'
 |.cont=>∃ Y' H',Inv X pS Y' H' s'/\D.ct Y' H'
 |.ret u=>∃ v Y' H',Inv X pS Y' H' s'/\zca v u/\D.rt v H'
def PE(X:Cx)(e:Expr)(t:TE):Prop :=
 ∀(pS:List (Addr×Obj))(s:Shared)(Y:St)(H:Hp)(Q:VK),Inv X pS Y H s->t Y H Q->wpAny (model X.prog X.w) X.A (eval e X.env) (EP X pS Y Q) X.xe s
def PT(X:Cx)(e:Expr)(t:TT):Prop :=
 ∀(pS:List (Addr×Obj))(s:Shared)(Y:St)(H:Hp)(Q:Bool->Hp->Prop),Inv X pS Y H s->t Y H Q->wpAny (model X.prog X.w) X.A (isTrue e X.env (eval e X.env)) (TP X pS Y Q) X.xe s
def PW(X:Cx)(e:Expr)(t:TT):Prop :=
 ∀(whole:Sem Value)(pS:List (Addr×Obj))(s:Shared)(Y:St)(H:Hp)(Q:Bool->Hp->Prop),Inv X pS Y H s->t Y H Q->wpAny (model X.prog X.w) X.A (isTrue e X.env whole) (TP X pS Y Q) X.xe s
theorem PW.pt{X:Cx}{e:Expr}{t:TT}(h:PW X e t):PT X e t:=h _
def PA(X:Cx)(es:List Expr)(t:TA):Prop :=
 ∀(pos:Pos)(pS:List (Addr×Obj))(s:Shared)(Y:St)(H:Hp)(Q:List V->Hp->Prop),Inv X pS Y H s->t Y H Q->wpAny (model X.prog X.w) X.A (spliced (backTo pos (starEach es X.env))) (AP X pS Y Q) X.xe s
def PS(X:Cx)(st:Stmt)(t:TS):Prop :=
 ∀(pS:List (Addr×Obj))(s:Shared)(Y:St)(H:Hp)(D:zq7),Inv X pS Y H s->t D Y H->wpAny (model X.prog X.w) X.A (exec st X.env) (SP X pS D) X.xe s
def PSs(X:Cx)(st:List Stmt)(t:TS):Prop :=
 ∀(pS:List (Addr×Obj))(s:Shared)(Y:St)(H:Hp)(D:zq7),Inv X pS Y H s->t D Y H->wpAny (model X.prog X.w) X.A (execs st X.env) (SP X pS D) X.xe s
theorem thn{α:Type}{t:Sem α}{Q Q':α->Shared->Prop}{M:Model}{A:Around}{E:Value->Shared->Prop}{s:Shared}(h:wpAny M A t Q E s)(hQ:∀ a s,Q a s->Q' a s):wpAny M A t Q' E s:=wpAny_mono h hQ λ_ _ x=>x
end L2
namespace L2
open PySem PySem.Spec PyProof.Rows
section
variable{X:Cx}
def zu6(i:Nat):TE:=λY H Q=>∃ v,Y[i]? = some (some v)/\Q v H
def tC(v:V):TE:=λ_ H Q=>Q v H
theorem zcb{i:Nat}{x:Str}{pos:Pos}(hN:X.N[i]? = some x)(hv:Vis X.env.scope x)(hd:(x == ("__debug__" : Str))=false:=by decide)(hcd:(x == ("__classdict__" : Str))=false:=by decide):PE X (.Name x pos) (zu6 i):=by
 intro pS s Y H Q I h;obtain ⟨v,e,h⟩:=h;obtain ⟨m,hn,hl⟩:=I.loc;obtain ⟨u,r,l⟩:=hl i x v hN e hv;have fin:EP X pS Y Q u s:=⟨v,H,I,r,h⟩
 rcases l with ⟨hk,hm⟩|⟨hk,c,hc,hcell⟩
 ·exact wpAny_Name (wpAny_loadName_local I.ok.kind hk hn hm fin) hd
 ·rcases hk with hk|hk
  ·exact wpAny_Name (wpAny_loadName_cell I.ok.kind hk hc hcell fin) hd
  ·exact wpAny_Name (wpAny_loadName_free I.ok.kind hk hc hcell fin hcd) hd
theorem zqK{i j pos}:PE X (.Constant (.int i) j pos) (tC (.int i)):=λ_ _ _ H _ I h=>wpAny_Constant_int ⟨.int i,H,I.tok _,⟨_,rfl⟩,h⟩
theorem zvn{b j pos}:PE X (.Constant (.bool b) j pos) (tC (.bl b)):=λ_ _ _ H _ I h=>Constant_bool ⟨.bl b,H,I,rfl,h⟩
theorem ztI{j pos}:PE X (.Constant .none j pos) (tC .non):=λ_ _ _ H _ I h=>Constant_none ⟨.non,H,I,rfl,h⟩
theorem ztW{x j pos}:PE X (.Constant (.str x) j pos) (tC (.str x)):=λ_ _ _ H _ I h=>Calls.Constant_str ⟨.str x,H,I.tok _,⟨_,rfl⟩,h⟩
def Gl(X:Cx)(x:Str):Prop:=X.env.kindOf x=some .globalImplicit
theorem zhg{E:Value->Shared->Prop}{pS:List (Addr×Obj)}{s:Shared}{Y:St}{H:Hp}{x:Str}{u:Value}{pos:Pos}{Q:Value->Shared->Prop}(I:Inv X pS Y H s)(hg:Gl X x)(hm:X.mg x=some u)(h:Q u s)
  (hd:(x == ("__debug__" : Str))=false:=by decide):wpAny (model X.prog X.w) X.A (eval (.Name x pos) X.env) Q E s :=
 Calls.Name_function_global I.ok.kind hg (Calls.loadGlobal_global (by rw[I.ok.glob];exact I.mod.glob.keeps I.bk) hm h) hd
theorem zfn{E:Value->Shared->Prop}{pS:List (Addr×Obj)}{s:Shared}{Y:St}{H:Hp}{x:Str}{u:Value}{pos:Pos}{Q:Value->Shared->Prop}(I:Inv X pS Y H s)(hg:Gl X x)(hm:X.mg x=none)(hv:bootBuiltins x=some u)(h:Q u s)
  (hn:x≠"__name__":=by decide) (hd:(x == ("__debug__" : Str))=false:=by decide):wpAny (model X.prog X.w) X.A (eval (.Name x pos) X.env) Q E s:=by
 obtain ⟨mb,h1,h2⟩:=I.mod.blt;exact Calls.Name_function_global I.ok.kind hg (Calls.loadGlobal_builtin (by rw[I.ok.glob];exact I.mod.glob.keeps I.bk) hm (by rw[I.ok.blt];exact h1.keeps I.bk) ((h2 x hn).trans hv) h) hd
theorem zol{x:Str}{v:V}{u:Value}{pos:Pos}(hg:Gl X x)(hm:X.mg x=some u)(r:zca v u)(hd:(x == ("__debug__" : Str))=false:=by decide):PE X (.Name x pos) (tC v) :=
 λ_ _ _ H _ I h=>zhg I hg hm ⟨v,H,I,r,h⟩ hd
theorem ziT{x:Str}{v:V}{u:Value}{pos:Pos}(hg:Gl X x)(hm:X.mg x=none)(hv:bootBuiltins x=some u)(r:zca v u)(hn:x≠"__name__":=by decide)(hd:(x == ("__debug__" : Str))=false:=by decide):PE X (.Name x pos) (tC v) :=
 λ_ _ _ H _ I h=>zfn I hg hm hv ⟨v,H,I,r,h⟩ hn hd
variable{a b:Expr}{ta tb:TE}{pos:Pos}
def tB(t:TE):TT:=λY H Q=>t Y H λx H1=>∃ c,x=.bl c/\Q c H1
theorem ztw{e:Expr}{t:TE}(h:PE X e t)(he:∀ whole,isTrue e X.env whole=(do let v <- whole;standAt e.pos;holding [v] (truthy v)):=by intro _;rfl):PT X e (tB t):=by intro pS s Y H Q I hw;refine isTrue_plain (thn (h pS s Y H _ I hw) λv s1 ⟨x,H1,I1,r1,q1⟩=>?_) (he _);obtain ⟨d,rfl,q⟩:=q1;cases r1;exact wpAny_truthy_bool ⟨H1,I1,q⟩
variable{tA tB':TT}{zbo:List Expr}
def tAnd(t u:TT):TT:=λY H Q=>t Y H λc H1=>if c=true then u Y H1 Q else Q false H1
def tOr(t u:TT):TT:=λY H Q=>t Y H λc H1=>if c=true then Q true H1 else u Y H1 Q
def tNot(t:TT):TT:=λY H Q=>t Y H λc H1=>Q (!c) H1
theorem zrs(ha:PT X a tA):PW X (.BoolOp .And [a] pos) tA:=by
 intro wh pS s Y H Q I h;refine isTrue_and (thn (ha pS s Y H Q I h) λc s1 e=>?_);cases c with
 |true=>exact isTrue_and_nil e
 |false=>exact e
theorem ztX(ha:PT X a tA):PW X (.BoolOp .Or [a] pos) tA:=by
 intro wh pS s Y H Q I h;refine isTrue_or (thn (ha pS s Y H Q I h) λc s1 e=>?_);cases c with
 |false=>exact isTrue_or_nil e
 |true=>exact e
theorem zur(ha:PT X a tA)(hb:PW X (.BoolOp .And (b::zbo) pos) tB'):PW X (.BoolOp .And (a::b::zbo) pos) (tAnd tA tB'):=by
 intro wh pS s Y H Q I h;refine isTrue_and (thn (ha pS s Y H _ I h) λc s1 ⟨H1,I1,q1⟩=>?_);cases c with
 |true=>exact hb wh pS s1 Y H1 Q I1 q1
 |false=>exact ⟨H1,I1,q1⟩
theorem zuI(ha:PT X a tA)(hb:PW X (.BoolOp .Or (b::zbo) pos) tB'):PW X (.BoolOp .Or (a::b::zbo) pos) (tOr tA tB'):=by
 intro wh pS s Y H Q I h;refine isTrue_or (thn (ha pS s Y H _ I h) λc s1 ⟨H1,I1,q1⟩=>?_);cases c with
 |true=>exact ⟨H1,I1,q1⟩
 |false=>exact hb wh pS s1 Y H1 Q I1 q1
theorem ztj(ha:PT X a tA):PT X (.UnaryOp .Not a pos) (tNot tA):=by intro pS s Y H Q I h;exact isTrue_not (ha pS s Y H (λc H1=>Q (!c) H1) I h)
def zvg(ta tb:TE):TE:=λY H Q=>ta Y H λx H1=>∃ c,x=.bl c/\if c=true then tb Y H1 Q else Q (.bl false) H1
def zuV(ta:TE):TE:=λY H Q=>ta Y H λx H1=>∃ c,x=.bl c/\Q (.bl (!c)) H1
theorem ztY{op}{t:TE}(h:PE X a t):PE X (.BoolOp op [a] pos) t:=λpS s Y H Q I hw=>BoolOp_one (h pS s Y H Q I hw)
theorem zsU(ha:PE X a ta)(hb:PE X (.BoolOp .And (b::zbo) pos) tb):PE X (.BoolOp .And (a::b::zbo) pos) (zvg ta tb):=by
 intro pS s Y H Q I h;refine BoolOp_and (thn (ha pS s Y H _ I h) λv s1 ⟨x,H1,I1,r1,q1⟩=>?_);obtain ⟨c,rfl,q1⟩:=q1;cases r1;refine wpAny_truthy_bool ?_;cases c with
 |true=>exact hb pS s1 Y H1 Q I1 q1
 |false=>exact ⟨.bl false,H1,I1,rfl,q1⟩
theorem zsP(ha:PE X a ta):PE X (.UnaryOp .Not a pos) (zuV ta):=by intro pS s Y H Q I h;refine UnaryOp_ (thn (ha pS s Y H _ I h) λv s1 ⟨x,H1,I1,r1,q1⟩=>?_);obtain ⟨c,rfl,q1⟩:=q1;cases r1;exact not_of (wpAny_truthy_bool ⟨.bl (!c),H1,I1,rfl,q1⟩)
end
end L2
namespace L2
open PySem PySem.Spec PyProof.Rows
def SqL(K:W.Frag)(H:Hp)(a:Addr)(xs:List V):Prop :=
 Rd H a (.lst xs) \/
  ∃(o:Obj)(its:Array Value)(n:Nat),K.lookup a=some o/\o.cls=.type "list"/\o.dict=none/\o.data=.seq its n/\its.size<=sizeLine/\zba xs its.toList
def SqT(K:W.Frag)(H:Hp)(a:Addr)(xs:List V):Prop :=
 Rd H a (.tup xs) \/
  ∃(o:Obj)(its:Array Value)(n:Nat),K.lookup a=some o/\o.cls=.type "tuple"/\o.data=.seq its n/\its.size<=sizeLine/\zba xs its.toList
def absV:Value->Option V
 |.none=>some .non
 |.bool b=>some (.bl b)
 |.int i _=>some (.int i)
 |.str x _=>some (.str x)
 |.bytes b _=>some (.byt b)
 |.float b _=>some (.flt b)
 |.ref a=>some (.ref a)
 |.type n=>some (.ty n)
 |_=>none
theorem zca.abs{x:V}{u:Value}(r:zca x u):absV u=some x:=by
 cases x with
 |non=>cases r;rfl
 |bl _=>cases r;rfl
 |int _=>obtain ⟨t,rfl⟩:=r;rfl
 |str _=>obtain ⟨t,rfl⟩:=r;rfl
 |byt _=>obtain ⟨t,rfl⟩:=r;rfl
 |flt _=>obtain ⟨t,rfl⟩:=r;rfl
 |ref _=>cases r;rfl
 |ty _=>cases r;rfl
theorem zca.inj{x y:V}{u:Value}(r:zca x u)(q:zca y u):x=y:=waB (r.abs.symm.trans q.abs)
theorem zba.inj:∀{xs ys:List V}{us:List Value},zba xs us->zba ys us->xs=ys
 |_,_,_,.nil,.nil=>rfl
 |_,_,_,.cons r t,.cons r' t'=>by rw[r.inj r',zba.inj t t']
section
variable{X:Cx}{pS:List (Addr×Obj)}{Y:St}{H:Hp}{s:Shared}{a:Addr}{xs ys:List V}
theorem SqL.of{K:W.Frag}(h:H a=some (.lst xs)):SqL K H a xs:=.inl (.inl h)
theorem SqT.of{K:W.Frag}(h:H a=some (.tup xs)):SqT K H a xs:=.inl (.inl h)
theorem Inv.list(I:Inv X pS Y H s)(h:SqL X.K H a xs):∃ its:List Value,zba xs its/\PlainL s.heap a its.toArray/\xs.length<=sizeLine:=by
 rcases h with h|⟨o,its,n,hk,hc,hd,hs,hz,r⟩
 ·obtain ⟨z,its,n,r,e⟩:=h.ok I.hok;exact ⟨its,r,⟨_,n,e,rfl,rfl,rfl⟩,z⟩
 ·refine ⟨its.toList,r,⟨o,n,I.kIn a o hk,hc,hd,by simpa using hs⟩,?_⟩;have e:=r.length;simp only[Array.length_toList] at e;lia
theorem Inv.tuple(I:Inv X pS Y H s)(h:SqT X.K H a xs):∃ its:List Value,zba xs its/\IsTup s.heap a its.toArray/\xs.length<=sizeLine:=by
 rcases h with h|⟨o,its,n,hk,hc,hs,hz,r⟩
 ·obtain ⟨z,its,r,n,e⟩:=h.ok I.hok;exact ⟨its,r,⟨_,e,rfl,n,rfl⟩,z⟩
 ·refine ⟨its.toList,r,⟨o,I.kIn a o hk,hc,n,by simpa using hs⟩,?_⟩;have e:=r.length;simp only[Array.length_toList] at e;lia
theorem Inv.list_inj(I:Inv X pS Y H s)(h:SqL X.K H a xs)(h':SqL X.K H a ys):xs=ys:=by
 obtain ⟨its,r,⟨o,n,e,_,_,d⟩,_⟩:=I.list h;obtain ⟨its',r',⟨o',n',e',_,_,d'⟩,_⟩:=I.list h';rw[e] at e';cases e';rw[d] at d';injection d' with d1 _;have:its=its':=by simpa using congrArg Array.toList d1
 subst this;exact r.inj r'
theorem Inv.tuple_inj(I:Inv X pS Y H s)(h:SqT X.K H a xs)(h':SqT X.K H a ys):xs=ys:=by
 obtain ⟨its,r,⟨o,e,_,n,d⟩,_⟩:=I.tuple h;obtain ⟨its',r',⟨o',e',_,n',d'⟩,_⟩:=I.tuple h';rw[e] at e';cases e';rw[d] at d';injection d' with d1 _;have:its=its':=by simpa using congrArg Array.toList d1
 subst this;exact r.inj r'
end
abbrev Cx.wish(X:Cx)(E:Value->Shared->Prop):Cx:={ X with xe:=E }
abbrev Cx.nox(X:Cx):Cx:=X.wish λ_ _=>False
theorem Cx.Ok.wish{X:Cx}(ok:X.Ok)(E:Value->Shared->Prop):(X.wish E).Ok :=
 ⟨ok.mod,ok.kind,ok.glob,ok.blt,ok.above,ok.inj,ok.has,ok.cab,ok.hd,ok.frames,ok.stk,ok.exf,ok.bs,ok.bsz,ok.noex,ok.exfs,ok.funs,ok.frf⟩
theorem Cx.Ok.unwish{X:Cx}{E:Value->Shared->Prop}(ok:(X.wish E).Ok):X.Ok :=
 ⟨ok.mod,ok.kind,ok.glob,ok.blt,ok.above,ok.inj,ok.has,ok.cab,ok.hd,ok.frames,ok.stk,ok.exf,ok.bs,ok.bsz,ok.noex,ok.exfs,ok.funs,ok.frf⟩
section
variable{X:Cx}{pS:List (Addr×Obj)}{Y:St}{H:Hp}{s:Shared}{E:Value->Shared->Prop}
theorem Inv.wish(I:Inv X pS Y H s)(E:Value->Shared->Prop):Inv (X.wish E) pS Y H s:=⟨I.ok.wish E,I.os,I.bare,I.base,I.loc,I.cell,I.free,I.freeC,I.pin,I.hok,I.len⟩
theorem Inv.unwish(I:Inv (X.wish E) pS Y H s):Inv X pS Y H s:=⟨I.ok.unwish,I.os,I.bare,I.base,I.loc,I.cell,I.free,I.freeC,I.pin,I.hok,I.len⟩
theorem SP.unwish{D:zq7}{f:Flow}{s':Shared}(h:SP (X.wish E) pS D f s'):SP X pS D f s':=by
 cases f with
 |next=>obtain ⟨Y',H',I,q⟩:=h;exact ⟨Y',H',I.unwish,q⟩
 |brk=>obtain ⟨Y',H',I,q⟩:=h;exact ⟨Y',H',I.unwish,q⟩
 |cont=>obtain ⟨Y',H',I,q⟩:=h;exact ⟨Y',H',I.unwish,q⟩
 |ret u=>obtain ⟨v,Y',H',I,r,q⟩:=h;exact ⟨v,Y',H',I.unwish,r,q⟩
theorem PE.nox{e:Expr}{t:TE}(h:PE X.nox e t):PE X e t:=λpS s Y H Q I hw =>
 wpAny_mono (h pS s Y H Q (I.wish _) hw) (λ_ _ ⟨v,H',I',r,q⟩=>⟨v,H',I'.unwish,r,q⟩) λ_ _ z=>waP z
theorem PT.nox{e:Expr}{t:TT}(h:PT X.nox e t):PT X e t:=λpS s Y H Q I hw =>
 wpAny_mono (h pS s Y H Q (I.wish _) hw) (λ_ _ ⟨H',I',q⟩=>⟨H',I'.unwish,q⟩) λ_ _ z=>waP z
theorem PSs.nox{st:List Stmt}{t:TS}(h:PSs X.nox st t):PSs X st t:=λpS s Y H D I hw =>
 wpAny_mono (h pS s Y H D (I.wish _) hw) (λ_ _ q=>q.unwish) λ_ _ z=>waP z
end
section
variable{X:Cx}{st:Stmt}{zbo:List Stmt}{t u:TS}{e:Expr}{te:TE}{pos:Pos}
def zuS:TS:=λD Y H=>D.nx Y H
def tSeq(t u:TS):TS:=λD Y H=>t { D with nx:=u D } Y H
theorem zsk:PSs X [] zuS:=λ_ _ Y H _ I h=>wpAny_execs_nil ⟨Y,H,I,h⟩
theorem ze2(h1:PS X st t)(h2:PSs X zbo u):PSs X (st::zbo) (tSeq t u):=by
 intro pS s Y H D I h;refine wpAny_execs_cons (thn (h1 pS s Y H { D with nx:=u D } I h) λf s1 q=>?_);cases f with
 |next =>
  obtain ⟨Y',H',I',q⟩:=q;exact h2 pS s1 Y' H' D I' q
 |ret v=>exact q
 |brk=>exact q
 |cont=>exact q
theorem zkD(h1:PS X st t):PSs X [st] t:=by
 intro pS s Y H D I h;refine wpAny_execs_cons (thn (h1 pS s Y H D I h) λf s1 q=>?_);cases f with
 |next=>exact wpAny_execs_nil q
 |ret v=>exact q
 |brk=>exact q
 |cont=>exact q
theorem Inv.quiet{pS:List (Addr×Obj)}{Y:St}{H:Hp}{s:Shared}(I:Inv X pS Y H s):interactive X.env=false:=by simp[interactive,I.ok.kind]
def zuv(te:TE):TS:=λD Y H=>te Y H λ_ H1=>D.nx Y H1
theorem zop(he:PE X e te)(hs:swapsWith e none pos.line X.env=pure false:=by rfl):PS X (.Expr e pos) (zuv te):=by intro pS s Y H D I h;exact wpAny_Expr_any (thn (he pS s Y H _ I h) λv s1 ⟨x,H1,I1,r1,q1⟩=>⟨Y,H1,I1,q1⟩) I.quiet hs
def tRet(te:TE):TS:=λD Y H=>te Y H D.rt
theorem zqT(he:PE X e te):PS X (.Return (some e) pos) (tRet te):=by intro pS s Y H D I h;exact wpAny_Return_some (thn (he pS s Y H _ I h) λv s1 ⟨x,H1,I1,r1,q1⟩=>⟨x,Y,H1,I1,r1,q1⟩)
def tIfS(c:TT)(t u:TS):TS:=λD Y H=>c Y H λb H1=>if b=true then t D Y H1 else u D Y H1
theorem zvl{c:Expr}{a b:List Stmt}{tc:TT}(hc:PT X c tc)(ha:PSs X a t)(hb:PSs X b u):PS X (.If c a b pos) (tIfS tc t u):=by
 intro pS s Y H D I h;refine wpAny_If (thn (hc pS s Y H _ I h) λd s1 ⟨H1,I1,q1⟩=>?_);cases d with
 |true=>exact ha pS s1 Y H1 D I1 q1
 |false=>exact hb pS s1 Y H1 D I1 q1
end
abbrev TG:=V->St->Hp->(St->Hp->Prop)->Prop
abbrev TGs:=List V->St->Hp->(St->Hp->Prop)->Prop
def PG(X:Cx)(target:Expr)(t:TG):Prop :=
 ∀(pS:List (Addr×Obj))(s:Shared)(Y:St)(H:Hp)(v:V)(u:Value)(Q:St->Hp->Prop),Inv X pS Y H s->zca v u->t v Y H Q ->
  wpAny (model X.prog X.w) X.A (assign target X.env u) (λ_ s'=>∃ Y' H',Inv X pS Y' H' s'/\Q Y' H') X.xe s
def PGs(X:Cx)(ts:List Expr)(t:TGs):Prop :=
 ∀(pS:List (Addr×Obj))(s:Shared)(Y:St)(H:Hp)(vs:List V)(us:List Value)(Q:St->Hp->Prop),Inv X pS Y H s->zba vs us->t vs Y H Q ->
  wpAny (model X.prog X.w) X.A (assignInOrder ((assignEach ts X.env).map (·.2)) us) (λ_ s'=>∃ Y' H',Inv X pS Y' H' s'/\Q Y' H') X.xe s
abbrev zuC:=V->V->V->Hp->(Hp->Prop)->Prop
def PSet(X:Cx)(t:zuC):Prop :=
 ∀(pS:List (Addr×Obj))(s:Shared)(Y:St)(H:Hp)(o i v:V)(ov iv u:Value)(Q:Hp->Prop),Inv X pS Y H s->zca o ov->zca i iv->zca v u->t o i v H Q ->
  wpAny (model X.prog X.w) X.A (setItem ov iv u) (λ_ s'=>∃ H',Inv X pS Y H' s'/\Q H') X.xe s
section
variable{X:Cx}{pos:Pos}
def zsp(i:Nat):TG:=λv Y H Q=>Q (Y.set i (some v)) H
theorem zim{i:Nat}{x:Str}(hN:X.N.Nodup)(hi:X.N[i]? = some x)(hx:Loc X.env.scope x)(hf:X.fn x=true\/X.env.scope.names.lookup x=some .local:=by exact xwA):PG X (.Name x pos) (zsp i):=by intro pS s Y H v u Q I r h;exact wpAny_assign_Name (zfk I hN hi hx r (λs' I'=>⟨_,H,I',h⟩) hf)
def gNil:TGs:=λvs Y H Q=>vs=[]/\Q Y H
def zuZ(t:TG)(u:TGs):TGs:=λvs Y H Q=>∃ v r,vs=v::r/\t v Y H λY' H'=>u r Y' H' Q
theorem zsr:PGs X [] gNil:=by intro pS s Y H vs us Q I r h;obtain ⟨e,h⟩:=h;subst e;cases r;exact assignInOrder_nil ⟨Y,H,I,h⟩
theorem zlM{e:Expr}{es:List Expr}{t:TG}{u:TGs}(h1:PG X e t)(h2:PGs X es u)
  (hs:(assignEach (e::es) X.env).map (·.2)=assign e X.env::(assignEach es X.env).map (·.2):=by rfl):PGs X (e::es) (zuZ t u):=by
 intro pS s Y H vs us Q I r h;obtain ⟨v,vr,e1,h⟩:=h;subst e1;cases r with
 |cons r rr =>
  rw[hs];refine assignInOrder_cons (thn (h1 pS s Y H _ _ _ I r h) λ_ s1 ⟨Y1,H1,I1,q1⟩=>?_);exact h2 pS s1 Y1 H1 _ _ Q I1 rr q1
def gTup(K:W.Frag)(n:Nat)(t:TGs):TG:=λv Y H Q=>∃ a xs,v=.ref a/\SqT K H a xs/\xs.length=n/\t xs Y H Q
theorem zsL{es:List Expr}{k:Nat}{t:TGs}{n:Nat}(hc:X.calm=true)(h:PGs X es t)
  (hn:(assignEach es X.env).length=n:=by rfl) (hst:(assignEach es X.env).findIdx? (·.1)=none:=by rfl):PG X (.Tuple es k pos) (gTup X.K n t):=by
 intro pS s Y H v u Q I r hw;obtain ⟨a,xs,e1,hq,hl,hw⟩:=hw;subst e1;cases r;obtain ⟨its,rv,ht,hz⟩:=I.tuple hq;refine assign_Tuple_tuple (I.ok.hd hc) ht (by simp[hn,<- hl,rv.length]) hst λh' hx=>?_;have I1:Inv X pS Y H { s with heap:=h' }:=I.kept (t':=s.toks) λb o e=>hx b o (waN (wai e)) e;exact h pS _ Y H xs _ Q I1 (by simpa using rv) hw
def zhp(to ti:TE)(t:zuC):TG:=λv Y H Q=>to Y H λo H1=>ti Y H1 λi H2=>t o i v H2 λH3=>Q Y H3
theorem ztH{o i:Expr}{to ti:TE}{t:zuC}(ho:PE X o to)(hi:PE X i ti)(hs:PSet X t)
  (ha:∀ v,assign (.Subscript o i pos) X.env v=(do
   let ov <- holding [v] (eval o X.env);let iv <- holding [v,ov] (eval i X.env)
   standAt pos
   holding [v,ov,iv] (setItem ov iv v)
   release [v,ov,iv] []):=by intro _;rfl):PG X (.Subscript o i pos) (zhp to ti t):=by
 intro pS s Y H v u Q I r h;rw[ha];refine wab (wpAny_holding (thn (ho pS s Y H _ I h) λov s1 ⟨x,H1,I1,r1,q1⟩=>?_));refine wab (wpAny_holding (thn (hi pS s1 Y H1 _ I1 q1) λiv s2 ⟨y,H2,I2,r2,q2⟩=>?_));refine wab (wpAny_standAt (wab (wpAny_holding (thn (hs pS s2 Y H2 x y v ov iv u _ I2 r1 r2 r q2) λ_ s3 ⟨H3,I3,q3⟩=>?_))));exact wpAny_release ⟨Y,H3,I3,q3⟩
def zvi(te:TE)(g:TG):TS:=λD Y H=>te Y H λx H1=>g x Y H1 D.nx
theorem zqI{tg e:Expr}{te:TE}{g:TG}(he:PE X e te)(hg:PG X tg g)(hs:swapsWithSole [tg] e pos.line X.env=pure false:=by rfl)(hw:swappedStores [tg] e X.env=pure none:=by rfl)
  (h1:(assignEach [tg] X.env).map (·.2)=[assign tg X.env]:=by rfl):PS X (.Assign [tg] e pos) (zvi te g):=by
 intro pS s Y H D I h;refine wpAny_Assign_stores (thn (he pS s Y H _ I h) λv s1 ⟨x,H1,I1,r1,q1⟩=>?_) hs hw;rw[h1];exact thn (hg pS s1 Y H1 x v _ I1 r1 q1) λ_ s2 q=>q
theorem zlu{i:Nat}{x:Str}{e:Expr}{te:TE}{pos':Pos}(hN:X.N.Nodup)(hi:X.N[i]? = some x)(hx:Loc X.env.scope x)(he:PE X e te)(hs:swapsWith e (some (.Name x pos')) pos.line X.env=pure false:=by rfl)(hf:X.fn x=true\/X.env.scope.names.lookup x=some .local:=by exact xwA) :
  PS X (.Assign [.Name x pos'] e pos) (zvi te (zsp i)):=by
 intro pS s Y H D I h;refine wpAny_Assign_Name (thn (he pS s Y H _ I h) λv s1 ⟨y,H1,I1,r1,q1⟩=>?_) hs;exact zfk I1 hN hi hx r1 (λs2 I2=>⟨_,H1,I2,q1⟩) hf
def tPar(i j:Nat)(ta:TA):TS:=λD Y H=>ta Y H λvs H1=>∃ v w,vs=[v,w]/\D.nx ((Y.set i (some v)).set j (some w)) H1
theorem ztZ{i j:Nat}{x y:Str}{a b:Expr}{ta:TA}{px py pt:Pos}{kt k2 pt2}(hc:X.calm=true)(hN:X.N.Nodup)(hi:X.N[i]? = some x)(hj:X.N[j]? = some y)(hij:i≠j)
  (hx:X.env.scope.names.lookup x=some .local) (hy:X.env.scope.names.lookup y=some .local) (ha:PA X [a,b] ta)
  (hw:swappedStores [.Tuple [.Name x px,.Name y py] kt pt] (.Tuple [a,b] k2 pt2) X.env=pure (some [x,y]))
  (hs:swapsWithSole [.Tuple [.Name x px,.Name y py] kt pt] (.Tuple [a,b] k2 pt2) pos.line X.env=pure false:=by rfl) :
  PS X (.Assign [.Tuple [.Name x px,.Name y py] kt pt] (.Tuple [a,b] k2 pt2) pos) (tPar i j ta):=by
 intro pS s Y H D I h;rw[exec_Assign_arm];refine wab (wpAny_standAt ?_);rw[hs];refine wab (wad ?_);rw[if_neg xwd];refine wab (Tuple_ (thn (ha _ pS s Y H _ I h) λus s1 ⟨vs,H1,I1,r1,q1⟩=>?_));obtain ⟨v,w,e1,q1⟩:=q1;subst e1;obtain ⟨u1,u2,rfl,rv,rw'⟩ : ∃ u1 u2,us=[u1,u2]/\zca v u1/\zca w u2:=by
  cases r1 with
  |cons p q =>
   cases q with
   |cons p' q' =>
    cases q';exact ⟨_,_,rfl,p,p'⟩
 refine wpAny_newObj_type ?_ (by show 2<=sizeLine;decide);have I2:Inv X pS Y H1 { s1 with heap:=s1.heap.push { cls:=.type "tuple",data:=.seq [u1,u2].toArray } }:=I1.kept (t':=s1.toks) λb o e=>waa _ e;rw[hw];refine wab (wad ?_);show wpAny (model X.prog X.w) X.A (do rule "assign.swapped-stores";let items <- unpackItems (.ref s1.heap.objs.size) 2 none;assignInOrder [λv=>bindName X.env y v,λv=>bindName X.env x v] items.reverse;pure Flow.next) _ _ _;refine wab (wpAny_rule (wab (unpackItems_tuple (items:=#[u1,u2]) (I.ok.hd hc) (IsTup.new s1.heap _) λh' hx'=>?_)));have I3:=I2.kept (h':=h') (t':=s1.toks) λb o e=>hx' b o (waN (wai e)) e;show wpAny _ _ (assignInOrder [λv=>bindName X.env y v,λv=>bindName X.env x v] [u2,u1] >>= λ_=>pure Flow.next) _ _ _;refine wab (assignInOrder_cons (wpAny_bindName (zfk I3 hN hj (.inl hy) rw' (λs2 I4=>?_) (.inr hy))));refine assignInOrder_cons (wpAny_bindName (zfk I4 hN hi (.inl hx) rv (λs3 I5=>assignInOrder_nil (wad ?_)) (.inr hx)));rw[List.set_comm _ _ (Ne.symm hij)] at I5;exact ⟨_,H1,I5,q1⟩
end
section
variable{X:Cx}{pos:Pos}
def zuf(c:TT)(tb:TS):TS:=λD Y H=>∃ W:Nat->St->Hp->Prop,(∃ m,W m Y H)/\∀ m Y H,W m Y H ->
 c Y H λb H1=>if b=true then ∃ N:St->Hp->Prop,(∀ Y' H',N Y' H'->∃ m',m'<m/\W m' Y' H')/\tb { D with nx:=N,ct:=N,bk:=D.nx } Y H1 else D.nx Y H1
theorem zoI{c:Expr}{body:List Stmt}{tc:TT}{tb:TS}(hp:PassesOwn (model X.prog X.w) X.A X.env X.xe)(hc:PT X c tc)(hb:PSs X body tb):PS X (.While c body [] pos) (zuf tc tb):=by
 intro pS s Y H D I h;obtain ⟨W,⟨m0,w0⟩,turn⟩:=h;refine wpAny_While (codeAny_whileLoop (λn s'=>∃ Y' H',Inv X pS Y' H' s'/\W n Y' H') ?_ m0 ⟨Y,H,I,w0⟩);rintro n s1 ⟨Y1,H1,I1,w1⟩;refine wpAny_passesOwn hp (thn (hc pS s1 Y1 H1 _ I1 (turn n Y1 H1 w1)) λb s2 ⟨H2,I2,q2⟩=>?_);cases b with
 |true =>
  obtain ⟨N,hN,q2⟩:=q2;rw[if_pos rfl];refine wpAny_passesOwn hp (thn (hb pS s2 Y1 H2 _ I2 q2) λf s3 q3=>?_);cases f with
  |next =>
   obtain ⟨Y3,H3,I3,n3⟩:=q3;obtain ⟨m',hm,w3⟩:=hN Y3 H3 n3;exact ⟨m',hm,Y3,H3,I3,w3⟩
  |cont =>
   obtain ⟨Y3,H3,I3,n3⟩:=q3;obtain ⟨m',hm,w3⟩:=hN Y3 H3 n3;exact ⟨m',hm,Y3,H3,I3,w3⟩
  |brk=>exact q3
  |ret v=>exact q3
 |false =>
  rw[if_neg Bool.false_ne_true];exact wpAny_execs_nil ⟨Y1,H2,I2,q2⟩
end
structure It where
 go:Nat->Hp->Prop
 yld:Nat->Hp->V->Hp->Prop
 stop:Nat->Hp->Prop
def ziR(X:Cx)(pS:List (Addr×Obj))(H:Hp)(b:Addr):Prop :=
 H b=none/\b≠X.env.locals/\b∉X.fs/\(b∈X.ex\/X.s₀.heap.objs.size<=b)/\(∀ x c,X.env.cells.lookup x=some c->c≠b)/\∀ p∈X.pn++pS,p.1≠b
theorem Inv.fpOk{X:Cx}{pS:List (Addr×Obj)}{Y:St}{H H':Hp}{s:Shared}{b:Addr}(I:Inv X pS Y H s)(hb:s.heap.objs.size<=b)(hn:H' b=none):ziR X pS H' b:=by
 refine ⟨hn,Nat.ne_of_gt (was I.lt hb),I.nofs hb,.inr (waO I.sz hb),λx c e z=>?_,λp hp z=>?_⟩
 ·obtain ⟨v,q⟩:=I.cell x c e;exact absurd (was q.lt (by rw[z];exact hb)) (waM _)
 ·exact absurd (was (wai (I.pin p hp).1) (by rw[z];exact hb)) (waM _)
structure zpg(P:Program)(w:World)(K:W.Frag)(tg:Expr)(J:It)(fp:List Addr)(it:Addr)(tn:Nat->Heap->Prop):Prop where
 mem:it∈fp
 obj:∀ i h,tn i h->∀ b∈fp,∃ o,h.get? b=some o/\∀ v,o.data≠.cell v
 keep:∀ i h h',tn i h->(∀ b∈fp,∀ o,h.get? b=some o->h'.get? b=some o)->tn i h'
 item:∀(X:Cx),X.prog=P->X.w=w->X.K=K->X.calm=true->∀(i:Nat)(pS:List (Addr×Obj))(s:Shared)(Y:St)(H:Hp)(E:Value->Shared->Prop),Inv X pS Y H s->(∀ b∈fp,ziR X pS H b)->tn i s.heap->J.go i H ->
  wpAny (model P w) X.A (pyNext (.ref it)) (λr s1=>∃ u,r=some u /\
   wpAny (model P w) X.A (letOwnedTupleGo tg (.ref it) u) (λ_ s2=>∃ x H',Inv X pS Y H' s2/\zca x u/\J.yld i H x H'/\tn (i+1) s2.heap/\∀ b∈fp,H' b=none) E s1) E s
 done:∀(X:Cx),X.prog=P->X.w=w->X.K=K->X.calm=true->∀(i:Nat)(pS:List (Addr×Obj))(s:Shared)(Y:St)(H:Hp)(E:Value->Shared->Prop),Inv X pS Y H s->(∀ b∈fp,ziR X pS H b)->tn i s.heap->J.stop i H ->
  wpAny (model P w) X.A (pyNext (.ref it)) (λr s1=>r=none/\Inv X pS Y H s1) E s
 self:∀(A:Around)(i:Nat)(s:Shared)(Q:Value->Shared->Prop)(E:Value->Shared->Prop),tn i s.heap->Q (.ref it) s->wpAny (model P w) A (pyIter (.ref it)) Q E s
abbrev TI:=St->Hp->(It->Hp->Prop)->Prop
def PIE(X:Cx)(pS:List (Addr×Obj))(Y:St)(tg:Expr)(R:It->Hp->Prop)(itv:Value)(s2:Shared):Prop :=
 ∃(it:Addr)(fp:List Addr)(tn:Nat->Heap->Prop)(J:It)(H':Hp),itv=.ref it/\Inv X pS Y H' s2/\zpg X.prog X.w X.K tg J fp it tn/\tn 0 s2.heap/\(∀ b∈fp,ziR X pS H' b)/\R J H'
def PI(X:Cx)(tg iter:Expr)(wi:TI):Prop :=
 ∀(pS:List (Addr×Obj))(s:Shared)(Y:St)(H:Hp)(R:It->Hp->Prop),Inv X pS Y H s->wi Y H R ->
  wpAny (model X.prog X.w) X.A (eval iter X.env) (λv s1=>wpAny (model X.prog X.w) X.A (pyIter v) (PIE X pS Y tg R) X.xe s1) X.xe s
theorem zr7{M:Model}{A:Around}{E:Value->Shared->Prop}{s:Shared}{tg:Expr}{it:Addr}{u:Value}{o:Obj}{n:String}{vs:Array Value}{Q:Unit->Shared->Prop}(ho:s.heap.get? it=some o)(hc:o.cls=.type n)(hd:o.data=.fields vs)
  (hn:["enumerate","zip","dict_itemiterator","dict_reverseitemiterator","odict_iterator","itertools.zip_longest","itertools.pairwise"].contains n=false) (hQ:Q () s):wpAny M A (letOwnedTupleGo tg (.ref it) u) Q E s:=by
 unfold letOwnedTupleGo;cases tg <;> first
  |exact wad hQ
  | (cases u <;> first
    |exact wad hQ
    | (refine wab (wpAny_load ho ?_)
       rw[hc,hd];show wpAny M A (if (["enumerate","zip","dict_itemiterator","dict_reverseitemiterator","odict_iterator","itertools.zip_longest","itertools.pairwise"].contains n && vs[0]? == some (rawInt _))=true then _ else _) Q E s;rw[if_neg (by intro h;rw[hn,Bool.false_and] at h;cases h)];exact wad hQ))
def Itl(K:W.Frag)(a:Addr):It :=
 ⟨λi H=>∃ xs x,SqL K H a xs/\xs[i]? = some x,λi H x H'=>H'=H/\∀ xs,SqL K H a xs->xs[i]? = some x,λi H=>∃ xs,SqL K H a xs/\xs.length<=i⟩
def Itt(K:W.Frag)(a:Addr):It :=
 ⟨λi H=>∃ xs x,SqT K H a xs/\xs[i]? = some x,λi H x H'=>H'=H/\∀ xs,SqT K H a xs->xs[i]? = some x,λi H=>∃ xs,SqT K H a xs/\xs.length<=i⟩
def Itr(lo:Int)(n:Nat):It:=⟨λi _=>i<n,λi H x H'=>H'=H/\x=.int (lo+i),λi _=>n<=i⟩
theorem zmN{P:Program}{w:World}{K:W.Frag}{tg:Expr}(a it:Addr):zpg P w K tg (Itl K a) [it] it (λi h=>h.IsListIter it a i) where
 mem:=by simp
 obj:=λi h st b hb=>by
  have e:b=it:=by simpa using hb
  subst e;obtain ⟨o,e,c,d⟩:=st;exact ⟨o,e,λv z=>by rw[d] at z;cases z⟩
 keep:=λi h h' st k=>st.at λo e=>k it xws o e
 item:=by intro X hP hw hK hc i pS s Y H E I hf st hg;subst hP hw hK;obtain ⟨xs,x,hq,hx⟩:=hg;obtain ⟨its,rv,p,hz⟩:=I.list hq;obtain ⟨u,hu,ru⟩:=rv.get hx;obtain ⟨f0,f1,f2,f3,f4,f5⟩:=hf it xws;refine wpAny_pyNext_list_item st p.isList (x:=u) (by simpa using hu) λh' st' sb=>?_;have I1:Inv X pS Y H { s with heap:=h' }:=I.turned (t':=s.toks) (λb o hb e=>(sb.2 b hb).trans e) f0 f1 f3 f4 f5;obtain ⟨o,e,c,d⟩:=id st';exact ⟨u,rfl,zr7 (s:={ s with heap:=h' }) e c d xwd ⟨x,H,I1,ru,⟨rfl,λys hy=>by rw[I.list_inj hy hq];exact hx⟩,st',λb hb=>(hf b hb).1⟩⟩
 done:=by intro X hP hw hK hc i pS s Y H E I hf st hg;subst hP hw hK;obtain ⟨xs,hq,hx⟩:=hg;obtain ⟨its,rv,p,hz⟩:=I.list hq;obtain ⟨f0,f1,f2,f3,f4,f5⟩:=hf it xws;have hl:=rv.length;exact wpAny_pyNext_list_end (I.ok.hd hc) st p.isList (by simp;lia) λh' eb=>⟨rfl,I.turned (t':=s.toks) (λb o hb e=>eb b o hb e) f0 f1 f3 f4 f5⟩
 self:=λ_ _ _ _ _ st h=>wpAny_pyIter_listiter st h
theorem zmv{P:Program}{w:World}{K:W.Frag}{tg:Expr}(a it:Addr):zpg P w K tg (Itt K a) [it] it (λi h=>h.IsTupleIter it a i) where
 mem:=by simp
 obj:=λi h st b hb=>by
  have e:b=it:=by simpa using hb
  subst e;obtain ⟨o,e,c,d⟩:=st;exact ⟨o,e,λv z=>by rw[d] at z;cases z⟩
 keep:=λi h h' st k=>st.at λo e=>k it xws o e
 item:=by intro X hP hw hK hc i pS s Y H E I hf st hg;subst hP hw hK;obtain ⟨xs,x,hq,hx⟩:=hg;obtain ⟨its,rv,p,hz⟩:=I.tuple hq;obtain ⟨u,hu,ru⟩:=rv.get hx;obtain ⟨f0,f1,f2,f3,f4,f5⟩:=hf it xws;refine wpAny_pyNext_tuple_item st (show s.heap.IsTuple a its.toArray from p) (x:=u) (by simpa using hu) λh' st' sb=>?_;have I1:Inv X pS Y H { s with heap:=h' }:=I.turned (t':=s.toks) (λb o hb e=>(sb.2 b hb).trans e) f0 f1 f3 f4 f5;obtain ⟨o,e,c,d⟩:=id st';exact ⟨u,rfl,zr7 (s:={ s with heap:=h' }) e c d xwd ⟨x,H,I1,ru,⟨rfl,λys hy=>by rw[I.tuple_inj hy hq];exact hx⟩,st',λb hb=>(hf b hb).1⟩⟩
 done:=by intro X hP hw hK hc i pS s Y H E I hf st hg;subst hP hw hK;obtain ⟨xs,hq,hx⟩:=hg;obtain ⟨its,rv,p,hz⟩:=I.tuple hq;obtain ⟨f0,f1,f2,f3,f4,f5⟩:=hf it xws;have hl:=rv.length;exact wpAny_pyNext_tuple_end (I.ok.hd hc) st (show s.heap.IsTuple a its.toArray from p) (by simp;lia) λh' eb=>⟨rfl,I.turned (t':=s.toks) (λb o hb e=>eb b o hb e) f0 f1 f3 f4 f5⟩
 self:=λ_ _ _ _ _ st h=>wpAny_pyIter_tupleiter st h
theorem zmw{P:Program}{w:World}{K:PySem.W.Frag}{tg:Expr}(it:Addr)(lo:Int)(n:Nat):zpg P w K tg (Itr lo n) [it] it (λi h=>IsRangeIter h it (lo+(i:Nat) * 1) ((n:Int)-(i:Nat)) 1) where
 mem:=by simp
 obj:=λi h st b hb=>by
  have e:b=it:=by simpa using hb
  subst e;exact ⟨_,st,λv z=>by have z':Data.fields _=Data.cell v:=z;cases z'⟩
 keep:=λi h h' st k=>k it xws _ st
 item:=by intro X hP hw hK hc i pS s Y H E I hf st hg;subst hP hw hK;obtain ⟨f0,f1,f2,f3,f4,f5⟩:=hf it xws;have W:=Walks.range (prog:=X.prog) (w:=X.w) (I.ok.hd hc) it lo 1 n;refine W.item i s _ _ hg st λv h' tk hv st' kk=>?_;obtain ⟨t,rfl⟩:=hv;have I1:Inv X pS Y H { s with heap:=h',toks:=tk }:=I.turned (λb o hb e=>kk b o (by simpa using hb) e) f0 f1 f3 f4 f5;refine ⟨_,rfl,zr7 (s:={ s with heap:=h',toks:=tk }) (n:="range_iterator") st' rfl rfl xwd ⟨.int (lo+i),H,I1,⟨t,?_⟩,⟨rfl,rfl⟩,st',λb hb=>(hf b hb).1⟩⟩;rw[Int.mul_one]
 done:=by intro X hP hw hK hc i pS s Y H E I hf st hg;subst hP hw hK;obtain ⟨f0,f1,f2,f3,f4,f5⟩:=hf it xws;exact wpAny_pyNext_range_end (I.ok.hd hc) st (by have:n<=i:=hg;lia) λh' eb=>⟨rfl,I.turned (t':=s.toks) (λb o hb e=>eb b o hb e) f0 f1 f3 f4 f5⟩
 self:=λ_ _ _ _ _ st h=>wpAny_pyIter_rangeiter st h
end L2
namespace L2
open PySem PySem.Spec PyProof.Rows
section
variable{X:Cx}{tg:Expr}
def zvk(K:W.Frag)(tl:TE):TI:=λY H R=>tl Y H λx H1=>∃ a,x=.ref a/\(∃ xs,SqL K H1 a xs)/\R (Itl K a) H1
def iTup(K:W.Frag)(tl:TE):TI:=λY H R=>tl Y H λx H1=>∃ a,x=.ref a/\(∃ xs,SqT K H1 a xs)/\R (Itt K a) H1
theorem zob{l:Expr}{tl:TE}(hl:PE X l tl):PI X tg l (zvk X.K tl):=by
 intro pS s Y H R I h;refine thn (hl pS s Y H _ I h) λv s1 ⟨x,H1,I1,r1,q1⟩=>?_;obtain ⟨a,e,⟨xs,hq⟩,q⟩:=q1;subst e;cases r1;obtain ⟨its,rv,p,hz⟩:=I1.list hq;refine wpAny_pyIter_list p.isList ?_;refine ⟨s1.heap.objs.size,[s1.heap.objs.size],_,_,H1,rfl,I1.kept (t':=s1.toks) λb o e=>waa _ e,zmN a _,⟨_,waj _ rfl,rfl,rfl⟩,λb hb=>?_,q⟩;have e:b=s1.heap.objs.size:=by simpa using hb
 subst e;exact I1.fpOk (wal _) (I1.hok.fresh (wal _))
theorem zsR{l:Expr}{tl:TE}(hl:PE X l tl):PI X tg l (iTup X.K tl):=by
 intro pS s Y H R I h;refine thn (hl pS s Y H _ I h) λv s1 ⟨x,H1,I1,r1,q1⟩=>?_;obtain ⟨a,e,⟨xs,hq⟩,q⟩:=q1;subst e;cases r1;obtain ⟨its,rv,p,hz⟩:=I1.tuple hq;refine wpAny_pyIter_tuple (show s1.heap.IsTuple a its.toArray from p) ?_;refine ⟨s1.heap.objs.size,[s1.heap.objs.size],_,_,H1,rfl,I1.kept (t':=s1.toks) λb o e=>waa _ e,zmv a _,⟨_,waj _ rfl,rfl,rfl⟩,λb hb=>?_,q⟩;have e:b=s1.heap.objs.size:=by simpa using hb
 subst e;exact I1.fpOk (wal _) (I1.hok.fresh (wal _))
theorem zlx{pS:List (Addr×Obj)}{Y:St}{H:Hp}{s:Shared}{R:It->Hp->Prop}{E:Value->Shared->Prop}{lo hi:Int}{t u v:Tok}{tk:Nat}(I:Inv X pS Y H s)(h1:-(2 ^ 62)<=lo)(h2:lo<2 ^ 62)(h3:-(2 ^ 62)<=hi)(h4:hi<2 ^ 62)
  (q:R (Itr lo (hi-lo).toNat) H):wpAny (model X.prog X.w) X.A (pyIter (.ref s.heap.objs.size)) (PIE X pS Y tg R) E { s with heap:=s.heap.push { cls:=.type "range",data:=.fields #[.int lo t,.int hi u,.int 1 v] },toks:=tk }:=by
 refine wpAny_pyIter_range (IsRange.new ..) (small_one h1 h2 h3 h4) ?_;have I1:Inv X pS Y H { s with heap:=s.heap.push { cls:=.type "range",data:=.fields #[.int lo t,.int hi u,.int 1 v] },toks:=tk }:=I.kept λb o e=>waa _ e;refine ⟨(s.heap.push { cls:=.type "range",data:=.fields #[.int lo t,.int hi u,.int 1 v] }).objs.size,[(s.heap.push { cls:=.type "range",data:=.fields #[.int lo t,.int hi u,.int 1 v] }).objs.size],_,_,H,rfl,
  I1.kept (t':=tk) λb o e=>waa _ e,zmw _ lo (hi-lo).toNat,?_,λb hb=>?_,q⟩
 ·have e1:lo+((0:Nat):Int) * 1=lo:=by simp
  have e2:(((hi-lo).toNat:Nat):Int)-((0:Nat):Int)=Builtin.Range.rangeSize lo hi 1:=by rw[rangeSize_one];split <;> lia
  show IsRangeIter _ _ (lo+((0:Nat):Int) * 1) ((((hi-lo).toNat:Nat):Int)-((0:Nat):Int)) 1;rw[e1,e2];exact waj _ rfl
 ·have e:b=(s.heap.push { cls:=.type "range",data:=.fields #[.int lo t,.int hi u,.int 1 v] }).objs.size:=by simpa using hb
  subst e;exact I1.fpOk (wal _) (I1.hok.fresh (wal _))
def zve(ta:TA):TI:=λY H R=>ta Y H λvs H1=>∃ j:Int,vs=[.int j]/\-(2 ^ 62)<=j/\j<2 ^ 62/\R (Itr 0 j.toNat) H1
def zuL(ta:TA):TI:=λY H R=>ta Y H λvs H1=>∃ i j:Int,vs=[.int i,.int j]/\(-(2 ^ 62)<=i/\i<2 ^ 62/\-(2 ^ 62)<=j/\j<2 ^ 62)/\R (Itr i (j-i).toNat) H1
theorem zmZ{a:Expr}{ta:TA}{p pos:Pos}(hg:Gl X "range")(hm:X.mg "range"=none)(ha:PA X [a] ta)(hs:starEach [a] X.env=[(false,eval a X.env)]:=by rfl):PI X tg (.Call (.Name "range" p) [a] [] pos) (zve ta):=by
 intro pS s Y H R I h;refine Call_ (zfn I hg hm boot_range (PyProof.Rows.callWith_type1 (thn (ha pos pS s Y H _ I h) λus s1 ⟨vs,H1,I1,r1,q1⟩=>?_) hs rfl));obtain ⟨j,e,q1,q2,q⟩:=q1;subst e;cases r1 with
 |cons r rr =>
  cases rr;obtain ⟨t,rfl⟩:=r;exact call_range_1 (zlx I1 xwl xwl q1 q2 (by simpa using q))
theorem zn2{a b:Expr}{ta:TA}{p pos:Pos}(hg:Gl X "range")(hm:X.mg "range"=none)(ha:PA X [a,b] ta)(hs:starEach [a,b] X.env=[(false,eval a X.env),(false,eval b X.env)]:=by rfl)(hs2:starEach [b] X.env=[(false,eval b X.env)]:=by rfl) :
  PI X tg (.Call (.Name "range" p) [a,b] [] pos) (zuL ta):=by
 intro pS s Y H R I h;refine Call_ (zfn I hg hm boot_range (PyProof.Rows.callWith_type1 (thn (ha pos pS s Y H _ I h) λus s1 ⟨vs,H1,I1,r1,q1⟩=>?_) (by rw[hs,hs2]) (by rw[hs2];rfl)));obtain ⟨i,j,e,⟨q1,q2,q3,q4⟩,q⟩:=q1;subst e;cases r1 with
 |cons r rr =>
  cases rr with
  |cons r' rr =>
   cases rr;obtain ⟨t,rfl⟩:=r;obtain ⟨t',rfl⟩:=r';exact call_range_2 (zlx I1 q1 q2 q3 q4 q)
def tFor(wi:TI)(g:TG)(tb:TS):TS:=λD Y H=>wi Y H λJ H1=>∃ W:Nat->Nat->St->Hp->Prop,(∃ m,W 0 m Y H1)/\∀ i m Y H,W i m Y H ->
 (J.stop i H/\D.nx Y H)\/(J.go i H/\∃ N:St->Hp->Prop,(∀ Y' H',N Y' H'->∃ m',m'<m/\W (i+1) m' Y' H')/\∀ x H',J.yld i H x H'->g x Y H' λY2 H2=>tb { D with nx:=N,ct:=N,bk:=D.nx } Y2 H2)
def zf4(fp:List Addr)(h:Heap):List (Addr×Obj):=fp.filterMap λb=>(h.get? b).map λo=>(b,o)
theorem ze6{fp:List Addr}{h:Heap}{b:Addr}{o:Obj}(hb:b∈fp)(e:h.get? b=some o):(b,o)∈zf4 fp h:=List.mem_filterMap.mpr ⟨b,hb,by rw[e];rfl⟩
theorem zo1{fp:List Addr}{h:Heap}{p:Addr×Obj}(hp:p∈zf4 fp h):p.1∈fp/\h.get? p.1=some p.2:=by
 obtain ⟨b,hb,e⟩:=List.mem_filterMap.mp hp;cases q:h.get? b with
 |none=>rw[q] at e;cases e
 |some o =>
  rw[q] at e;have e':(b,o)=p:=waB e;subst e';exact ⟨hb,q⟩
theorem Inv.pinned{pS:List (Addr×Obj)}{Y:St}{H:Hp}{s:Shared}{fp:List Addr}(I:Inv X pS Y H s)(hf:∀ b∈fp,ziR X pS H b)(ho:∀ b∈fp,∃ o,s.heap.get? b=some o/\∀ v,o.data≠.cell v):Inv X (pS++zf4 fp s.heap) Y H s :=
 I.pins_of λp hp=>(wax.mp hp).elim (λz=>I.pin p (waA _ z)) λz=>by obtain ⟨hb,e⟩:=zo1 z;obtain ⟨f0,f1,f2,_⟩:=hf p.1 hb;obtain ⟨o,e',d⟩:=ho p.1 hb;rw[e] at e';cases e';exact ⟨e,f0,f1,f2,d⟩
theorem Inv.unpinned{pS pl:List (Addr×Obj)}{Y:St}{H:Hp}{s:Shared}(I:Inv X (pS++pl) Y H s):Inv X pS Y H s:=I.pins_of λp hp=>I.pin p (waA _ (waS _ hp))
theorem ztz{iter:Expr}{body:List Stmt}{wi:TI}{g:TG}{tb:TS}{pos:Pos}(hp:PassesOwn (model X.prog X.w) X.A X.env X.xe)(hc:X.calm=true)(hi:PI X tg iter wi)(hg:PG X tg g)(hb:PSs X body tb)
  (hs:∀ x,foldedSetIterable iter X.env x=pure x:=by intro _;rfl):PS X (.For tg iter body [] pos) (tFor wi g tb):=by
 intro pS s Y H D I h;refine wpAny_For (thn (hi pS s Y H _ I h) λv s1 h1=>thn h1 λitv s2 h2=>?_) hs;obtain ⟨it,fp,tn,J,H2,e,I2,T,st2,f2,W,⟨m0,w0⟩,turn⟩:=h2;subst e;have stat:∀{H':Hp},(∀ b∈fp,H' b=none)->∀ b∈fp,ziR X pS H' b:=λhn b hb=>⟨hn b hb,(f2 b hb).2⟩
 refine codeAny_forLoop_any (λn s'=>∃ i Y' H',Inv X pS Y' H' s'/\tn i s'.heap/\(∀ b∈fp,H' b=none)/\W i n Y' H') ?_ m0 ⟨0,Y,H2,I2,st2,λb hb=>(f2 b hb).1,w0⟩;rintro n s3 ⟨i,Y3,H3,I3,st3,fr3,w3⟩;rcases turn i n Y3 H3 w3 with ⟨stop,qn⟩|⟨go,N,hN,step⟩
 ·refine wpAny_passesOwn hp (thn (T.done X rfl rfl rfl hc i pS s3 Y3 H3 X.xe I3 (stat fr3) st3 stop) λr s4 ⟨hr,I4⟩=>?_);subst hr;exact wpAny_execs_nil ⟨Y3,H3,I4,qn⟩
 ·refine wpAny_passesOwn hp (thn (T.item X rfl rfl rfl hc i pS s3 Y3 H3 X.xe I3 (stat fr3) st3 go) λr s4 ⟨u,hr,h4⟩=>?_);subst hr;refine wpAny_passesOwn hp (thn h4 λ_ s5 ⟨x,H5,I5,r5,y5,st5,fr5⟩=>?_);have I5':=I5.pinned (stat fr5) (T.obj _ _ st5);refine wpAny_passesOwn hp (thn (hg _ s5 Y3 H5 x u _ I5' r5 (step x H5 y5)) λ_ s6 ⟨Y6,H6,I6,q6⟩=>?_);refine wpAny_passesOwn hp (thn (hb _ s6 Y6 H6 _ I6 q6) λf s7 q7=>?_);have again:∀{Y7:St}{H7:Hp},Inv X (pS++zf4 fp s5.heap) Y7 H7 s7->N Y7 H7->∃ m,m<n/\∃ i Y' H',Inv X pS Y' H' s7/\tn i s7.heap/\(∀ b∈fp,H' b=none)/\W i m Y' H':=λ{Y7 H7} I7 n7=>by obtain ⟨m',hm,w7⟩:=hN Y7 H7 n7;refine ⟨m',hm,i+1,Y7,H7,I7.unpinned,T.keep _ _ _ st5 λb hb o e=>(I7.pin (b,o) (waA _ (waA _ (ze6 hb e)))).1,λb hb=>?_,w7⟩;obtain ⟨o,e,d⟩:=T.obj _ _ st5 b hb;exact (I7.pin (b,o) (waA _ (waA _ (ze6 hb e)))).2.1
  cases f with
  |next=>obtain ⟨Y7,H7,I7,n7⟩:=q7;exact again I7 n7
  |cont=>obtain ⟨Y7,H7,I7,n7⟩:=q7;exact again I7 n7
  |brk=>obtain ⟨Y7,H7,I7,q7⟩:=q7;exact ⟨Y7,H7,I7.unpinned,q7⟩
  |ret v=>obtain ⟨x7,Y7,H7,I7,r7,q7⟩:=q7;exact ⟨x7,Y7,H7,I7.unpinned,r7,q7⟩
end
end L2
namespace L2
open PySem PySem.Spec PyProof.Rows
abbrev R2:=V->V->Hp->VK->Prop
def OpR(X:Cx)(f:Value->Value->Sem Value)(r:R2):Prop :=
 ∀(pS:List (Addr×Obj))(s:Shared)(Y:St)(H:Hp)(x y:V)(v u:Value)(Q:VK),Inv X pS Y H s->zca x v->zca y u->r x y H Q ->
  wpAny (model X.prog X.w) X.A (f v u) (EP X pS Y Q) X.xe s
def UnR(X:Cx)(f:Value->Sem Value)(r:V->Hp->VK->Prop):Prop :=
 ∀(pS:List (Addr×Obj))(s:Shared)(Y:St)(H:Hp)(x:V)(v:Value)(Q:VK),Inv X pS Y H s->zca x v->r x H Q ->
  wpAny (model X.prog X.w) X.A (f v) (EP X pS Y Q) X.xe s
def zcN(X:Cx)(f:Value)(r:List V->Hp->VK->Prop):Prop :=
 ∀(pS:List (Addr×Obj))(s:Shared)(Y:St)(H:Hp)(xs:List V)(us:List Value)(Q:VK),Inv X pS Y H s->zba xs us->r xs H Q ->
  wpAny (model X.prog X.w) X.A (call f us) (EP X pS Y Q) X.xe s
def tOp(r:R2)(ta tb:TE):TE:=λY H Q=>ta Y H λx H1=>tb Y H1 λy H2=>r x y H2 Q
def tUn(r:V->Hp->VK->Prop)(ta:TE):TE:=λY H Q=>ta Y H λx H1=>r x H1 Q
def rI(C:Int->Int->Prop)(g:Int->Int->V):R2:=λx y H Q=>∃ i j,x=.int i/\y=.int j/\C i j/\Q (g i j) H
def rI0(g:Int->Int->V):R2:=λx y H Q=>∃ i j,x=.int i/\y=.int j/\Q (g i j) H
def rU(g:Int->V):V->Hp->VK->Prop:=λx H Q=>∃ i,x=.int i/\Q (g i) H
section
variable{X:Cx}{a b c:Expr}{ta tb tc:TE}{pos:Pos}
theorem zuR(ha:PE X a ta)(hb:PE X b tb){pS:List (Addr×Obj)}{s:Shared}{Y:St}{H:Hp}{R:V->V->Hp->Prop}(I:Inv X pS Y H s)
  (h:ta Y H λx H1=>tb Y H1 λy H2=>R x y H2) {Q:Value->Shared->Prop} {f:Value->Value->Sem Value}
  (hf:∀ v u s2 x y H2,Inv X pS Y H2 s2->zca x v->zca y u->R x y H2->wpAny (model X.prog X.w) X.A (f v u) Q X.xe s2) :
  wpAny (model X.prog X.w) X.A (eval a X.env) (λv s₁=>wpAny (model X.prog X.w) X.A (eval b X.env) (λu s₂=>wpAny (model X.prog X.w) X.A (f v u) Q X.xe s₂) X.xe s₁) X.xe s:=by
 refine thn (ha pS s Y H _ I h) λv s1 ⟨x,H1,I1,r1,q1⟩=>?_;refine thn (hb pS s1 Y H1 _ I1 q1) λu s2 ⟨y,H2,I2,r2,q2⟩=>?_;exact hf v u s2 x y H2 I2 r1 r2 q2
theorem zs3{op:Operator}{r:R2}(ho:OpR X (binaryOp op) r)(ha:PE X a ta)(hb:PE X b tb):PE X (.BinOp a op b pos) (tOp r ta tb):=by intro pS s Y H Q I h;exact wpAny_BinOp (zuR ha hb I h λv u s2 x y H2 I2 rx ry q=>ho pS s2 Y H2 x y v u Q I2 rx ry q)
theorem zsM{op:UnaryOp}{r:V->Hp->VK->Prop}(ho:UnR X (unaryOp op) r)(ha:PE X a ta):PE X (.UnaryOp op a pos) (tUn r ta):=by intro pS s Y H Q I h;exact UnaryOp_ (thn (ha pS s Y H _ I h) λv s1 ⟨x,H1,I1,r1,q1⟩=>ho pS s1 Y H1 x v Q I1 r1 q1)
theorem opI{f:Value->Value->Sem Value}{C:Int->Int->Prop}{g:Int->Int->Int}
  (rule:∀(i j:Int)(t u:Tok)(s:Shared)(Q:Value->Shared->Prop)(E:Value->Shared->Prop),C i j->Q (.int (g i j) s.toks) { s with toks:=s.toks+1 }->wpAny (model X.prog X.w) X.A (f (.int i t) (.int j u)) Q E s) :
  OpR X f (rI C λi j=>.int (g i j)):=by
 intro pS s Y H x y v u Q I rx ry h;obtain ⟨i,j,rfl,rfl,hc,q⟩:=h;obtain ⟨t,rfl⟩:=rx;obtain ⟨t',rfl⟩:=ry;exact rule i j t t' s _ _ hc ⟨.int (g i j),H,I.tok _,⟨_,rfl⟩,q⟩
theorem opI0{f:Value->Value->Sem Value}{g:Int->Int->Int}
  (rule:∀(i j:Int)(t u:Tok)(s:Shared)(Q:Value->Shared->Prop)(E:Value->Shared->Prop),Q (.int (g i j) s.toks) { s with toks:=s.toks+1 }->wpAny (model X.prog X.w) X.A (f (.int i t) (.int j u)) Q E s) :
  OpR X f (rI0 λi j=>.int (g i j)):=by
 intro pS s Y H x y v u Q I rx ry h;obtain ⟨i,j,rfl,rfl,q⟩:=h;obtain ⟨t,rfl⟩:=rx;obtain ⟨t',rfl⟩:=ry;exact rule i j t t' s _ _ ⟨.int (g i j),H,I.tok _,⟨_,rfl⟩,q⟩
theorem zu2{f:Value->Value->Sem Value}{g:Int->Int->Bool}
  (rule:∀(i j:Int)(t u:Tok)(s:Shared)(Q:Value->Shared->Prop)(E:Value->Shared->Prop),Q (.bool (g i j)) s->wpAny (model X.prog X.w) X.A (f (.int i t) (.int j u)) Q E s) :
  OpR X f (rI0 λi j=>.bl (g i j)):=by
 intro pS s Y H x y v u Q I rx ry h;obtain ⟨i,j,rfl,rfl,q⟩:=h;obtain ⟨t,rfl⟩:=rx;obtain ⟨t',rfl⟩:=ry;exact rule i j t t' s _ _ ⟨.bl (g i j),H,I,rfl,q⟩
def CDiv(i j:Int):Prop:=0<j/\j<1073741824
def CPow(i j:Int):Prop:=0<=j/\j<=1000000/\i.natAbs<2 ^ 64
def zu4(i j:Int):Prop:=(-(2 ^ 64)<i/\i<2 ^ 64)\/(-(2 ^ 64)<j/\j<2 ^ 64)
theorem zu4.ok{i j:Int}(h:zu4 i j):IntMulOk i j:=by
 rcases h with ⟨h1,h2⟩|⟨h1,h2⟩
 ·exact .of_left (intBits_le_64 h1 h2)
 ·exact .of_right (intBits_le_64 h1 h2)
theorem zto:OpR X (binaryOp .Add) (rI0 λi j=>.int (i+j)):=opI0 λ_ _ _ _ _ _ _ q=>add_int q
theorem ztC:OpR X (binaryOp .Sub) (rI0 λi j=>.int (i-j)):=opI0 λ_ _ _ _ _ _ _ q=>sub_int q
theorem zu1:OpR X (binaryOp .Mult) (rI zu4 λi j=>.int (i * j)):=opI λ_ _ _ _ _ _ _ hc q=>mul_int q hc.ok
theorem zrq:OpR X (binaryOp .FloorDiv) (rI CDiv λi j=>.int (i / j)):=opI λi j _ _ _ _ _ hc q=>by have h1:(0:Int)<j:=hc.1;have h2:j<1073741824:=hc.2;exact floordiv_int xwl (by rw[Int.fdiv_eq_ediv_of_nonneg i xwl];exact q) (.inl (PyProof.noPylong_small xwl))
theorem zui:OpR X (binaryOp .Mod) (rI (λ_ j=>0<j) λi j=>.int (i % j)):=opI λi j _ _ _ _ _ hc q=>by have h1:(0:Int)<j:=hc;exact mod_int' xwl (by rw[Int.fmod_eq_emod_of_nonneg i xwl];exact q)
theorem ztb:OpR X (binaryOp .Pow) (rI CPow λi j=>.int (i ^ j.toNat)):=opI λ_ _ _ _ _ _ _ hc q=>pow_int_small hc.1 hc.2.1 hc.2.2 q
theorem unI{f:Value->Sem Value}{g:Int->Int}
  (rule:∀(i:Int)(t:Tok)(s:Shared)(Q:Value->Shared->Prop)(E:Value->Shared->Prop),Q (.int (g i) s.toks) { s with toks:=s.toks+1 }->wpAny (model X.prog X.w) X.A (f (.int i t)) Q E s) :
  UnR X f (rU λi=>.int (g i)):=by
 intro pS s Y H x v Q I rx h;obtain ⟨i,rfl,q⟩:=h;obtain ⟨t,rfl⟩:=rx;exact rule i t s _ _ ⟨.int (g i),H,I.tok _,⟨_,rfl⟩,q⟩
theorem zq9:UnR X (unaryOp .USub) (rU λi=>.int (-i)):=unI λ_ _ _ _ _ q=>neg_int q
end
section
variable{X:Cx}{a b c:Expr}{ta tb tc:TE}{pos:Pos}
theorem zuy{pS:List (Addr×Obj)}{Y:St}{H:Hp}{s:Shared}{Q:VK}{k k':Bool}(I:Inv X pS Y H s)(q:Q (.bl k) H)(e:k=k'):EP X pS Y Q (.bool k') s:=by subst e;exact ⟨.bl k,H,I,rfl,q⟩
theorem zou:OpR X (compareOp .Lt) (rI0 λi j=>.bl (decide (i<j))):=zu2 λ_ _ _ _ _ _ _ q=>lt_int q
theorem zn7:OpR X (compareOp .LtE) (rI0 λi j=>.bl (decide (i<=j))):=zu2 λ_ _ _ _ _ _ _ q=>le_int q
theorem zuP:OpR X (compareOp .Gt) (rI0 λi j=>.bl (decide (j<i))):=zu2 λ_ _ _ _ _ _ _ q=>gt_int q
theorem zuA:OpR X (compareOp .GtE) (rI0 λi j=>.bl (decide (j<=i))):=zu2 λ_ _ _ _ _ _ _ q=>ge_int q
theorem OpR.or{f:Value->Value->Sem Value}{r r':R2}(h:OpR X f r)(h':OpR X f r'):OpR X f (λx y H Q=>r x y H Q\/r' x y H Q):=by
 intro pS s Y H x y v u Q I rx ry q;rcases q with q|q
 ·exact h pS s Y H x y v u Q I rx ry q
 ·exact h' pS s Y H x y v u Q I rx ry q
theorem zdY(b:Expr){op:CmpOp}(h:op≠.In:=by decide)(h2:op≠.NotIn:=by decide):behindInMarks op b=false:=by
 have e1:(op == CmpOp.In)=false:=by cases op <;> first|rfl|exact absurd rfl h
 have e2:(op == CmpOp.NotIn)=false:=by cases op <;> first|rfl|exact absurd rfl h2
 cases b <;> simp[behindInMarks,e1,e2]
theorem zst{op:CmpOp}{r:R2}(ho:OpR X (compareOp op) r)(ha:PE X a ta)(hb:PE X b tb)(hm:behindInMarks op b=false):PE X (.Compare a [op] [b] pos) (tOp r ta tb):=by intro pS s Y H Q I h;exact wpAny_Compare1 (zuR ha hb I h λv u s2 x y H2 I2 rx ry q=>ho pS s2 Y H2 x y v u Q I2 rx ry q) hm
def ztQ(t:TE):TT:=λY H Q=>t Y H λx H'=>∃ k,x=.bl k/\Q k H'
theorem zod{op:CmpOp}{r:R2}(ho:OpR X (compareOp op) r)(ha:PE X a ta)(hb:PE X b tb)(hm:behindInMarks op b=false):PT X (.Compare a [op] [b] pos) (ztQ (tOp r ta tb)):=by
 intro pS s Y H Q I h;refine wpAny_isTrue_Compare1 (thn (ha pS s Y H _ I h) λv s1 ⟨x,H1,I1,r1,q1⟩=>thn (hb pS s1 Y H1 _ I1 q1) λu s2 ⟨y,H2,I2,r2,q2⟩ =>
  thn (ho pS s2 Y H2 x y v u _ I2 r1 r2 q2) λc s3 ⟨z,H3,I3,r3,k,e,q3⟩=>?_) hm
 subst e;cases r3;exact wpAny_truthy_bool ⟨H3,I3,q3⟩
def zn8(r r':R2)(ta tb tc:TE):TE:=λY H Q=>ta Y H λx H1=>tb Y H1 λy H2=>r x y H2 λz H3=>∃ k,z=.bl k /\
 (if k=true then tc Y H3 λw' H4=>r' y w' H4 Q else Q (.bl false) H3)
theorem zpo{op op':CmpOp}{r r':R2}(ho:OpR X (compareOp op) r)(ho':OpR X (compareOp op') r')(ha:PE X a ta)(hb:PE X b tb)(hc:PE X c tc)
  (hm:lastMarks [op,op'] [b,c]=false:=by with_unfolding_all rfl):PE X (.Compare a [op,op'] [b,c] pos) (zn8 r r' ta tb tc):=by
 intro pS s Y H Q I h;refine Compare_chain (thn (ha pS s Y H _ I h) λv s1 ⟨x,H1,I1,r1,q1⟩=>chain_link (thn (hb pS s1 Y H1 _ I1 q1) λu s2 ⟨y,H2,I2,r2,q2⟩ =>
  thn (ho pS s2 Y H2 x y v u _ I2 r1 r2 q2) λd s3 ⟨z,H3,I3,r3,k,e,q3⟩=>?_)) hm
 subst e;cases r3;refine wpAny_truthy_bool ?_;cases k with
 |false=>exact ite_ff ⟨.bl false,H3,I3,rfl,q3⟩
 |true=>exact ite_tt (chain_last (thn (hc pS s3 Y H3 _ I3 q3) λw' s4 ⟨z',H4,I4,r4,q4⟩=>ho' pS s4 Y H4 y z' u w' Q I4 r2 r4 q4))
theorem zpc{op op':CmpOp}{r r':R2}(ho:OpR X (compareOp op) r)(ho':OpR X (compareOp op') r')(ha:PE X a ta)(hb:PE X b tb)(hc:PE X c tc)
  (hm:lastMarks [op,op'] [b,c]=false:=by with_unfolding_all rfl):PT X (.Compare a [op,op'] [b,c] pos) (ztQ (zn8 r r' ta tb tc)):=by
 intro pS s Y H Q I h;refine isTrue_chain (thn (ha pS s Y H _ I h) λv s1 ⟨x,H1,I1,r1,q1⟩=>test_link (thn (hb pS s1 Y H1 _ I1 q1) λu s2 ⟨y,H2,I2,r2,q2⟩ =>
  thn (ho pS s2 Y H2 x y v u _ I2 r1 r2 q2) λd s3 ⟨z,H3,I3,r3,k,e,q3⟩=>?_)) hm
 subst e;cases r3;refine wpAny_truthy_bool ?_;cases k with
 |false =>
  obtain ⟨k',e',q'⟩:=q3;cases e';exact ite_ff ⟨H3,I3,q'⟩
 |true =>
  refine ite_tt (test_last (thn (hc pS s3 Y H3 _ I3 q3) λw' s4 ⟨z',H4,I4,r4,q4⟩=>thn (ho' pS s4 Y H4 y z' u w' _ I4 r2 r4 q4) λd' s5 ⟨z2,H5,I5,r5,k2,e2,q5⟩=>?_));subst e2;cases r5;exact wpAny_truthy_bool ⟨H5,I5,q5⟩
theorem zkx:(sizeLine:Nat)<2 ^ 63:=by rw[sizeLine_eq];decide
theorem zhQ{x:V}{us:List Value}(r:zba [x] us):∃ u,us=[u]/\zca x u:=by
 cases r with
 |cons r1 r2=>cases r2;exact ⟨_,rfl,r1⟩
theorem zk8{x y:V}{us:List Value}(r:zba [x,y] us):∃ u w',us=[u,w']/\zca x u/\zca y w':=by
 cases r with
 |cons r1 r2 =>
  cases r2 with
  |cons r3 r4=>cases r4;exact ⟨_,_,rfl,r1,r3⟩
theorem znr(hc:X.calm=true):zcN X (.builtin "max") (λxs H Q=>∃ i j,xs=[.int i,.int j]/\Q (.int (if j > i then j else i)) H):=by
 intro pS s Y H xs us Q I r h;obtain ⟨i,j,rfl,q⟩:=h;obtain ⟨u,w',rfl,⟨t,rfl⟩,⟨t',rfl⟩⟩:=zk8 r;refine max_two_ints (I.ok.hd hc) λh' tk k=>⟨_,H,I.kept k,?_,q⟩
 by_cases hj:j > i
 ·rw[if_pos hj,if_pos hj];exact ⟨_,rfl⟩
 ·rw[if_neg hj,if_neg hj];exact ⟨_,rfl⟩
theorem zo3(hc:X.calm=true):zcN X (.builtin "min") (λxs H Q=>∃ i j,xs=[.int i,.int j]/\Q (.int (if j<i then j else i)) H):=by
 intro pS s Y H xs us Q I r h;obtain ⟨i,j,rfl,q⟩:=h;obtain ⟨u,w',rfl,⟨t,rfl⟩,⟨t',rfl⟩⟩:=zk8 r;refine min_two_ints (I.ok.hd hc) λh' tk k=>⟨_,H,I.kept k,?_,q⟩
 by_cases hj:j<i
 ·rw[if_pos hj,if_pos hj];exact ⟨_,rfl⟩
 ·rw[if_neg hj,if_neg hj];exact ⟨_,rfl⟩
end
end L2
namespace L2
open PySem PySem.Spec PyProof.Rows
structure ObjM(h:Heap)(x dx C:Addr)(mA:Str->Option Value):Prop where
 obj:h.get? x=some (W.instObj C dx)
 ns:h.Ns1 dx mA
 ne:dx≠x
section
variable{prog:Program}{w:World}{A:Around}{E:Value->Shared->Prop}{s:Shared}{K:W.Frag}{x dx C f:Addr}{mA:Str->Option Value}{name:Str}{v:Value}
end
section
variable{P:Program}{w:World}{H H':Hp}{h h':Heap}{a C dx:Addr}{fs fs':List (Str×V)}
end
structure Cls(K:W.Frag)(C:Addr):Prop where
 pg:W.plainGet K C Str.empty=true
 hd:W.hasDictIn K C=true
 po:W.plainOver K C=true
 sa:W.findIn K (.ref C) "__setattr__"=some (some (.builtin "object.__setattr__"))
theorem Cls.get{K:W.Frag}{C:Addr}(c:Cls K C)(f:Str):W.plainGet K C f=true:=c.pg
structure Con(K:W.Frag)(C:Addr)(f:Str)(v:V)(u:Value):Prop where
 at_:W.findIn K (.ref C) f=some (some u)
 rel:zca v u
 get:W.specialIn K u "__get__"=some none
 cp:W.copiedNames.contains f=false
structure Meth(K:W.Frag)(C:Addr)(m:Str)(f:Addr):Prop where
 at_:W.findIn K (.ref C) m=some (some (.ref f))
 fn:W.isFn K (.ref f)=true
 kp:W.keepIn K (.ref f)=true
section
variable{X:Cx}{pS:List (Addr×Obj)}{Y:St}{H:Hp}{s:Shared}{a C dx:Addr}{fs:List (Str×V)}{f:Str}{v:V}{A:Around}{E:Value->Shared->Prop}
theorem Inv.made(I:Inv X pS Y H s):Inv X pS Y (upd (upd H s.heap.objs.size (.own (s.heap.objs.size+1))) (s.heap.objs.size+1) (.ins C s.heap.objs.size []))
  { s with heap:=(s.heap.push W.emptyDict).push (W.instObj C s.heap.objs.size) }:=by
 have e1:(s.heap.push W.emptyDict).get? s.heap.objs.size=some W.emptyDict:=waj s.heap rfl;have e2:((s.heap.push W.emptyDict).push (W.instObj C s.heap.objs.size)).get? (s.heap.objs.size+1)=some (W.instObj C s.heap.objs.size):=by have:=waj (s.heap.push W.emptyDict) (o:=W.instObj C s.heap.objs.size) rfl;rwa [Heap.size_push] at this
 have e3:(s.heap.push W.emptyDict).Ns s.heap.objs.size (λ_=>none):=⟨W.emptyDict,#[],_,e1,rfl,(λe he=>absurd he xws),λ_=>rfl⟩
 have I1:=I.laid (a:=s.heap.objs.size) (o:=.own (s.heap.objs.size+1)) (h':=s.heap.push W.emptyDict) (t':=s.toks) (λb u q=>waa _ q) (wal _) ⟨_,e1⟩;refine I1.laid (a:=s.heap.objs.size+1) (o:=.ins C s.heap.objs.size []) (t':=s.toks) (λb u q=>waa _ q) (Nat.le_of_eq (Heap.size_push _ _)) ?_;have ne:s.heap.objs.size≠s.heap.objs.size+1:=waN (Nat.lt_succ_self _);refine ⟨by rw[zaj ne,zan],Nat.zero_le _,ne,e2,λ_=>none,(Heap.Ns1.of_empty e3).at λo q=>waa _ q,λ_=>True.intro,λy hy=>absurd rfl hy⟩
end
section
variable{X:Cx}{o e value:Expr}{f:Str}{pos pos' tpos:Pos}{ta tv:TE}
end
section
variable{X:Cx}{pS:List (Addr×Obj)}{Y:St}{H:Hp}{s:Shared}{A:Around}{E:Value->Shared->Prop}{Q:Value->Shared->Prop}{c:Value}{b:Bool}
inductive znM(K:W.Frag)(H:Hp):V->Value->Prop where
 |non:znM K H .non (.type "NoneType")
 |bl (x:Bool):znM K H (.bl x) (.type "bool")
 |int (i:Int):znM K H (.int i) (.type "int")
 |str (x:Str):znM K H (.str x) (.type "str")
 |flt (x:UInt64):znM K H (.flt x) (.type "float")
 |lst {a:Addr} {xs:List V} (e:H a=some (.lst xs)):znM K H (.ref a) (.type "list")
 |frz {a:Addr} {o:Obj} {xs:List V} (e:H a=some (.frz o (.lst xs))):znM K H (.ref a) (.type "list")
 |tup {a:Addr} {xs:List V} (e:H a=some (.tup xs)):znM K H (.ref a) (.type "tuple")
 |dK {a:Addr} {kvs:List (Key×V)} (e:H a=some (.dK kvs)):znM K H (.ref a) (.type "dict")
 |dT {a:Addr} {kvs:List (List Key×V)} (e:H a=some (.dT kvs)):znM K H (.ref a) (.type "dict")
 |ins {a C dx:Addr} {fs:List (Str×V)} (e:H a=some (.ins C dx fs)) (cl:Cls K C) (ha:W.findIn K (.ref C) "__class__"=some (some (.builtin "object.__class__")))
   (hn:W.specialIn K (.builtin "object.__class__") "__get__"=some (some (.builtin "getset_descriptor.__get__"))) (htk:W.takesIn K (.builtin "object.__class__")=some true)
   (hm:W.mroIn K C (.type "object")=some true):znM K H (.ref a) (.ref C)
end
end L2
namespace L2
open PySem PySem.Spec PyProof.Rows
structure zd5(k:Nat)(A:Around):Prop where
 hd:A.handled=none
 dp:A.depth+3 * k+5<recursionLimit
 un:A.units+16 * k+200<cLine
theorem zd5.mono{j k:Nat}{A:Around}(r:zd5 k A)(h:j<=k):zd5 j A:=⟨r.hd,by have:=r.dp;lia,by have:=r.un;lia⟩
theorem zd5.deeper{k:Nat}{A:Around}(r:zd5 (k+1) A)(env:Env):zd5 k (A.deeper env) :=
 ⟨r.hd,by have:=r.dp;show A.depth+1+3 * k+5<_;lia,by have:=r.un;show A.units+3+16 * k+200<_;lia⟩
theorem zd5.in1{k:Nat}{A:Around}(r:zd5 (k+1) A):zd5 k A.in1 :=
 ⟨r.hd,by have:=r.dp;show A.depth+3 * k+5<_;lia,by have:=r.un;show A.units+1+16 * k+200<_;lia⟩
theorem zd5.depth{k:Nat}{A:Around}(r:zd5 k A):A.depth<recursionLimit:=by have:=r.dp;lia
theorem zd5.units{k:Nat}{A:Around}(r:zd5 k A):A.units+64<cLine:=by have:=r.un;lia
def tNil:TA:=λ_ H Q=>Q [] H
def zsb(ta:TE)(tr:TA):TA:=λY H Q=>ta Y H λx H1=>tr Y H1 λxs H2=>Q (x::xs) H2
section
variable{X:Cx}{e:Expr}{es:List Expr}{te:TE}{t:TA}{pos:Pos}
theorem zcR:PA X [] tNil:=λ_ _ _ _ H Q I h=>Calls.spliced_nil ⟨[],H,I,.nil,h⟩
theorem zbk(ha:PE X e te)(hr:PA X es t)(hs:starEach (e::es) X.env=(false,eval e X.env)::starEach es X.env:=by rfl):PA X (e::es) (zsb te t):=by intro pos pS s Y H Q I h;rw[hs];show wpAny _ _ (spliced ((false,eval e X.env)::backTo pos (starEach es X.env))) _ _ s;refine Calls.spliced_cons (thn (ha pS s Y H _ I h) λu s1 ⟨x,H1,I1,r1,q1⟩=>?_);exact thn (hr pos pS s1 Y H1 _ I1 q1) λus s2 ⟨xs,H2,I2,r2,q2⟩=>⟨x::xs,H2,I2,.cons r1 r2,q2⟩
def tTup(t:TA):TE:=λY H Q=>t Y H λxs H1=>xs.length<=sizeLine/\∀ p,H1 p=none->Q (.ref p) (upd H1 p (.tup xs))
def tLst(t:TA):TE:=λY H Q=>t Y H λxs H1=>xs.length<=sizeLine/\∀ p,H1 p=none->Q (.ref p) (upd H1 p (.lst xs))
theorem zqL{x1}(h:PA X es t):PE X (.Tuple es x1 pos) (tTup t):=by intro pS s Y H Q I hq;refine wpAny_Tuple_spliced (thn (h pos pS s Y H _ I hq) λus s1 ⟨xs,H1,I1,r,z,q⟩=>⟨by rw[<- r.length];exact z,?_⟩);have hf:H1 s1.heap.objs.size=none:=I1.hok.fresh (wal _);refine ⟨.ref s1.heap.objs.size,upd H1 s1.heap.objs.size (.tup xs),I1.laid (t':=s1.toks) (λb u e=>waa _ e) (wal _) ?_,rfl,q _ hf⟩;exact ⟨z,us,r,⟨_,waj _ rfl⟩⟩
theorem zq0(h:PA X es t):PE X (.List es pos) (tLst t):=by intro pS s Y H Q I hq;refine wpAny_List_spliced (thn (h pos pS s Y H _ I hq) λus s1 ⟨xs,H1,I1,r,z,q⟩=>⟨by rw[<- r.length];exact z,?_⟩);have hf:H1 s1.heap.objs.size=none:=I1.hok.fresh (wal _);refine ⟨.ref s1.heap.objs.size,upd H1 s1.heap.objs.size (.lst xs),I1.laid (t':=s1.toks) (λb u e=>waa _ e) (wal _) ?_,rfl,q _ hf⟩;exact ⟨z,us,0,r,waj _ rfl⟩
end
abbrev Sp:=List V->Hp->VK->XK->Prop
abbrev CXT:=List Env->Hp->Shared->XK->Value->Shared->Prop
structure zph(P:Program)(w:World)(K:W.Frag)(mg:Str->Option Value)(base:Heap)(A:Around)(outer:List Env)(s:Shared)(H:Hp):Prop where
 frames:A.frames=some outer
 mod:Mod K mg base
 bs:∀ b o,base.get? b=some o->s.heap.get? b=some o/\H b=none
 bsz:base.objs.size<=s.heap.objs.size
 funs:s.heap.FunFrames base outer
 frf:∀ b∈frs outer,H b=none
 hok:HOk P w H s.heap
 bare:AllBare s.gens
def CE(outer:List Env)(P:Program)(w:World)(H:Hp)(s:Shared)(Q:VK)(u:Value)(s':Shared):Prop :=
 ∃ v H',s'.os=s.os/\AllBare s'.gens/\Un (frs outer) [] H H' s.heap s'.heap/\HOk P w H' s'.heap/\zca v u/\Q v H'
def CR(CX:CXT)(outer:List Env)(P:Program)(w:World)(H:Hp)(s:Shared)(Q:VK)(E:XK)(r:Result)(s':Shared):Prop :=
 match r with
 |.ok (.ret u)=>CE outer P w H s Q u s'
 |.ok _=>False
 |.error e=>CX outer H s E e s'
structure zgI(P:Program)(w:World)(K:W.Frag)(mg:Str->Option Value)(base:Heap)(CX:CXT)(k:Nat)(f:Addr)(fd:FuncData)(ps:List Str)(sp:Sp):Prop where
 len:∀ vs H Q E,sp vs H Q E->vs.length=ps.length
 run:∀(A:Around)(outer:List Env)(s:Shared)(H:Hp)(args:Args)(us:List Value)(vs:List V)(Q:VK)(E:XK),zd5 k A->zph P w K mg base A outer s H->BindsTo s fd args (ps.zip us)->zba vs us->sp vs H Q E ->
  codeAny (model P w) A (.call (.ref f) args) (CR CX outer P w H s Q E) s
theorem zgI.mono{P:Program}{w:World}{K:W.Frag}{mg:Str->Option Value}{base:Heap}{CX:CXT}{j k:Nat}{f:Addr}{fd:FuncData}{ps:List Str}{sp:Sp}(F:zgI P w K mg base CX j f fd ps sp)(h:j<=k) :
  zgI P w K mg base CX k f fd ps sp:=⟨F.len,λA outer s H args us vs Q E hr=>F.run A outer s H args us vs Q E (hr.mono h)⟩
theorem zgI.imp{P:Program}{w:World}{K:W.Frag}{mg:Str->Option Value}{base:Heap}{CX:CXT}{k:Nat}{f:Addr}{fd:FuncData}{ps:List Str}{sp sp':Sp}(F:zgI P w K mg base CX k f fd ps sp)
  (h:∀ vs H Q E,sp' vs H Q E->sp vs H Q E):zgI P w K mg base CX k f fd ps sp' :=
 ⟨λvs H Q E q=>F.len vs H Q E (h _ _ _ _ q),λA outer s H args us vs Q E hr he hb hv hs=>F.run A outer s H args us vs Q E hr he hb hv (h _ _ _ _ hs)⟩
theorem zph.in1{P:Program}{w:World}{K:W.Frag}{mg:Str->Option Value}{base:Heap}{A:Around}{outer:List Env}{s:Shared}{H:Hp}(e:zph P w K mg base A outer s H) :
  zph P w K mg base A.in1 outer s H:=⟨e.frames,e.mod,e.bs,e.bsz,e.funs,e.frf,e.hok,e.bare⟩
section
variable{X:Cx}{pS:List (Addr×Obj)}{Y:St}{H:Hp}{s s':Shared}
theorem Inv.env0(I:Inv X pS Y H s):zph X.prog X.w X.K X.mg X.base X.A X.stack s H :=
 ⟨I.ok.frames,I.ok.mod,I.bs,waO I.ok.bsz I.sz,I.stack,I.stkFree,I.hok,I.bare⟩
theorem Inv.after{Q:VK}{u:Value}(I:Inv X pS Y H s)(h:CE X.stack X.prog X.w H s Q u s'):EP X pS Y Q u s':=by obtain ⟨v,H',os,bare,un,hok,r,q⟩:=h;obtain ⟨hh,g,d,t,os'⟩:=s';obtain rfl:os'=s.os:=os;exact ⟨v,H',I.call (h':=hh) (g':=g) (d':=d) (t':=t) (ch:=[]) un hok bare (λb z=>absurd z xws),r,q⟩
end
def zp2(sp:Sp)(dvs:List V)(E:XK)(t:TA):TE:=λY H Q=>t Y H λvs H1=>sp (vs++dvs) H1 Q E
def zfw(K:W.Frag)(fd:FuncData)(ps:List Str)(ds:List Value):Prop :=
 ∀(s:Shared)(us:List Value),K.In s.heap->(us++ds).length=ps.length->BindsTo s fd ⟨us,[]⟩ (ps.zip (us++ds))
theorem zfw.all{K:W.Frag}{fd:FuncData}{ps:List Str}(h:∀ us:List Value,us.length=ps.length->bindArgs fd ⟨us,[]⟩=pure (ps.zip us)):zfw K fd ps []:=λs us _ hl=>by rw[List.append_nil] at hl ⊢;exact .of_eq (h us hl)
def zcC(CX:CXT)(X:Cx)(E:XK):Prop:=∀(pS:List (Addr×Obj))(Y:St)(H:Hp)(s:Shared)(e:Value)(s':Shared),Inv X pS Y H s->CX X.stack H s E e s'->X.xe e s'
section
variable{X:Cx}{CX:CXT}{k:Nat}{f C:Addr}{fd:FuncData}{ps:List Str}{sp:Sp}{dvs:List V}{ds:List Value}{E:XK}{x m:Str}{p pos apos:Pos}{e o:Expr}{es:List Expr}{ta:TE}{t:TA}
theorem zuc{pS:List (Addr×Obj)}{Y:St}{H:Hp}{s:Shared}{Q:VK}{us:List Value}{vs:List V}(F:zgI X.prog X.w X.K X.mg X.base CX k f fd ps sp)(hr:zd5 k X.A)(hb:zfw X.K fd ps ds)(hd:zba dvs ds)(hx:zcC CX X E)
  (I:Inv X pS Y H s) (r:zba vs us) (h:sp (vs++dvs) H Q E):wpAny (model X.prog X.w) X.A (call (.ref f) us) (EP X pS Y Q) X.xe s:=by
 have r2:zba (vs++dvs) (us++ds):=r.append hd;have hl:(us++ds).length=ps.length:=by rw[<- r2.length];exact F.len _ _ _ _ h
 refine wpAny_call (codeAny_mono (F.run X.A X.stack s H ⟨us,[]⟩ (us++ds) (vs++dvs) Q E hr I.env0 (hb s us I.kIn hl) r2 h) λr s' hq=>?_);cases r with
 |error e=>exact hx pS Y H s e s' I hq
 |ok fl =>
  cases fl with
  |ret u=>exact I.after hq
  |next=>exact waP hq
  |brk=>exact waP hq
  |cont=>exact waP hq
theorem zk3(F:zgI X.prog X.w X.K X.mg X.base CX k f fd ps sp)(hr:zd5 k X.A)(hg:Gl X x)(hm:X.mg x=some (.ref f))(hk:W.keepIn X.K (.ref f)=true)(hb:zfw X.K fd ps ds)(hd:zba dvs ds)(hx:zcC CX X E)
  (ha:PA X (e::es) t) (hdb:(x == ("__debug__" : Str))=false:=by decide) (he:starEach (e::es) X.env=(false,eval e X.env)::starEach es X.env:=by rfl) (hpl:(backTo pos (starEach es X.env)).any (·.1)=false:=by rfl) :
  PE X (.Call (.Name x p) (e::es) [] pos) (zp2 sp dvs E t):=by
 intro pS s Y H Q I h;refine wpAny_Call_Name_kw (zhg I hg hm ?_ hdb);refine W.callWith_K (h₀:=X.base) I.ok.mod.kin hk (thn (ha pos pS s Y H _ I h) λus s1 ⟨vs,H1,I1,r,q⟩=>⟨I1.kIn,?_⟩) he hpl;exact zuc F hr hb hd hx I1 r q
structure Mk(K:W.Frag)(C f:Addr):Prop where
 makes:W.makesIn K C=true
 init:W.findIn K (.ref C) "__init__"=some (some (.ref f))
 fn:W.isFn K (.ref f)=true
 kp:W.keepIn K (.ref C)=true
end
def PK(X:Cx)(kws:List Keyword)(t:TA):Prop :=
 ∀(pos:Pos)(pS:List (Addr×Obj))(s:Shared)(Y:St)(H:Hp)(Q:List V->Hp->Prop),Inv X pS Y H s->t Y H Q->wpAny (model X.prog X.w) X.A (evalAll ((backToKw pos (keywordEach kws X.env)).map (·.2))) (AP X pS Y Q) X.xe s
section
variable{X:Cx}{CX:CXT}{k:Nat}{f C:Addr}{fd:FuncData}{ps ks:List Str}{sp:Sp}{E:XK}{x m:Str}{p pos apos kpos:Pos}{e o:Expr}{es:List Expr}{kws:List Keyword}{te ta:TE}{t tk:TA}{nm:Option Str}
structure KBinds(K:W.Frag)(fd:FuncData)(ps ks:List Str)(g:List Value->List Value->List Value)(gV:List V->List V->List V):Prop where
 to:∀(s:Shared)(us ws:List Value),K.In s.heap->(g us ws).length=ps.length->BindsTo s fd ⟨us,ks.zip ws⟩ (ps.zip (g us ws))
 rel:∀{vs:List V}{us:List Value}{zs:List V}{ws:List Value},zba vs us->zba zs ws->zba (gV vs zs) (g us ws)
variable{g:List Value->List Value->List Value}{gV:List V->List V->List V}
end
structure zau(N P:List Str)(sc:Scope):Prop where
 kind:sc.kind=.function
 co:sc.isCoroutine=false
 gen:sc.isGenerator=false
 nd:N.Nodup
 pre:N.take P.length=P
 par:∀ x∈P,sc.names.lookup x=some .local\/sc.names.lookup x=some .cell
 nofree:∀ y∈sc.names,y.2≠.free
theorem zj8{kindOf:Str->Option NameKind}{x:Str}:∀{binds:List (Str×Value)}{m:Str->Option Value},(∀ v,(x,v)∉binds)->bindL kindOf binds m x=m x
 |[],_,_=>rfl
 | (n,v)::r,m,h=>by
  unfold bindL;rw[zj8 λw hw=>h w (List.mem_cons_of_mem _ hw)];split
  ·have:x≠n:=by rintro rfl;exact h v wau
   simp[this]
  ·rfl
theorem zkk{kindOf:Str->Option NameKind}{x:Str}:∀{binds:List (Str×Value)}{m:Str->Option Value},(∀ v,(x,v)∉binds)->bindC kindOf binds m x=m x
 |[],_,_=>rfl
 | (n,v)::r,m,h=>by
  unfold bindC;rw[zkk λw hw=>h w (List.mem_cons_of_mem _ hw)];split
  ·rfl
  ·have:x≠n:=by rintro rfl;exact h v wau
   simp[this]
theorem ziZ{kindOf:Str->Option NameKind}{x:Str}{v:Value}:∀{P:List Str}{vs:List Value}{i:Nat}{m:Str->Option Value},P.Nodup->P[i]? = some x->vs[i]? = some v->kindOf x=some .local ->
  bindL kindOf (P.zip vs) m x=some v
 |[],_,_,_,_,h,_,_=>by simp at h
 |_::_,[],_,_,_,_,h,_=>by simp at h
 |p::P,w::vs,0,m,nd,h1,h2,hk=>by simp at h1 h2;subst h1;subst h2;show bindL kindOf ((p,w)::P.zip vs) m p=_;unfold bindL;rw[zj8 λv hv=>(List.nodup_cons.mp nd).1 (List.of_mem_zip hv).1,if_pos hk];simp
 |p::P,w::vs,i+1,m,nd,h1,h2,hk=>by show bindL kindOf ((p,w)::P.zip vs) m x=_;unfold bindL;exact ziZ (i:=i) (List.nodup_cons.mp nd).2 (by simpa using h1) (by simpa using h2) hk
theorem zjm{kindOf:Str->Option NameKind}{x:Str}{v:Value}:∀{P:List Str}{vs:List Value}{i:Nat}{m:Str->Option Value},P.Nodup->P[i]? = some x->vs[i]? = some v->kindOf x≠some .local ->
  bindC kindOf (P.zip vs) m x=some v
 |[],_,_,_,_,h,_,_=>by simp at h
 |_::_,[],_,_,_,_,h,_=>by simp at h
 |p::P,w::vs,0,m,nd,h1,h2,hk=>by simp at h1 h2;subst h1;subst h2;show bindC kindOf ((p,w)::P.zip vs) m p=_;unfold bindC;rw[zkk λv hv=>(List.nodup_cons.mp nd).1 (List.of_mem_zip hv).1,if_neg hk];simp
 |p::P,w::vs,i+1,m,nd,h1,h2,hk=>by show bindC kindOf ((p,w)::P.zip vs) m x=_;unfold bindC;exact zjm (i:=i) (List.nodup_cons.mp nd).2 (by simpa using h1) (by simpa using h2) hk
def start(N:List Str)(vs:List V):St:=vs.map some++List.replicate (N.length-vs.length) none
def zko(CX:CXT)(P:Program)(w:World)(K:W.Frag)(mg:Str->Option Value)(base:Heap)(N:List Str)(qual:Str)(scope:Scope)(f:Addr)(cd:Value)(A:Around)(outer:List Env)(s:Shared)(H:Hp)(E:XK):Cx where
 prog:=P
 w:=w
 K:=K
 mg:=mg
 base:=base
 A:=A.deeper (envOfC qual scope s.heap.objs.size f cd)
 N:=N
 s₀:=s
 H₀:=H
 env:=envOfC qual scope s.heap.objs.size f cd
 outer:=outer
 stack:=envOfC qual scope s.heap.objs.size f cd::outer
 ex:=[]
 calm:=true
 fn:=λ_=>true
 pn:=[]
 xe:=λe s'=>wpAny (model P w) (A.deeper (envOfC qual scope s.heap.objs.size f cd)) (leaving (envOfC qual scope s.heap.objs.size f cd) e) (λ_ s''=>CX outer H s E e s'') (λe' s''=>CX outer H s E e' s'') s'
theorem zl7{sc:Scope}{n:Nat}{x:Str}(h:sc.names.lookup x=some .cell):∃ c,(cellsFrom n sc.names []).lookup x=some c:=by have q:=W.cellsFrom_some sc.names n [] (.inl h);exact Option.isSome_iff_exists.mp q
theorem zjw{CX:CXT}{P:Program}{w:World}{K:W.Frag}{mg:Str->Option Value}{base:Heap}{N ps:List Str}{qual:Str}{scope:Scope}{f:Addr}{cd:Value}{A:Around}{outer:List Env}{s s1:Shared}{H:Hp}{E:XK}{us:List Value}{vs:List V}
  (S:zau N ps scope) (hd:A.handled=none) (e0:zph P w K mg base A outer s H) (hl:vs.length=ps.length) (r:zba vs us)
  (x:InCallC s s.heap.objs.size (bindL (envOfC qual scope s.heap.objs.size f cd).kindOf (ps.zip us) λ_=>none) (cellsFrom (s.heap.objs.size+1) scope.names []) (bindC (envOfC qual scope s.heap.objs.size f cd).kindOf (ps.zip us) λ_=>none) s1) :
  Inv (zko CX P w K mg base N qual scope f cd A outer s H E) [] (start N vs) H s1:=by
 have hpl:ps.length<=N.length:=by have:=congrArg List.length S.pre;rw[List.length_take] at this;lia
 obtain ⟨h1,tk,rfl,hk⟩:=x.done;have noA:∀ b:Addr,b∉(zko CX P w K mg base N qual scope f cd A outer s H E).ex:=λb z=>absurd (show b∈([]:List Addr) from z) xws;refine ⟨⟨e0.mod,S.kind,rfl,rfl,wal _,λy z c h1 h2=>?_,λy hy=>?_,λy c _ h=>?_,λ_=>hd,Around.frames_deeper e0.frames,.inr ⟨rfl,rfl⟩,λb z=>absurd z (noA b),e0.bs,e0.bsz,λb _ _=>noA b,λb z=>absurd z (noA b),e0.funs,e0.frf⟩,
  rfl,e0.bare,Un.kept hk,⟨_,x.toInCall.ns,λi y v h1 h2 h3=>?_⟩,λy c h=>⟨_,x.cell y c h⟩,e0.hok.fresh (wal _),λy c h=>?_,λp hp=>absurd (show p∈([]:List (Addr×Obj)) from hp) xws,e0.hok.kept hk,?_⟩
 ·exact name_of_addr x.apart (PySem.mem_of_lookup h1) (PySem.mem_of_lookup h2)
 ·have hy:scope.names.lookup y=some .cell\/scope.names.lookup y=some .free:=hy;rcases hy with hy|hy
  ·exact zl7 hy
  ·exact absurd rfl (S.nofree _ (PySem.mem_of_lookup hy))
 ·exact Nat.le_of_lt (x.above y c (PySem.mem_of_lookup h))
 ·have hi:i<vs.length:=by
   unfold start at h2;by_cases hi:i<vs.length
   ·exact hi
   ·rw[List.getElem?_append_right (by simpa using hi)] at h2;rw[List.getElem?_replicate] at h2;split at h2 <;> cases h2
  have ha:vs[i]? = some v:=by
   unfold start at h2;rw[List.getElem?_append_left (by simpa using hi),List.getElem?_map] at h2;cases e:vs[i]? with
   |none=>rw[e] at h2;cases h2
   |some a=>rw[e] at h2;cases h2;rfl
  obtain ⟨u,hu,rv⟩:=r.get ha;have hp:ps[i]? = some y:=by rw[<- S.pre,List.getElem?_take_of_lt xwl];exact h1
  have ndP:ps.Nodup:=by rw[<- S.pre];exact S.nd.sublist (List.take_sublist _ _)
  refine ⟨u,rv,?_⟩;rcases S.par y (waI hp) with k|k
  ·exact .inl ⟨k,ziZ ndP hp hu k⟩
  ·obtain ⟨c,e⟩:=zl7 (n:=s.heap.objs.size+1) k;refine .inr ⟨.inl k,c,e,?_⟩;have q:=x.cell y c e;rw[zjm ndP hp hu (by show scope.names.lookup y≠_;rw[k];decide)] at q;exact q
 ·exact e0.hok.fresh (Nat.le_of_lt (x.above y c (PySem.mem_of_lookup h)))
 ·unfold start;show _=N.length;rw[List.length_append,List.length_map,List.length_replicate];lia
theorem zpq{CX:CXT}{P:Program}{w:World}{K:W.Frag}{mg:Str->Option Value}{base:Heap}{k:Nat}{f:Addr}{name qual:Str}{params:Arguments}{body:List Stmt}{scope:Scope}{dV kV doc pm cdv ct oc:Value}{an od:Option Addr}
  {osl:Array (Option Value)} {N ps:List Str} {sp:Sp} (lk:K.lookup f=some ⟨oc,od,.func (W.fnOf name qual params body scope dV kV doc pm an cdv ct),osl⟩) (hcd:W.codeIn K cdv qual=true) (S:zau N ps scope)
  (len:∀ vs H Q E,sp vs H Q E->vs.length=ps.length)
  (hbody:∀(A:Around)(outer:List Env)(s:Shared)(H:Hp)(vs:List V)(Q:VK)(E:XK),zd5 k (A.deeper (envOfC qual scope s.heap.objs.size f cdv))->sp vs H Q E ->
   ∃ t,PSs (zko CX P w K mg base N qual scope f cdv A outer s H E) body t/\t { nx:=λ_ H'=>Q .non H',rt:=Q } (start N vs) H) :
  zgI P w K mg base CX (k+1) f (W.fnOf name qual params body scope dV kV doc pm an cdv ct) ps sp:=by
 refine ⟨len,λA outer s H args us vs Q E hr e0 hb r hsp=>?_⟩;have hl:=len _ _ _ _ hsp;have KX:K.In s.heap:=e0.mod.kin.keeps λb o e=>(e0.bs b o e).1;have lim:s.heap.NoLimit:=e0.mod.nolimit.keeps λb o e=>(e0.bs b o e).1;have hkind:∀ y∈ps.zip us,scope.names.lookup y.1=some .local\/(scope.names.lookup y.1=some .cell/\((cellsFrom (s.heap.objs.size+1) scope.names []).lookup y.1).isSome=true):=λ⟨n,v⟩ hy=>by
  rcases S.par n (List.of_mem_zip hy).1 with q|q
  ·exact .inl q
  ·exact .inr ⟨q,W.cellsFrom_some _ _ _ (.inl q)⟩
 refine codeAny_call_function hr.depth (KX _ _ lk) rfl S.co S.gen rfl (W.codeRec_of KX hcd) (hb _ _ _ _ ?_);refine wpAny_newFunctionEnv_cells S.kind hkind λenv he s1 x=>?_;subst he;refine ⟨lim.keeps x.toInCall.keep,codeAny_func ?_⟩;obtain ⟨t,ht,hq⟩:=hbody A outer s H vs Q E (hr.deeper _) hsp;have I:Inv (zko CX P w K mg base N qual scope f cdv A outer s H E) [] (start N vs) H s1:=zjw S hr.hd e0 hl r x;refine wpAny_mono (ht [] s1 (start N vs) H _ I hq) (λfl s' hs=>?_) λe s' hs=>hs;have fin:∀{Y':St}{H':Hp}{v:V}{u:Value},Inv (zko CX P w K mg base N qual scope f cdv A outer s H E) [] Y' H' s'->zca v u->Q v H'->CE outer P w H s Q u s' :=
  λ{Y' H' v u} J rv q=>⟨v,H',J.os,J.bare,J.base,J.hok,rv,q⟩
 cases fl with
 |ret u =>
  obtain ⟨v,Y',H',J,rv,q⟩:=hs;exact fin J rv q
 |next =>
  obtain ⟨Y',H',J,q⟩:=hs;exact fin (v:=V.non) (u:=Value.none) J rfl q
 |brk =>
  obtain ⟨_,_,_,q⟩:=hs;exact waP q
 |cont =>
  obtain ⟨_,_,_,q⟩:=hs;exact waP q
end L2
namespace L2
open PySem PySem.Spec PyProof.Rows
section
variable{X:Cx}{x:Str}{p pos:Pos}{e:Expr}{es:List Expr}{t:TA}{id T:String}{r:List V->Hp->VK->Prop}
def tCB(r:List V->Hp->VK->Prop)(t:TA):TE:=λY H Q=>t Y H λvs H1=>r vs H1 Q
theorem zd9(hc:zcN X (.builtin id) r)(hg:Gl X x)(hm:X.mg x=none)(hv:bootBuiltins x=some (.builtin id))(ha:PA X (e::es) t)(hn:x≠"__name__":=by decide)(hdb:(x == ("__debug__" : Str))=false:=by decide)
  (he:starEach (e::es) X.env=(false,eval e X.env)::starEach es X.env:=by rfl) (hpl:(backTo pos (starEach es X.env)).any (·.1)=false:=by rfl):PE X (.Call (.Name x p) (e::es) [] pos) (tCB r t):=by
 intro pS s Y H Q I h;refine wpAny_Call_Name_kw (zfn I hg hm hv ?_ hn hdb);exact PyProof.Rows.callWith_builtin1 (thn (ha pos pS s Y H _ I h) λus s1 ⟨vs,H1,I1,r1,q1⟩=>hc pS s1 Y H1 vs us Q I1 r1 q1) he hpl
theorem zgE(hc:zcN X (.type T) r)(hg:Gl X x)(hm:X.mg x=none)(hv:bootBuiltins x=some (.type T))(ha:PA X (e::es) t)(hn:x≠"__name__":=by decide)(hdb:(x == ("__debug__" : Str))=false:=by decide)
  (he:starEach (e::es) X.env=(false,eval e X.env)::starEach es X.env:=by rfl) (hpl:(backTo pos (starEach es X.env)).any (·.1)=false:=by rfl):PE X (.Call (.Name x p) (e::es) [] pos) (tCB r t):=by
 intro pS s Y H Q I h;refine wpAny_Call_Name_kw (zfn I hg hm hv ?_ hn hdb);exact PyProof.Rows.callWith_type1 (thn (ha pos pS s Y H _ I h) λus s1 ⟨vs,H1,I1,r1,q1⟩=>hc pS s1 Y H1 vs us Q I1 r1 q1) he hpl
end
end L2
namespace HT
open PySem PyProof.Rows
def lexLt:List Int->List Int->Bool
 |[],[]=>false
 |[],_::_=>true
 |_::_,[]=>false
 |x::xs,y::ys=>if x=y then lexLt xs ys else decide (x<y)
theorem lexLt_cons(x y:Int)(xs ys:List Int):lexLt (x::xs) (y::ys)=if x=y then lexLt xs ys else decide (x<y):=rfl
theorem zid:lexLt [] []=false:=rfl
theorem zhl(y:Int)(ys:List Int):lexLt [] (y::ys)=true:=rfl
theorem zhs(x:Int)(xs:List Int):lexLt (x::xs) []=false:=rfl
theorem zoO(A:Around)(s:Shared)(a:Int)(t:Tok)(c:Int)(u:Tok):∃ e,SeqAt.EqAt A s (.int a t) (.int c u) e/\(e=true ↔ a=c) :=
 ⟨(a == c),SeqAt.EqAt.int_int a t c u,xws⟩
theorem zoV(A:Around)(s:Shared)(a:Int)(t:Tok)(c:Int)(u:Tok)(prog:Program)(w:World)(E:Value->Shared->Prop)(Q:Value->Shared->Prop)(h:Q (.bool (decide (a<c))) s) :
  wpAny (model prog w) A (richCompare .Lt (.int a t) (.int c u)) Q E s :=
 (PyProof.Rows.lt_int h:wpAny (model prog w) A (compareOp .Lt (.int a t) (.int c u)) Q E s)
section
open PySem.SeqAt
open PySem.AutoSeq1 (wpAny_loadPart')
open PySem.MeetsSeq PySem.MeetsSeq2 PySem.MeetsSeq3
theorem zir(l b:Addr)(items items2:Array Value)(n n2:Nat)(dd dd2:Option Addr)(sl sl2:Array (Option Value))(ns ms:List Int)(hi:IntsAre items.toList ns)(hj:IntsAre items2.toList ms) :
  Meets (Builtin.«tuple.__lt__» ⟨[.ref l,.ref b],[]⟩)
   (λ_ R s=>s.heap.get? l=some { cls:=.type "tuple",dict:=dd,data:=.seq items n,slots:=sl }/\s.heap.get? b=some { cls:=.type "tuple",dict:=dd2,data:=.seq items2 n2,slots:=sl2 } /\
    R (.ok (.ret (.bool (lexLt ns ms)))) s) :=
 .of_wp λprog w A R s h=>by
  obtain ⟨hp,g,d,tk,os⟩:=s;obtain ⟨hl,hb,h⟩:=h;have f2:=AutoSeq1.sub_tuple_tuple;have z1:items.size=ns.length:=by rw[<- hi.length];simp
  have z2:items2.size=ms.length:=by rw[<- hj.length];simp
  wp_walk using wpAny_loadPart' hl,wpAny_loadPart' hb,wpAny_forIn_list _ (λzbo b s'=>b.1=none/\s'=⟨hp,g,d,tk,os⟩/\∃(vs ws:List Value)(ns' ms':List Int),zbo=vs.zip ws /\
   IntsAre vs ns'/\IntsAre ws ms'/\ns'.length+items2.size=ms'.length+items.size/\R (.ok (.ret (.bool (lexLt ns' ms')))) ⟨hp,g,d,tk,os⟩) _
  case turn =>
   rintro ⟨y,x⟩ zbo b s' ⟨hb',rfl,vs,ws,ns',ms',hz,hvi,hwi,hlen,hR⟩;cases hvi with
   |nil=>rw[List.zip_nil_left] at hz;cases hz
   |cons a t hvi' =>
    cases hwi with
    |nil=>rw[List.zip_nil_right] at hz;cases hz
    |cons c u hwi' =>
     rw[List.zip_cons_cons] at hz;injection hz with hyx hrest;injection hyx with hy hx;subst hy hx;rw[lexLt_cons] at hR;simp only[wan] at hlen;obtain ⟨e,he,hiff⟩:=zoO A.in1 ⟨hp,g,d,tk,os⟩ a t c u;refine wab (he prog w _ _ ?_);cases e with
     |true =>
      rw[if_pos (hiff.mp rfl)] at hR
      wp_walk
      exact ⟨rfl,rfl,_,_,_,_,hrest,hvi',hwi',xwl,hR⟩
     |false =>
      rw[if_neg (λq=>absurd (hiff.mpr q) Bool.false_ne_true)] at hR;have hri:=zoV A.in1 ⟨hp,g,d,tk,os⟩ a t c u prog w
      wp_walk using hri
      exact ⟨_,rfl,by simpa using hR⟩
  case fin =>
   rintro ⟨b1,b2⟩ s' ⟨hb',rfl,vs,ws,ns',ms',hz,hvi,hwi,hlen,hR⟩;simp only at hb';subst hb';have hv:lexLt ns' ms'=decide (items.size<items2.size):=by
    cases hvi with
    |nil =>
     cases hwi with
     |nil =>
      simp only[List.length_nil] at hlen;rw[zid];exact (waw xwl).symm
     |cons c u hw =>
      simp only[List.length_nil,wan] at hlen;rw[zhl];exact (wat xwl).symm
    |cons a t hv =>
     cases hwi with
     |nil =>
      simp only[List.length_nil,wan] at hlen;rw[zhs];exact (waw xwl).symm
     |cons c u hw =>
      rw[List.zip_cons_cons] at hz;cases hz
   rw[hv] at hR
   wp_walk
   exact ⟨_,rfl,by simpa [Builtin.Tuple.tupleCompareSizes] using hR⟩
  case h =>
   exact ⟨rfl,rfl,items.toList,items2.toList,ns,ms,rfl,hi,hj,xwl,h⟩
end
section
variable{prog:Program}{w:World}{A:Around}{E:Value->Shared->Prop}{s:Shared}
theorem lt_tupInts{l b:Addr}{items items2:Array Value}{ns ms:List Int}{Q:Value->Shared->Prop}(hl:IsTup s.heap l items)(hb:IsTup s.heap b items2)(hi:IntsAre items.toList ns)(hj:IntsAre items2.toList ms)
  (hu:A.units<cLine) (h:Q (.bool (lexLt ns ms)) s):wpAny (model prog w) A (compareOp .Lt (.ref l) (.ref b)) Q E s:=by
 obtain ⟨⟨cls,dd,data,sl⟩,ho,hc,n,hd⟩:=id hl;obtain ⟨⟨cls2,dd2,data2,sl2⟩,ho2,hc2,n2,hd2⟩:=id hb;simp only at hc hd hc2 hd2;subst hc hd hc2 hd2;exact richCompare_meets_room (op:=.Lt) ⟨_,ho,rfl⟩ ⟨_,ho2,rfl⟩ PySem.F.slot_tuple_lt PySem.F.entry_tuple_lt (PySem.F.args_tuple_lt_2 _ _) (zir l b items items2 n n2 dd dd2 sl sl2 ns ms hi hj)
  ⟨ho,ho2,show Value.bool (lexLt ns ms)≠Value.notImplemented/\Q (.bool (lexLt ns ms)) s from ⟨(λx=>nomatch x),h⟩⟩ hu
theorem cat_tup{t b:Addr}{vs ws:List Value}{Q:Value->Shared->Prop}(ht:IsTup s.heap t vs.toArray)(hb:IsTup s.heap b ws.toArray)(hv:vs≠[])
  (h1:ws=[]->Q (.ref t) s) (h2:ws≠[]->Q (.ref s.heap.objs.size) { s with heap:=s.heap.push { cls:=.type "tuple",data:=.seq (vs++ws).toArray } })
  (hsz:vs.length+ws.length<=sizeLine):wpAny (model prog w) A (binaryOp .Add (.ref t) (.ref b)) Q E s:=by
 obtain ⟨⟨cls,dd,data,sl⟩,ho,hc,n,hd⟩:=id ht;obtain ⟨⟨cls2,dd2,data2,sl2⟩,ho2,hc2,n2,hd2⟩:=id hb;simp only at hc hd hc2 hd2;subst hc hd hc2 hd2;have e:vs.toArray++ws.toArray=(vs++ws).toArray:=by simp
 by_cases hw:ws=[]
 ·exact concat_meets ⟨_,ho,rfl⟩ ⟨_,ho2,rfl⟩ noFill_tuple_add seq_tuple_add PySem.F.slot_tuple_add PySem.F.entry_tuple_add (PySem.F.args_tuple_add_2 _ _)
   (tuple_addW1 t b vs.toArray ws.toArray n n2 dd dd2 sl sl2 (by simpa using hv) (by simp[hw])) ⟨ho,ho2,h1 hw⟩
 ·refine concat_meets ⟨_,ho,rfl⟩ ⟨_,ho2,rfl⟩ noFill_tuple_add seq_tuple_add PySem.F.slot_tuple_add PySem.F.entry_tuple_add (PySem.F.args_tuple_add_2 _ _)
   (tuple_addW2 t b vs.toArray ws.toArray n n2 dd dd2 sl sl2 (by simpa using hv) (by simpa using hw) (by rw[List.size_toArray,List.size_toArray];exact hsz)) ⟨ho,ho2,?_⟩
  rw[e];exact h2 hw
def sIx(n d:Nat):Option Int->Nat
 |none=>d
 |some v=>if v<0 then (v+(n:Int)).toNat else min v.toNat n
theorem ztk(n d:Nat)(hd:d<=n)(o:Option Int):sIx n d o<=n:=by
 cases o with
 |none=>exact hd
 |some v =>
  show (if v<0 then (v+(n:Int)).toNat else min v.toNat n)<=n;by_cases hv:v<0
  ·rw[if_pos hv];lia
  ·rw[if_neg hv];exact Nat.min_le_right _ _
theorem znW(v:Int)(n d:Nat):(if v<0 then max (v+(n:Int)) 0 else min v (n:Int))=((sIx n d (some v):Nat):Int):=by
 show (if v<0 then max (v+(n:Int)) 0 else min v (n:Int))=(((if v<0 then (v+(n:Int)).toNat else min v.toNat n):Nat):Int)
 by_cases hv:v<0
 ·simp only[if_pos hv];lia
 ·simp only[if_neg hv];lia
theorem zmg(lo hi:Option Int)(n:Nat):Builtin.Slice.sliceAdjust lo hi 1 (n:Int)=(((sIx n 0 lo:Nat):Int),((sIx n n hi:Nat):Int)):=by
 have h1:¬ ((1:Int)<0):=by lia
 unfold Builtin.Slice.sliceAdjust;simp only[h1,if_false];refine Prod.ext ?_ ?_
 ·cases lo with
  |none=>rfl
  |some v=>exact znW v n 0
 ·cases hi with
  |none=>rfl
  |some v=>exact znW v n n
theorem zlZ(i j:Nat):Builtin.Slice.slicePlaces (i:Int) (j:Int) 1=j-i:=by
 unfold Builtin.Slice.slicePlaces;have h1:(1:Int) > 0:=by lia
 simp only[h1,if_true,Int.ediv_one];split <;> lia
theorem zhG{v:Value}{o:Option Int}{Q:Option Int->Shared->Prop}(p:IsPart v o)(h:Q o s):wpAny (model prog w) A (Builtin.Slice.slicePartIndex v) Q E s:=by
 cases p with
 |none=>exact slicePart_none h
 |int i t=>exact slicePart_int h
theorem sliceApplied_gen{sl:Addr}{vl vu:Value}{lo hi:Option Int}{n:Nat}{Q:Int×Int×Nat->Shared->Prop}(hs:s.heap.IsSliceOf sl vl vu .none)(pl:IsPart vl lo)(pu:IsPart vu hi)
  (h:Q (((sIx n 0 lo:Nat):Int),1,sIx n n hi-sIx n 0 lo) s):wpAny (model prog w) A (Builtin.Slice.sliceApplied (.ref sl) (pure (n:Int))) Q E s:=by
 obtain ⟨os,hos,hcs,hds⟩:=id hs;unfold Builtin.Slice.sliceApplied Builtin.Slice.sliceFields;refine wab (wab (wpAny_field hos hds (x:=vl) rfl (wab (wpAny_field hos hds (x:=vu) rfl (wab (wpAny_field hos hds (x:=.none) rfl (wad ?_)))))));refine wab (slicePart_none ?_);show wpAny _ _ (if ((1:Int) == 0)=true then _ else _) _ _ s;rw[if_neg xwd];refine wab (zhG pl (wab (zhG pu (wab (wad ?_)))));show wpAny _ _ (match Builtin.Slice.sliceAdjust lo hi 1 (n:Int) with|(lo,hi)=>pure (lo,(1:Int),Builtin.Slice.slicePlaces lo hi 1)) _ _ s;rw[zmg lo hi n];show wpAny _ _ (pure (((sIx n 0 lo:Nat):Int),(1:Int),Builtin.Slice.slicePlaces ((sIx n 0 lo:Nat):Int) ((sIx n n hi:Nat):Int) 1)) _ _ s;rw[zlZ];exact wad h
theorem zpM(xs:Array Value)(i k:Nat):((List.range k).filterMap λ(m:Nat)=>xs[((i:Int)+(m:Int) * 1).toNat]?).toArray=((xs.toList.drop i).take k).toArray:=by
 have e:(λ(m:Nat)=>xs[((i:Int)+(m:Int) * 1).toNat]?)=λm=>xs[i+m]? := by
  funext m;have:((i:Int)+(m:Int) * 1).toNat=i+m:=by lia
  rw[this]
 rw[e];have:=pick_run xs i k;rw[List.filterMap_map] at this;have e2:((λx=>xs[x]?) ∘ λx=>i+x)=λm=>xs[i+m]? := rfl;rw[e2] at this;rw[this]
theorem getItem_tuple_cut{t sl:Addr}{items:Array Value}{vl vu:Value}{lo hi:Option Int}{Q:Value->Shared->Prop}(ht:IsTup s.heap t items)(hs:s.heap.IsSliceOf sl vl vu .none)(pl:IsPart vl lo)(pu:IsPart vu hi)
  (hw:¬ (sIx items.size 0 lo=0/\sIx items.size items.size hi=items.size))
  (h:Q (.ref s.heap.objs.size) { s with heap:=s.heap.push { cls:=.type "tuple",data:=.seq ((items.toList.drop (sIx items.size 0 lo)).take (sIx items.size items.size hi-sIx items.size 0 lo)).toArray } })
  (hsz:items.size<=sizeLine):wpAny (model prog w) A (getItem (.ref t) (.ref sl)) Q E s:=by
 have htake:sizeOk (.seq ((items.toList.drop (sIx items.size 0 lo)).take (sIx items.size items.size hi-sIx items.size 0 lo)).toArray):=by show ((items.toList.drop (sIx items.size 0 lo)).take (sIx items.size items.size hi-sIx items.size 0 lo)).toArray.size<=sizeLine;rw[List.size_toArray,List.length_take,List.length_drop,Array.length_toList];lia
 have hj:sIx items.size items.size hi<=items.size:=ztk _ _ (wal _) hi;obtain ⟨os,hos,hcs,hds⟩:=id hs;have hTs:s.TypeIs (.ref sl) "slice":=⟨os,hos,hcs⟩
 unfold getItem
 try with_reducible refine wpAny_holding ?_
 first|refine wab (wad ?_)|skip
 refine wab (wpAny_sequenceKey ht.typeIs xwd ?_);refine wab (wpAny_callSpecial?_slot (name:=Str.ofString "__getitem__") ht.typeIs PyProof.Rows.slot_tuple_getitem
  (wpAny_call_entry PyProof.Rows.slot_tuple_getitem ht.typeIs entry_tuple_getitem ?_ (args_tuple_getitem _ _)))
 show wpAny _ _ (Builtin.Tuple.tupleItemsOf (.ref t) >>= _) _ _ s;refine wab (tupleItemsOf_ ht ?_);refine wab (wpAny_typeOf hTs ?_);rw[if_pos xwd];refine wab (sliceApplied_gen hs pl pu ?_);have hno:¬ ((((sIx items.size 0 lo:Nat):Int) == 0 && (1:Int) == 1 && (sIx items.size items.size hi-sIx items.size 0 lo) == items.size)=true):=by intro q;rw[Bool.and_eq_true,Bool.and_eq_true] at q;have q1:((sIx items.size 0 lo:Nat):Int)=0:=eq_of_beq q.1.1;have q2:sIx items.size items.size hi-sIx items.size 0 lo=items.size:=eq_of_beq q.2;exact hw ⟨xwl,xwl⟩
 show wpAny _ _ (if (((sIx items.size 0 lo:Nat):Int) == 0 && (1:Int) == 1 && (sIx items.size items.size hi-sIx items.size 0 lo) == items.size)=true then _ else _) _ _ s;rw[if_neg hno,zpM]
 first
  |exact wab (m:=Builtin.Tuple.tupleExact _) (wpAny_newObj_type (wad ⟨_,rfl,wad h⟩) htake)
  |exact wab (m:=Builtin.Tuple.tupleExact _) (wpAny_newObj_type (wab (wad (wad ⟨_,rfl,wad h⟩))) htake)
  |exact wab (wab (m:=Builtin.Tuple.tupleExact _) (wpAny_newObj_type (wad (wad ⟨_,rfl,wad h⟩)) htake))
  |exact wab (wab (m:=Builtin.Tuple.tupleExact _) (wpAny_newObj_type (wad ⟨_,rfl,wad h⟩) htake))
end
end HT
namespace L2
open PySem PySem.Spec PyProof.Rows
abbrev TO:=St->Hp->(Option Int->Hp->Prop)->Prop
def PO(X:Cx)(e:Option Expr)(t:TO):Prop :=
 ∀(pS:List (Addr×Obj))(s:Shared)(Y:St)(H:Hp)(Q:Option Int->Hp->Prop),Inv X pS Y H s->t Y H Q ->
  wpAny (model X.prog X.w) X.A (evalPart e X.env) (λu s'=>∃ o H',Inv X pS Y H' s'/\IsPart u o/\Q o H') X.xe s
def zr9:TO:=λ_ H Q=>Q none H
def zuX(t:TE):TO:=λY H Q=>t Y H λx H1=>∃ i,x=.int i/\Q (some i) H1
theorem intsAre_of{ns:List Int}:∀{us:List Value},zba (ns.map V.int) us->IntsAre us ns:=by
 induction ns with
 |nil=>intro us r;rw[List.map_nil] at r;cases r;exact .nil
 |cons n ns ih =>
  intro us r;rw[List.map_cons] at r;cases r with
  |cons r1 r2 =>
   obtain ⟨t,e⟩:=r1;subst e;exact .cons n t (ih r2)
section
variable{X:Cx}{e:Expr}{te:TE}{lo hi:Option Expr}{tl th:TO}{pos p2:Pos}
theorem zsy:PO X none zr9:=by intro pS s Y H Q I h;rw[evalPart_none];exact wad ⟨none,H,I,.none,h⟩
theorem zs6(h:PE X e te):PO X (some e) (zuX te):=by intro pS s Y H Q I hw;rw[evalPart_some];refine thn (h pS s Y H _ I hw) λu s1 ⟨x,H1,I1,r1,q1⟩=>?_;obtain ⟨i,rfl,q⟩:=q1;obtain ⟨t,rfl⟩:=r1;exact ⟨some i,H1,I1,.int i t,q⟩
def SlR(X:Cx)(r:V->Option Int->Option Int->Hp->VK->Prop):Prop :=
 ∀(pS:List (Addr×Obj))(s:Shared)(Y:St)(H:Hp)(x:V)(v vl vu:Value)(lo hi:Option Int)(sl:Addr)(Q:VK),Inv X pS Y H s->zca x v->s.heap.IsSliceOf sl vl vu .none->IsPart vl lo->IsPart vu hi->r x lo hi H Q ->
  ∃ T id,typeLookup (.type T) "__getitem__"=pure (some (.builtin id))/\s.TypeIs v T/\wpAny (model X.prog X.w) X.A (getItem v (.ref sl)) (EP X pS Y Q) X.xe s
theorem SlR.or{r r':V->Option Int->Option Int->Hp->VK->Prop}(h:SlR X r)(h':SlR X r'):SlR X (λx lo hi H Q=>r x lo hi H Q\/r' x lo hi H Q):=by
 intro pS s Y H x v vl vu lo hi sl Q I rx hs pl pu q;rcases q with q|q
 ·exact h pS s Y H x v vl vu lo hi sl Q I rx hs pl pu q
 ·exact h' pS s Y H x v vl vu lo hi sl Q I rx hs pl pu q
def tSl(r:V->Option Int->Option Int->Hp->VK->Prop)(te:TE)(tl th:TO):TE:=λY H Q=>te Y H λx H1=>tl Y H1 λl H2=>th Y H2 λu H3=>r x l u H3 Q
theorem zpX{r:V->Option Int->Option Int->Hp->VK->Prop}(hr:SlR X r)(he:PE X e te)(hl:PO X lo tl)(hu:PO X hi th):PE X (.Subscript e (.Slice lo hi none p2) pos) (tSl r te tl th):=by intro pS s Y H Q I h;refine Subscript_ (thn (he pS s Y H _ I h) λv s1 ⟨x,H1,I1,r1,q1⟩=>?_);refine wpAny_Slice (thn (hl pS s1 Y H1 _ I1 q1) λvl s2 ⟨l,H2,I2,pl,q2⟩=>thn (hu pS s2 Y H2 _ I2 q2) λvu s3 ⟨u,H3,I3,pu,q3⟩=>?_);rw[evalPart_none];refine wad ?_;have I4:Inv X pS Y H3 { s3 with heap:=s3.heap.push { cls:=.type "slice",data:=.fields #[vl,vu,.none] } }:=I3.kept (t':=s3.toks) λb ob q=>waa _ q;obtain ⟨T,id,hT,ht,hg⟩:=hr pS { s3 with heap:=s3.heap.push { cls:=.type "slice",data:=.fields #[vl,vu,.none] } } Y H3 x v vl vu l u s3.heap.objs.size Q I4 r1 (Heap.IsSliceOf.new ..) pl pu q3;show wpAny (model X.prog X.w) X.A (subscriptTail e (.Slice lo hi none p2) v (.ref s3.heap.objs.size)) (EP X pS Y Q) X.xe { s3 with heap:=s3.heap.push { cls:=.type "slice",data:=.fields #[vl,vu,.none] } };exact tail_any (ops:=[.ref s3.heap.objs.size,v]) ht hT hg (by with_unfolding_all rfl)
def zpn(xs:List V)(lo hi:Option Int):List V:=(xs.drop (HT.sIx xs.length 0 lo)).take (HT.sIx xs.length xs.length hi-HT.sIx xs.length 0 lo)
theorem zk9(xs:List V)(lo hi:Option Int):(zpn xs lo hi).length<=xs.length:=by unfold zpn;rw[List.length_take,List.length_drop];lia
def rSlT(K:W.Frag):V->Option Int->Option Int->Hp->VK->Prop:=λx lo hi H Q=>∃ a xs,x=.ref a/\SqT K H a xs /\
 ¬ (HT.sIx xs.length 0 lo=0/\HT.sIx xs.length xs.length hi=xs.length)/\∀ p,H p=none->Q (.ref p) (upd H p (.tup (zpn xs lo hi)))
theorem ztc:SlR X (rSlT X.K):=by
 intro pS s Y H x v vl vu lo hi sl Q I rx hs pl pu h;obtain ⟨a,xs,rfl,hx,hw,q⟩:=h;cases rx;obtain ⟨its,r,ht,hz⟩:=I.tuple hx;have hlen:its.toArray.size=xs.length:=by rw[List.size_toArray];exact r.length.symm
 refine ⟨"tuple",_,PyProof.Rows.slot_tuple_getitem.lookup,ht.typeIs,?_⟩;refine HT.getItem_tuple_cut ht hs pl pu (by rw[hlen];exact hw) ?_ (by rw[hlen];exact hz);rw[hlen];refine ⟨.ref s.heap.objs.size,_,I.laid (t':=s.toks) (o:=.tup (zpn xs lo hi)) (λb ob q=>waa _ q) (wal _) ?_,rfl,q _ (I.hok.fresh (wal _))⟩;exact ⟨waO (zk9 xs lo hi) hz,_,(r.drop (HT.sIx xs.length 0 lo)).take (HT.sIx xs.length xs.length hi-HT.sIx xs.length 0 lo),_,waj _ rfl⟩
def rLtT(K:W.Frag):R2:=λx y H Q=>∃ a b ns ms,x=.ref a/\y=.ref b/\SqT K H a (ns.map V.int)/\SqT K H b (ms.map V.int)/\Q (.bl (HT.lexLt ns ms)) H
theorem zun(hu:X.A.units<cLine):OpR X (compareOp .Lt) (rLtT X.K):=by intro pS s Y H x y v u Q I rx ry h;obtain ⟨a,b,ns,ms,rfl,rfl,ha,hb,q⟩:=h;cases rx;cases ry;obtain ⟨its,r1,p1,_⟩:=I.tuple ha;obtain ⟨its2,r2,p2,_⟩:=I.tuple hb;have i1:IntsAre its.toArray.toList ns:=intsAre_of r1;have i2:IntsAre its2.toArray.toList ms:=intsAre_of r2;exact HT.lt_tupInts p1 p2 i1 i2 hu ⟨.bl (HT.lexLt ns ms),H,I,rfl,q⟩
def zuN(K:W.Frag):R2:=λx y H Q=>∃ a b xs ys,x=.ref a/\y=.ref b/\SqT K H a xs/\SqT K H b ys/\xs≠[]/\xs.length+ys.length<=sizeLine /\
 (ys=[]->Q (.ref a) H)/\(ys≠[]->∀ p,H p=none->Q (.ref p) (upd H p (.tup (xs++ys))))
theorem zba.nil_iff{xs:List V}{us:List Value}(r:zba xs us):us=[] ↔ xs=[]:=by
 cases r with
 |nil=>simp
 |cons _ _=>simp
theorem zrI:OpR X (binaryOp .Add) (zuN X.K):=by intro pS s Y H x y v u Q I rx ry h;obtain ⟨a,b,xs,ys,rfl,rfl,ha,hb,hx,hz,q1,q2⟩:=h;cases rx;cases ry;obtain ⟨its,r1,p1,_⟩:=I.tuple ha;obtain ⟨its2,r2,p2,_⟩:=I.tuple hb;refine HT.cat_tup p1 p2 (λz=>hx (r1.nil_iff.mp z)) (λz=>⟨.ref a,H,I,rfl,q1 (r2.nil_iff.mp z)⟩) (λz=>?_) (by rw[<- r1.length,<- r2.length];exact hz);refine ⟨.ref s.heap.objs.size,_,I.laid (t':=s.toks) (o:=.tup (xs++ys)) (λb ob q=>waa _ q) (wal _) ?_,rfl,q2 (λw=>z (r2.nil_iff.mpr w)) _ (I.hok.fresh (wal _))⟩;exact ⟨by rw[List.length_append];exact hz,_,r1.append r2,_,waj _ rfl⟩
end
end L2
namespace L2
open PySem PySem.Spec PyProof.Rows
def ixN(n:Nat)(i:Int):Option Nat:=if 0<=i then (if i<n then some i.toNat else none) else if -(n:Int)<=i then some (i+n).toNat else none
def atI{α:Type}(xs:List α)(i:Int):Option α:=(ixN xs.length i).bind λj=>xs[j]?
theorem zld{n:Nat}{i:Int}{j:Nat}(h:ixN n i=some j):seqIndex? i n=some j/\j<n/\-(n:Int)<=i/\i<n:=by
 unfold ixN at h;by_cases h0:0<=i
 ·rw[if_pos h0] at h;by_cases h1:i<n
  ·rw[if_pos h1] at h;have e:i.toNat=j:=waB h;exact ⟨by rw[seqIndex_of h0 h1,e],xwl,xwl,h1⟩
  ·rw[if_neg h1] at h;cases h
 ·rw[if_neg h0] at h;by_cases h1:-(n:Int)<=i
  ·rw[if_pos h1] at h;have e:(i+n).toNat=j:=waB h;exact ⟨by rw[seqIndex_neg xwl h1,e],xwl,h1,xwl⟩
  ·rw[if_neg h1] at h;cases h
theorem zoo{α:Type}{xs:List α}{i:Int}{v:α}(h:atI xs i=some v):∃ j,seqIndex? i xs.length=some j/\xs[j]? = some v/\j<xs.length/\-(xs.length:Int)<=i/\i<xs.length:=by
 unfold atI at h;cases e:ixN xs.length i with
 |none=>rw[e] at h;cases h
 |some j =>
  rw[e] at h;obtain ⟨h1,h2,h3,h4⟩:=zld e;exact ⟨j,h1,h,h2,h3,h4⟩
theorem zie{α:Type}{xs:List α}{j:Nat}{v:α}(h:xs[j]? = some v):atI xs (j:Int)=some v:=by
 have hj:j<xs.length:=(wam.mp h).1;have e:ixN xs.length (j:Int)=some j:=by unfold ixN;rw[if_pos xwl,if_pos xwl];simp
 unfold atI;rw[e];exact h
def zk7(b:Expr):Prop:=∀ o i,subscripted b false o i=operate [o,i] (getItem o i)
def IxR(X:Cx)(r:R2):Prop :=
 ∀(value slice:Expr)(pS:List (Addr×Obj))(s:Shared)(Y:St)(H:Hp)(x y:V)(v u:Value)(Q:VK),Inv X pS Y H s->zca x v->zca y u->r x y H Q ->
  subscripted slice false v u=operate [v,u] (getItem v u)->wpAny (model X.prog X.w) X.A (subscriptTail value slice v u) (EP X pS Y Q) X.xe s
def MtR(X:Cx)(id:String)(r:V->List V->Hp->VK->Prop):Prop :=
 ∀(pS:List (Addr×Obj))(s:Shared)(Y:St)(H:Hp)(x:V)(xs:List V)(v:Value)(us:List Value)(Q:VK),Inv X pS Y H s->zca x v->zba xs us->r x xs H Q ->
  wpAny (model X.prog X.w) X.A (call (.builtin id) (v::us)) (EP X pS Y Q) X.xe s
section
variable{X:Cx}{a b:Expr}{ta tb:TE}{pos:Pos}
theorem IxR.or{r r':R2}(h:IxR X r)(h':IxR X r'):IxR X (λx y H Q=>r x y H Q\/r' x y H Q):=by
 intro value slice pS s Y H x y v u Q I rx ry q hs;rcases q with q|q
 ·exact h value slice pS s Y H x y v u Q I rx ry q hs
 ·exact h' value slice pS s Y H x y v u Q I rx ry q hs
theorem MtR.or{id:String}{r r':V->List V->Hp->VK->Prop}(h:MtR X id r)(h':MtR X id r'):MtR X id (λx xs H Q=>r x xs H Q\/r' x xs H Q):=by
 intro pS s Y H x xs v us Q I rx rs q;rcases q with q|q
 ·exact h pS s Y H x xs v us Q I rx rs q
 ·exact h' pS s Y H x xs v us Q I rx rs q
theorem ztr{r:R2}(hr:IxR X r)(ha:PE X a ta)(hb:PE X b tb)(hs:zk7 b):PE X (.Subscript a b pos) (tOp r ta tb):=by intro pS s Y H Q I h;exact Subscript_ (zuR ha hb I h λv u s2 x y H2 I2 rx ry q=>hr a b pS s2 Y H2 x y v u Q I2 rx ry q (hs _ _))
def rIxL(K:W.Frag):R2:=λx y H Q=>∃ p xs i v,x=.ref p/\y=.int i/\SqL K H p xs/\atI xs i=some v/\Q v H
def rIxT(K:W.Frag):R2:=λx y H Q=>∃ p xs i v,x=.ref p/\y=.int i/\SqT K H p xs/\atI xs i=some v/\Q v H
theorem zna:IxR X (rIxL X.K):=by
 intro value slice pS s Y H x y v u Q I rx ry h hs;obtain ⟨p,xs,i,z,rfl,rfl,hq,he,q⟩:=h;cases rx;obtain ⟨t,rfl⟩:=ry;obtain ⟨its,r,pl,hz⟩:=I.list hq;obtain ⟨j,h1,h2,h3,h4,h5⟩:=zoo he;obtain ⟨w,ew,rw'⟩:=r.get h2;have hl:=r.length;have hn:=zkx;have fin:EP X pS Y Q w s:=⟨z,H,I,rw',q⟩
 by_cases h0:0<=i
 ·have hj:i.toNat=j:=by rw[seqIndex_of h0 h5] at h1;exact waB h1
  exact item_listR pl.isList h0 xwl (by rw[hj];simpa using ew) fin hs
 ·have hj:(i+(its.toArray.size:Int)).toNat=j:=by rw[seqIndex_neg xwl h4] at h1;rw[List.size_toArray,<- hl];exact waB h1
  exact subscriptTail_builtinR (x:=w) pl.isList.typeIs slot_list_getitem.lookup
   (wpAny_getItem_list_neg (Q:=λr s'=>r=w/\EP X pS Y Q r s') pl.isList xwl (by rw[List.size_toArray] <;> lia) xwl (by rw[hj];simpa using ew) ⟨rfl,fin⟩) hs
theorem zsQ:IxR X (rIxT X.K):=by
 intro value slice pS s Y H x y v u Q I rx ry h hs;obtain ⟨p,xs,i,z,rfl,rfl,hq,he,q⟩:=h;cases rx;obtain ⟨t,rfl⟩:=ry;obtain ⟨its,r,pl,hz⟩:=I.tuple hq;obtain ⟨j,h1,h2,h3,h4,h5⟩:=zoo he;obtain ⟨w,ew,rw'⟩:=r.get h2;have hl:=r.length;have hn:=zkx;have fin:EP X pS Y Q w s:=⟨z,H,I,rw',q⟩
 exact subscriptTail_builtinR (x:=w) pl.typeIs slot_tuple_getitem.lookup
  (getItem_tuple (j:=j) (Q:=λr s'=>r=w/\EP X pS Y Q r s') pl xwl xwl (by rw[List.size_toArray,<- hl];exact h1) (by simpa using ew) ⟨rfl,fin⟩) hs
theorem zmb(its:List Value)(n j:Nat)(u:Value):Obj.mapSeq (·.setIfInBounds j u) { cls:=.type "list",data:=.seq its.toArray n }={ cls:=.type "list",data:=.seq (its.set j u).toArray n }:=by simp[Obj.mapSeq]
theorem Inv.lst{pS:List (Addr×Obj)}{Y:St}{H:Hp}{s:Shared}{p:Addr}{xs:List V}(I:Inv X pS Y H s)(h:H p=some (.lst xs)) :
  ∃(its:List Value)(n:Nat),zba xs its/\s.heap.get? p=some { cls:=.type "list",data:=.seq its.toArray n }/\xs.length<=sizeLine:=by
 obtain ⟨z,its,n,r,e⟩:=I.hok p _ h;exact ⟨its,n,r,e,z⟩
theorem Inv.lstUpd{pS:List (Addr×Obj)}{Y:St}{H:Hp}{s:Shared}{p:Addr}{xs ys:List V}{its its':List Value}{n n':Nat}{f:Obj->Obj}(I:Inv X pS Y H s)(h:H p=some (.lst xs))
  (ho:s.heap.get? p=some { cls:=.type "list",data:=.seq its.toArray n }) (hf:f { cls:=.type "list",data:=.seq its.toArray n }={ cls:=.type "list",data:=.seq its'.toArray n' }) (r:zba ys its') (hz:ys.length<=sizeLine) (t:Nat) :
  Inv X pS Y (upd H p (.lst ys)) { s with heap:=s.heap.update p f,toks:=t }:=by
 have e:(s.heap.update p f).get? p=some { cls:=.type "list",data:=.seq its'.toArray n' }:=by rw[Heap.get?_update_self f ho (by rw[hf] <;> rfl),hf]
 refine I.write (x:=p) (e:=p) (by rw[h];trivial) (.inl rfl) (λb u hb q=>(Heap.get?_update_other _ _ (Ne.symm hb)).trans q) ⟨_,e⟩ ?_;exact ⟨hz,its',n',r,e⟩
def zuB:V->V->V->Hp->(Hp->Prop)->Prop:=λo i v H Q=>∃ p xs k j,o=.ref p/\i=.int k/\H p=some (.lst xs)/\ixN xs.length k=some j/\Q (upd H p (.lst (xs.set j v)))
theorem zpm:PSet X zuB:=by
 intro pS s Y H o i v ov iv u Q I ro ri rv h;obtain ⟨p,xs,k,j,rfl,rfl,hp,hj,q⟩:=h;cases ro;obtain ⟨t,rfl⟩:=ri;obtain ⟨its,n,r,ho,hz⟩:=I.lst hp;obtain ⟨h1,h2,h3,h4⟩:=zld hj;have hl:=r.length;have hn:=zkx;have I':Inv X pS Y (upd H p (.lst (xs.set j v))) { s with heap:=s.heap.update p (Obj.mapSeq (·.setIfInBounds j u)) } :=
  I.lstUpd hp ho (zmb its n j u) (r.set rv j) (by rw[List.length_set];exact hz) s.toks
 by_cases h0:0<=k
 ·have hk:k.toNat=j:=by rw[seqIndex_of h0 h4] at h1;exact waB h1
  exact W.ki_setAt ho h0 xwl (by rw[List.size_toArray,<- hl];exact h4) (by rw[hk];exact ⟨_,I',q⟩)
 ·have hk:(k+(its.toArray.size:Int)).toNat=j:=by rw[seqIndex_neg xwl h3] at h1;rw[List.size_toArray,<- hl];exact waB h1
  exact W.ki_setBack ho xwl (by rw[List.size_toArray,<- hl];exact h3) xwl (by rw[hk];exact ⟨_,I',q⟩)
theorem zfW:zcN X (.builtin "len") (λxs H Q=>∃ p ys,xs=[.ref p]/\(SqL X.K H p ys\/SqT X.K H p ys)/\Q (.int ys.length) H):=by
 intro pS s Y H xs us Q I r h;obtain ⟨p,ys,rfl,hq,q⟩:=h;obtain ⟨u,rfl,rx⟩:=zhQ r;cases rx;have hn:=zkx;rcases hq with hq|hq
 ·obtain ⟨its,r',pl,hz⟩:=I.list hq;have hlen:=r'.length;exact Calls.call_len_list pl.isList (by simp only[waf] <;> lia) ⟨.int ys.length,H,I.tok _,⟨s.toks+1,by rw[List.size_toArray,hlen]⟩,q⟩
 ·obtain ⟨its,r',pl,hz⟩:=I.tuple hq;have hlen:=r'.length;exact len_tuple pl (by simp only[waf] <;> lia) ⟨.int ys.length,H,I.tok _,⟨s.toks+1,by rw[List.size_toArray,hlen]⟩,q⟩
theorem zjF:zcN X (.builtin "len") (λxs H Q=>∃ z,xs=[.str z]/\z.length<=sizeLine/\Q (.int z.length) H):=by intro pS s Y H xs us Q I r h;obtain ⟨z,rfl,hz,q⟩:=h;obtain ⟨u,rfl,t,rfl⟩:=zhQ r;have hn:=zkx;exact len_str xwl ⟨.int z.length,H,I.tok _,⟨_,rfl⟩,q⟩
theorem zcN.or{f:Value}{r r':List V->Hp->VK->Prop}(h:zcN X f r)(h':zcN X f r'):zcN X f (λxs H Q=>r xs H Q\/r' xs H Q):=by
 intro pS s Y H xs us Q I rs q;rcases q with q|q
 ·exact h pS s Y H xs us Q I rs q
 ·exact h' pS s Y H xs us Q I rs q
theorem zke:zcN X (.type "list") (λxs H Q=>∃ p ys,xs=[.ref p]/\(SqL X.K H p ys\/SqT X.K H p ys)/\∀ l,H l=none->Q (.ref l) (upd H l (.lst ys))):=by
 intro pS s Y H xs us Q I r h;obtain ⟨p,ys,rfl,hq,q⟩:=h;obtain ⟨u,rfl,rx⟩:=zhQ r;cases rx;have fin:∀(its:List Value),zba ys its->ys.length<=sizeLine->∀(h':Heap)(c':Nat),(∀ b o',s.heap.get? b=some o'->h'.get? b=some o') ->
   h'.get? s.heap.objs.size=some { cls:=.type "list",dict:=none,data:=.seq its.toArray c',slots:=#[] }->EP X pS Y Q (.ref s.heap.objs.size) { s with heap:=h' }:=λits r' hz h' c' kp e =>
  ⟨.ref s.heap.objs.size,_,I.laid (t':=s.toks) kp (wal _) (show zc2 X.prog X.w _ h' _ (.lst ys) from ⟨hz,its,c',r',e⟩),rfl,q _ (I.hok.fresh (wal _))⟩
 rcases hq with hq|hq
 ·obtain ⟨its,r',pl,hz⟩:=I.list hq;have hlen:=r'.length;obtain ⟨o,ho,hc,n,hd⟩:=pl.isList;exact call_list_seq p (.inl rfl) ho hc hd (λh' c' kp e=>fin its r' hz h' c' kp e) (by simp only[waf] <;> lia)
 ·obtain ⟨its,r',pl,hz⟩:=I.tuple hq;have hlen:=r'.length;obtain ⟨o,ho,hc,n,hd⟩:=pl;exact call_list_seq p (.inr rfl) ho hc hd (λh' c' kp e=>fin its r' hz h' c' kp e) (by simp only[waf] <;> lia)
theorem zi8:zcN X (.type "tuple") (λxs H Q=>∃ p ys,xs=[.ref p]/\((SqL X.K H p ys/\∀ l,H l=none->Q (.ref l) (upd H l (.tup ys)))\/(SqT X.K H p ys/\Q (.ref p) H))):=by
 intro pS s Y H xs us Q I r h;obtain ⟨p,ys,rfl,h⟩:=h;obtain ⟨u,rfl,rx⟩:=zhQ r;cases rx;rcases h with ⟨hq,q⟩|⟨hq,q⟩
 ·obtain ⟨its,r',pl,hz⟩:=I.list hq;have hlen:=r'.length;refine call_tuple_list pl.isList (λh' kp=>?_) (by simp only[waf] <;> lia);have I1:Inv X pS Y H { s with heap:=h' }:=I.kept (t':=s.toks) kp;have I2:Inv X pS Y (upd H h'.objs.size (.tup ys)) { s with heap:=h'.push { cls:=.type "tuple",data:=.seq its.toArray } } :=
   I1.laid (t':=s.toks) (λb o e=>waa _ e) (wal _) (show zc2 X.prog X.w _ _ _ (.tup ys) from ⟨hz,its,r',_,waj _ rfl⟩)
  exact ⟨.ref h'.objs.size,_,I2,rfl,q _ (I1.hok.fresh (wal _))⟩
 ·obtain ⟨its,r',pl,hz⟩:=I.tuple hq;exact call_tuple_same pl ⟨.ref p,H,I,rfl,q⟩
def tyV(K:W.Frag)(T:String)(x:V)(H:Hp):Prop:=match x with
 |.str _=>T="str"
 |.int _=>T="int"
 |.ref p=>(T="list"/\∃ xs,SqL K H p xs)\/(T="tuple"/\∃ o,K.lookup p=some o/\o.cls=.type "tuple"/\o.dict=none) \/
   (T="dict"/\((∃ kvs,H p=some (.dK kvs))\/∃ kvs,H p=some (.dT kvs)))\/(T="set"/\∃ S n,H p=some (.set S n))
 |_=>False
theorem ztn{pS:List (Addr×Obj)}{Y:St}{H:Hp}{s:Shared}{T:String}{x:V}{v:Value}(I:Inv X pS Y H s)(r:zca x v)(ty:tyV X.K T x H) :
  s.TypeIs v T/\∀ a,v=.ref a->∃ ob,s.heap.get? a=some ob/\ob.dict=none:=by
 cases x with
 |str z =>
  obtain ⟨t,rfl⟩:=r;cases (show T="str" from ty);exact ⟨typeIs_str s z t,λ_ e=>nomatch e⟩
 |int i =>
  obtain ⟨t,rfl⟩:=r;cases (show T="int" from ty);exact ⟨typeIs_int s i t,λ_ e=>nomatch e⟩
 |ref p =>
  cases r;rcases ty with ⟨rfl,xs,hq⟩|⟨rfl,o,hk,hc,hd⟩|⟨rfl,hk⟩|⟨rfl,S,n,hk⟩
  ·obtain ⟨its,_,pl,_⟩:=I.list hq;refine ⟨pl.isList.typeIs,λa e=>?_⟩;cases e;obtain ⟨o,n,e,c,hd,_⟩:=pl;exact ⟨o,e,hd⟩
  ·refine ⟨⟨o,I.kIn p o hk,hc⟩,λa e=>?_⟩;cases e;exact ⟨o,I.kIn _ o hk,hd⟩
  ·have z:∃ o,s.heap.get? p=some o/\o.ExactDict:=by
    rcases hk with ⟨kvs,hk⟩|⟨kvs,hk⟩
    ·obtain ⟨_,_,_,_,o,_,_,e,ex,_⟩:=I.hok p _ hk;exact ⟨o,e,ex⟩
    ·obtain ⟨_,_,_,_,o,_,_,e,ex,_⟩:=I.hok p _ hk;exact ⟨o,e,ex⟩
   obtain ⟨o,e,ex⟩:=z;refine ⟨⟨o,e,ex.1⟩,λa e2=>?_⟩;cases e2;exact ⟨o,e,ex.2.1⟩
  ·obtain ⟨o,_,_,_,e,ex,_⟩:=I.hok p _ hk;refine ⟨⟨o,e,ex.1⟩,λa e2=>?_⟩;cases e2;exact ⟨o,e,ex.2.1⟩
 |_=>exact waP ty
def tBM(K:W.Frag)(T:String)(r:V->List V->Hp->VK->Prop)(to:TE)(t:TA):TE:=λY H Q=>to Y H λx H1=>tyV K T x H1/\t Y H1 λxs H2=>r x xs H2 Q
variable{o e:Expr}{es:List Expr}{to:TE}{t:TA}{name:Str}{apos cpos:Pos}{T id:String}{r:V->List V->Hp->VK->Prop}
theorem zp6(pa:PlainAttrs T)(slot:Slot T name id)(hty:typeOf (.builtin id)=pure (.type "method_descriptor"))(hm:MtR X id r)(ho:PE X o to)(ha:PA X (e::es) t)
  (hbase:attributeBase o name X.env (eval o X.env)=eval o X.env:=by rfl)
  (hfew:((backTo cpos (starEach (e::es) X.env)).all (λx=>!x.1) && (backToKw cpos (keywordEach [] X.env)).all (λx=>x.1.isSome)
   && decide ((e::es).length+([]:List Keyword).length+(if ([]:List Keyword).isEmpty then 0 else 1)<30))=true:=by rfl)
  (hline:(apos.endLine == cpos.line)=true:=by rfl) (hs:starEach (e::es) X.env=(false,eval e X.env)::starEach es X.env:=by rfl) (hplain:(backTo cpos (starEach es X.env)).any (·.1)=false:=by rfl) :
  PE X (.Call (.Attribute o name apos) (e::es) [] cpos) (tBM X.K T r to t):=by
 intro pS s Y H Q I h;refine wpAny_Call_method_late hbase hfew hline rfl (thn (ho pS s Y H _ I h) λv s1 ⟨x,H1,I1,r1,ty,q1⟩=>?_);obtain ⟨h1,h2⟩:=ztn I1 r1 ty;refine ⟨T,id,pa,slot,hty,h1,h2,?_⟩;have hA:=ha cpos pS s1 Y H1 _ I1 q1;rw[hs] at hA ⊢;refine Calls.callWith_builtin (by show (false || (backTo cpos (starEach es X.env)).any (·.1))=false;rw[hplain] <;> rfl) (Calls.evalArgs_plain ?_);exact thn hA λus s2 ⟨vs,H2,I2,r2,q2⟩=>hm pS s2 Y H2 x vs v us Q I2 r1 r2 q2
end
end L2
namespace L2
open PySem PySem.Spec PyProof.Rows
def MtM(X:Cx)(id:String)(r:V->List V->Hp->VK->Prop):Prop :=
 ∀(pS:List (Addr×Obj))(s:Shared)(Y:St)(H:Hp)(x:V)(xs:List V)(v:Value)(us:List Value)(Q:VK),Inv X pS Y H s->zca x v->zba xs us->r x xs H Q ->
  wpAny (model X.prog X.w) X.A (call (.builtin id) (v::us)) (EP X pS Y Q) X.xe s
theorem zba.one:∀{x:V}{us:List Value},zba [x] us->∃ u,us=[u]/\zca x u
 |_,_,.cons r .nil=>⟨_,rfl,r⟩
theorem zba.dropLast{xs:List V}{us:List Value}(h:zba xs us):zba xs.dropLast us.dropLast:=by
 induction h with
 |nil=>exact .nil
 |cons r t ih =>
  cases t with
  |nil=>exact .nil
  |cons q t'=>exact .cons r ih
theorem zba.eraseIdx:∀{xs:List V}{us:List Value}(i:Nat),zba xs us->zba (xs.eraseIdx i) (us.eraseIdx i)
 |_,_,_,.nil=>.nil
 |_,_,0,.cons _ t=>t
 |_,_,i+1,.cons r t=>.cons r (zba.eraseIdx i t)
theorem zba.reverse{xs:List V}{us:List Value}(h:zba xs us):zba xs.reverse us.reverse:=by
 induction h with
 |nil=>exact .nil
 |cons r t ih=>rw[List.reverse_cons,List.reverse_cons];exact zba.append ih (.cons r .nil)
theorem zba.rep{xs:List V}{us:List Value}(h:zba xs us):∀ k:Nat,zba (List.replicate k xs).flatten (List.replicate k us).flatten
 |0=>.nil
 |k+1=>by rw[List.replicate_succ,List.replicate_succ,List.flatten_cons,List.flatten_cons];exact zba.append h (zba.rep h k)
theorem zj7{α:Type}:∀(l:List α)(i:Nat),(l.eraseIdx i).length<=l.length
 |[],_=>wal _
 |_::_,0=>Nat.le_succ _
 |_::r,i+1=>Nat.succ_le_succ (zj7 r i)
theorem zjx(its:List Value):∀(k:Nat)(acc:List Value),
  List.foldl (λx1 x2=>x1++x2) acc.toArray (List.replicate k its.toArray)=(acc++(List.replicate k its).flatten).toArray
 |0,acc=>by simp
 |k+1,acc=>by
  have e:acc.toArray++its.toArray=(acc++its).toArray:=by simp
  have e2:(acc++its)++(List.replicate k its).flatten=acc++(List.replicate (k+1) its).flatten:=by rw[List.replicate_succ,List.flatten_cons,List.append_assoc]
  rw[<- e2,<- zjx its k (acc++its),<- e,List.replicate_succ,List.foldl_cons]
section
variable{X:Cx}{pS:List (Addr×Obj)}{Y:St}{H:Hp}{s:Shared}{l b:Addr}{xs ys zs:List V}
theorem Inv.lset{its its':List Value}{n:Nat}{f:Array Value->Array Value}{t':Nat}(I:Inv X pS Y H s)(hH:H l=some (.lst xs))
  (e:s.heap.get? l=some { cls:=.type "list",data:=.seq its.toArray n }) (hf:f its.toArray=its'.toArray) (hv:zba ys its') (hz:ys.length<=sizeLine) :
  Inv X pS Y (upd H l (.lst ys)) { s with heap:=s.heap.update l (Obj.mapSeq f),toks:=t' }:=by
 have q:=PySem.IsL.update e f;rw[hf] at q;refine I.write (x:=l) (e:=l) (by rw[hH];exact trivial) (.inl rfl) (λb' u hb hu=>(Heap.get?_update_other s.heap (Obj.mapSeq f) (Ne.symm hb)).trans hu) ⟨_,q⟩ ?_;exact ⟨hz,its',_,hv,q⟩
theorem Inv.lnew{its:List Value}{t':Nat}(I:Inv X pS Y H s)(hv:zba ys its)(hz:ys.length<=sizeLine) :
  Inv X pS Y (upd H s.heap.objs.size (.lst ys)) { s with heap:=s.heap.push { cls:=.type "list",data:=.seq its.toArray },toks:=t' } :=
 I.laid (λ_ _ q=>waa _ q) (wal _) ⟨hz,its,0,hv,waj _ rfl⟩
theorem Inv.fresh(I:Inv X pS Y H s):H s.heap.objs.size=none:=I.hok.fresh (wal _)
theorem Inv.lstM(I:Inv X pS Y H s)(hH:H l=some (.lst xs)):xs.length<=sizeLine/\∃(its:List Value)(n:Nat),zba xs its/\xs.length=its.length/\s.heap.get? l=some { cls:=.type "list",data:=.seq its.toArray n }:=by obtain ⟨z,its,n,r,e⟩:=I.hok l _ hH;exact ⟨z,its,n,r,r.length,e⟩
theorem zhN{n:Nat}(h:n<=sizeLine):Builtin.List.listTooLong n=false:=by unfold Builtin.List.listTooLong;exact waw xwl
end
section
variable{X:Cx}
def zrX:V->List V->Hp->VK->Prop:=λx vs H Q=>∃ l xs y,x=.ref l/\vs=[y]/\H l=some (.lst xs)/\xs.length<sizeLine/\Q .non (upd H l (.lst (xs++[y])))
theorem zhb:MtM X "list.append" zrX:=by intro pS s Y H x vs v us Q I rx rv h;obtain ⟨l,xs,y,rfl,rfl,hH,hz,q⟩:=h;cases rx;obtain ⟨u,rfl,ru⟩:=rv.one;obtain ⟨z,its,n,r,hl,e⟩:=I.lstM hH;refine call_meets F.slot_list_append ⟨_,e,rfl⟩ F.entry_list_append (F.args_list_append_2 _ _) (PySem.list_append l its.toArray n u (by rw[List.size_toArray];lia)) ⟨e,?_⟩;refine ⟨.non,_,I.lset (its':=its++[u]) hH e xws (r.append (.cons ru .nil)) ?_,rfl,q⟩;rw[List.length_append,List.length_singleton];lia
def zso:V->List V->Hp->VK->Prop:=λx vs H Q=>∃ l b xs zs,x=.ref l/\vs=[.ref b]/\H l=some (.lst xs)/\H b=some (.lst zs)/\xs.length+zs.length<=sizeLine/\Q .non (upd H l (.lst (xs++zs)))
theorem znn:MtM X "list.extend" zso:=by
 intro pS s Y H x vs v us Q I rx rv h;obtain ⟨l,b,xs,zs,rfl,rfl,hH,hB,hz,q⟩:=h;cases rx;obtain ⟨u,rfl,ru⟩:=rv.one;cases ru;obtain ⟨z,its,n,r,hl,e⟩:=I.lstM hH;obtain ⟨z2,its2,n2,r2,hl2,e2⟩:=I.lstM hB;have hsz:its.toArray.size+its2.toArray.size<=sizeLine:=by rw[List.size_toArray,List.size_toArray];lia
 have hlong:¬ (!its.toArray.isEmpty && Builtin.List.listTooLong (its.toArray.size+its2.toArray.size))=true:=by rw[zhN hsz,Bool.and_false];exact Bool.false_ne_true
 refine call_meets F.slot_list_extend ⟨_,e,rfl⟩ F.entry_list_extend (F.args_list_extend_2 _ _)
  (AutoSeq1.list_extend_list_list_0 l its.toArray n b its2.toArray n2 hlong (by rw[List.size_toArray];lia) xwl) ⟨e,e2,?_⟩
 refine ⟨.non,_,I.lset (its':=its++its2) hH e xws (r.append r2) ?_,rfl,q⟩;rw[List.length_append];lia
def zty:V->List V->Hp->VK->Prop:=λx vs H Q=>∃ l xs i k y,x=.ref l/\vs=[.int i]/\H l=some (.lst xs)/\-(2 ^ 63)<=i/\i<2 ^ 63/\seqIndex? i xs.length=some k/\xs[k]? = some y/\Q y (upd H l (.lst (xs.eraseIdx k)))
theorem zoF:MtM X "list.pop" zty:=by
 intro pS s Y H x vs v us Q I rx rv h;obtain ⟨l,xs,i,k,y,rfl,rfl,hH,h1,h2,hk,hy,q⟩:=h;cases rx;obtain ⟨u,rfl,ru⟩:=rv.one;obtain ⟨t,rfl⟩:=ru;obtain ⟨z,its,n,r,hl,e⟩:=I.lstM hH;obtain ⟨w,hw,rw'⟩:=r.get hy;refine call_meets F.slot_list_pop ⟨_,e,rfl⟩ F.entry_list_pop (F.args_list_pop_2 _ _)
  (MeetsSeq.list_pop_at l its.toArray n i t k w (fitsIndex_both h1 h2) (by rw[List.size_toArray,<- hl];exact hk) (by rw[<- Array.getElem?_toList];exact hw) (by rw[List.size_toArray];lia)) ⟨e,?_⟩
 refine ⟨y,_,I.lset (its':=its.eraseIdx k) hH e ?_ (r.eraseIdx k) ?_,rw',q⟩
 ·show its.toArray.eraseIdxIfInBounds k=(its.eraseIdx k).toArray;rw[List.eraseIdxIfInBounds_toArray]
 ·have:=zj7 xs k;lia
def rCat:R2:=λx y H Q=>∃ l b xs zs,x=.ref l/\y=.ref b/\H l=some (.lst xs)/\H b=some (.lst zs)/\xs.length+zs.length<=sizeLine/\∀ p,H p=none->Q (.ref p) (upd H p (.lst (xs++zs)))
theorem ztV:OpR X (binaryOp .Add) rCat:=by
 intro pS s Y H x y v u Q I rx ry h;obtain ⟨l,b,xs,zs,rfl,rfl,hH,hB,hz,q⟩:=h;cases rx;cases ry;obtain ⟨z,its,n,r,hl,e⟩:=I.lstM hH;obtain ⟨z2,its2,n2,r2,hl2,e2⟩:=I.lstM hB;refine PySem.P.add_list e e2 ?_ (by rw[List.size_toArray,List.size_toArray];lia);have ea:its.toArray++its2.toArray=(its++its2).toArray:=by simp
 rw[ea];exact ⟨.ref _,_,I.lnew (t':=s.toks) (r.append r2) (by rw[List.length_append];lia),rfl,q _ I.fresh⟩
def rRep:R2:=λx y H Q=>∃ l k xs,x=.ref l/\y=.int k/\H l=some (.lst xs)/\-(2 ^ 63)<=k/\k<2 ^ 63/\xs.length * k.toNat<=sizeLine /\
 ∀ p,H p=none->Q (.ref p) (upd H p (.lst (List.replicate k.toNat xs).flatten))
theorem zsj{α:Type}(xs:List α)(k:Nat):(List.replicate k xs).flatten.length=k * xs.length:=by
 induction k with
 |zero=>simp
 |succ k ih=>rw[List.replicate_succ,List.flatten_cons,List.length_append,ih,Nat.succ_mul,Nat.add_comm]
theorem ztu:OpR X (binaryOp .Mult) rRep:=by
 intro pS s Y H x y v u Q I rx ry h;obtain ⟨l,k,xs,rfl,rfl,hH,h1,h2,hz,q⟩:=h;cases rx;obtain ⟨t,rfl⟩:=ry;obtain ⟨z,its,n,r,hl,e⟩:=I.lstM hH;have hlen:its.toArray.size * k.toNat<=sizeLine:=by rw[List.size_toArray,<- hl];exact hz
 have hcap:¬ its.toArray.size * k.toNat > (2 ^ 63-1) / 8:=by
  have:(sizeLine:Nat)<=(2 ^ 63-1) / 8:=by decide
  lia
 have hfit:¬ (!Builtin.List.listFitsIndex k)=true:=by rw[fitsIndex_both h1 h2];exact Bool.false_ne_true
 have hlong:¬ Builtin.List.listTooLong (its.toArray.size * k.toNat)=true:=by rw[zhN hlen];exact Bool.false_ne_true
 have hnew:List.foldl (λx1 x2=>x1++x2) #[] (List.replicate (if its.toArray.isEmpty=true then 0 else k.toNat) its.toArray)=(List.replicate k.toNat its).flatten.toArray:=by
  have f0:∀ m:Nat,List.foldl (λx1 x2=>x1++x2) #[] (List.replicate m its.toArray)=(List.replicate m its).flatten.toArray:=λm=>by have:=zjx its m [];rw[List.nil_append] at this;exact this
  rw[f0];cases its with
  |nil=>simp
  |cons a r'=>rw[if_neg xws]
 refine wpAny_binaryOp_repeat_ref (T:="list") (U:="int") xwd ⟨_,e,rfl⟩ (λs'=>typeIs_int s' k t) noFill_list_mul F.fills_int_mul F.slot_int_rmul repeat_list F.slot_int_index.lookup
  (call_meets F.slot_int_rmul (typeIs_int s k t) F.entry_int_rmul (F.args_int_rmul_2 _ _) (int___rmul___int_list k t l its.toArray n)
   ⟨e,rfl,⟨_,e,rfl⟩,call_meets F.slot_list_mul ⟨_,e,rfl⟩ F.entry_list_mul (F.args_list_mul_2 _ _) (AutoListH.list___mul___list_int_3 l its.toArray n k t hfit hcap hlong) ⟨e,?_⟩⟩)
 rw[hnew];exact ⟨.ref _,_,I.lnew (t':=s.toks) (r.rep k.toNat) (by rw[zsj,Nat.mul_comm];exact hz),rfl,q _ I.fresh⟩
end
section
variable{prog:Program}{w:World}{A:Around}{E:Value->Shared->Prop}{s:Shared}
set_option maxRecDepth 100000 in
end
section
variable{X:Cx}
end
end L2
namespace Att
open PySem PySem.W PySem.Calls PyProof.Rows
theorem zgY{P:Params}{h:Heap}:∀(ns:List Int)(vs:List Value),WellAll P h vs (ns.map WData.int)->IntsAre vs ns:=by
 intro ns
 induction ns with
 |nil =>
  intro vs w;rw[List.map_nil] at w;cases w;exact .nil
 |cons n ns ih =>
  intro vs w;rw[List.map_cons] at w;cases w with
  |cons a b =>
   cases a;exact .cons _ _ (ih _ b)
theorem znJ{l:OpenLaw}{n:Nat}(hn:l.most=some n){P:Params}{h:Heap}{args:List WData}{vals:List Value}
  (hpre:l.row.toRowW.claim.pre args=true) (hwl:WellAll P h vals args) :
  ∃ a vs ns,vals=[Value.ref a]/\args=[WData.list (ns.map WData.int)]/\h.get? a=some { cls:=.type "list",data:=.seq vs.toArray }/\IntsAre vs ns/\ns.length<=n:=by
 have hsh:WShape.hasAll [] args [.list .int]=true:=(pre_splitW hpre).1;have hc:l.pre.holds [] { args:=args }=true:=(pre_splitW hpre).2;obtain ⟨d,r,rfl,h1,h2⟩:=hasAllW_cons hsh;obtain rfl:=hasAllW_nil h2;obtain ⟨xs,rfl,h3⟩:=hasW_list h1;obtain ⟨ns,rfl⟩:=items_int h3;have hlen:ns.length<=n:=by
  unfold OpenLaw.pre at hc;have h4:(WTm.not (.lt (.lit (.int (n:Int))) (.len (.arg 0)))).holds [] { args:=[.list (ns.map .int)] }=true:=by have h4:=(holds_andW hc).1;rw[hn] at h4;exact h4
  have h5:=condW_of h4 (w_not (w_lt w_lit (w_len_list (w_arg rfl))));rw[List.length_map] at h5;refine Nat.le_of_not_lt λq=>?_;have q':(n:Int)<((ns.length:Nat):Int):=by lia
  first
   | (rw[decide_eq_true q'] at h5;exact absurd h5 xwd)
   | (simp at h5;lia)
 cases hwl with
 |cons w1 w2 =>
  cases w2;cases w1 with
  |list ho hall=>exact ⟨_,_,ns,rfl,rfl,ho,zgY ns _ hall,hlen⟩
theorem zot(l:OpenLaw)(args:List WData):l.row.toRowW.claim.post args (.bool true) args=true :=
 postW_of (r:=l.row.toRowW) (X:=(true == true))
  (show WShape.has [] (.bool true) .bool=true by first|rfl|decide|simp[WShape.has,WShape.arms,WShape.armsAll])
  (show (WTm.eq .res (.lit (.bool true))).value [] { args:=args,res:=some (.bool true),after:=args }=some (.bool (true == true)) from w_eq_bool (w_res rfl) w_lit) rfl
theorem attach_call{l:OpenLaw}{n:Nat}{q:Program}{loose:List Str}{XP:(Str->Option Value)->Heap->Prop}{YP:World->Heap->Prop}{d:DefRec}
  (hn:l.most=some n) (hdf:d.params.defaults=[])
  (call:∀(w:World)(s₀ s₁:Shared)(mg mb:Str->Option Value)(fa:Addr)(o:Obj)(pm cd doc:Value)(a:Addr)(vs:List Value)(ns:List Int),
   Ground q loose [] XP w s₀ mg mb s₁.heap->YP w s₁.heap ->
   s₁.heap.get? fa=some o->o.data=.func (docDef d.name d.params d.body d.scope pm cd doc)->s₁.heap.CodeRec cd d.name->mg d.name=some (.ref fa) ->
   s₁.heap.get? a=some { cls:=.type "list",data:=.seq vs.toArray }->IntsAre vs ns->ns.length<=n->s₁.gens=#[] ->
   codeAny (model l.prog w) callerA (.call (.ref fa) ⟨[.ref a],[]⟩) (λr s'=>r=.ok (.ret (.bool true))/\OldK s₁.heap s'.heap/\s'.os=s₁.os/\AllBare s'.gens) s₁) :
  WalkO q loose XP YP l.row.toRowW d [] (λf vs=>PySem.call f vs):=by
 intro w s₀ s₁ mg mb G Yq fa o pm cd doc dV kV ho hd hcd hD hmg hg args vals as hpre hlay hrd hwl hlo;obtain rfl:dV=.none:=Dflts.none hD hdf;obtain rfl:kV=.none:=Dflts.noKw hD;obtain ⟨a,vs,ns,rfl,rfl,hobj,hints,hlen⟩:=znJ hn hpre hwl;refine enter_call (codeAny_mono (call w s₀ s₁ mg mb fa o pm cd doc a vs ns G Yq ho (fd_plain hd) hcd hmg hobj hints hlen hg) λr s' hq=>?_);obtain ⟨rfl,h2,h3,h4⟩:=hq;exact ⟨.inl ⟨.bool true,.bool true,[],rfl,λ_=>rfl,.bool true,zot l _,λ_=>⟨List.Pairwise.nil,λ_ hm=>(nomatch hm)⟩⟩,h2,h3,h4⟩
section
variable{prog:Program}{w:World}{A:Around}{E:Value->Shared->Prop}{s:Shared}{K:Frag}
end
end Att
namespace L2
open PySem PySem.Spec PyProof.Rows
theorem zes:∀{vs:List Value}{ns:List Int},IntsAre vs ns->zba (ns.map V.int) vs
 |_,_,.nil=>.nil
 |_,_,.cons n t h=>.cons ⟨t,rfl⟩ (zes h)
end L2
namespace L2
open PySem PySem.Spec PyProof.Rows
end L2
namespace L2
open PySem PySem.Spec PyProof.Rows
def zdR(s:Stmt):Arguments:=match s with
 |.FunctionDef _ a _ _ _ _ _ _ _ _=>a
 |_=>{ posonlyargs:=[],args:=[],vararg:=none,kwonlyargs:=[],kw_defaults:=[],kwarg:=none,defaults:=[] }
def zbY(s:Stmt):List Stmt:=match s with
 |.FunctionDef _ _ b _ _ _ _ _ _ _=>b
 |_=>[]
def zah(s:Stmt):Scope:=match s with
 |.FunctionDef _ _ _ _ _ _ sc _ _ _=>sc
 |_=>{ kind:=.function,names:=[],isGenerator:=false,isCoroutine:=false }
abbrev CX0:CXT:=λ_ _ _ _ _ _=>False
structure Fun(K:W.Frag)(x qual:Str)(st:Stmt)(f:Addr)(fd:FuncData):Prop where
 ex:∃(oc:Value)(od:Option Addr)(kV doc pm:Value)(an:Option Addr)(cdv ct:Value)(osl:Array (Option Value)),
  fd=W.fnOf x qual (zdR st) (zbY st) (zah st) .none kV doc pm an cdv ct/\K.lookup f=some ⟨oc,od,.func fd,osl⟩/\W.codeIn K cdv qual=true
 kp:W.keepIn K (.ref f)=true
section
variable{P:Program}{w:World}{K:W.Frag}{mg:Str->Option Value}{base:Heap}
theorem Fun.ok{x qual:Str}{st:Stmt}{f:Addr}{fd:FuncData}{N ps:List Str}{k:Nat}{sp:Sp}(F:Fun K x qual st f fd)(S:zau N ps (zah st))(len:∀ vs H Q E,sp vs H Q E->vs.length=ps.length)
  (hbody:∀(cdv:Value)(A:Around)(outer:List Env)(s:Shared)(H:Hp)(vs:List V)(Q:VK)(E:XK),zd5 k (A.deeper (envOfC qual (zah st) s.heap.objs.size f cdv))->sp vs H Q E ->
   ∃ t,PSs (zko CX0 P w K mg base N qual (zah st) f cdv A outer s H E).nox (zbY st) t/\t { nx:=λ_ H'=>Q .non H',rt:=Q } (start N vs) H):zgI P w K mg base CX0 (k+1) f fd ps sp:=by
 obtain ⟨oc,od,kV,doc,pm,an,cdv,ct,osl,rfl,lk,hcd⟩:=F.ex;refine zpq lk hcd S len λA outer s H vs Q E hr hsp=>?_;obtain ⟨t,h,q⟩:=hbody cdv A outer s H vs Q E hr hsp;exact ⟨t,h.nox,q⟩
theorem Fun.binds{x qual:Str}{st:Stmt}{f:Addr}{fd:FuncData}{ps:List Str}(F:Fun K x qual st f fd)
  (h:∀(kV doc pm:Value)(an:Option Addr)(cdv ct:Value)(us:List Value),us.length=ps.length->bindArgs (W.fnOf x qual (zdR st) (zbY st) (zah st) .none kV doc pm an cdv ct) ⟨us,[]⟩=pure (ps.zip us)):zfw K fd ps []:=by
 obtain ⟨oc,od,kV,doc,pm,an,cdv,ct,osl,rfl,lk,hcd⟩:=F.ex;exact .all (h kV doc pm an cdv ct)
theorem zo7{x qual:Str}{st:Stmt}{f:Addr}{oc:Value}{od an:Option Addr}{osl:Array (Option Value)}{kV doc pm cdv ct:Value}(l:K.lookup f=some ⟨oc,od,.func (W.fnOf x qual (zdR st) (zbY st) (zah st) .none kV doc pm an cdv ct),osl⟩)
  (c:W.codeIn K cdv qual=true) (k:W.keepIn K (.ref f)=true):Fun K x qual st f (W.fnOf x qual (zdR st) (zbY st) (zah st) .none kV doc pm an cdv ct):=⟨⟨oc,od,kV,doc,pm,an,cdv,ct,osl,rfl,l,c⟩,k⟩
end
section
variable{X:Cx}
theorem pv(i:Nat){x:Str}{pos:Pos}(hN:X.N[i]? = some x:=by rfl)(hv:Vis X.env.scope x:=by exact xwV)(hd:(x == ("__debug__" : Str))=false:=by decide)
  (hcd:(x == ("__classdict__" : Str))=false:=by decide):PE X (.Name x pos) (zu6 i):=zcb hN hv hd hcd
end
theorem iteF{A B:Prop}(h:B):if false=true then A else B:=by rw[if_neg Bool.false_ne_true];exact h
theorem iteT{A B:Prop}(h:A):if true=true then A else B:=by rw[if_pos rfl];exact h
def zbU(H H':Hp):Prop:=∀ b o,H b=some o->H' b=some o
theorem zbU.refl(H:Hp):zbU H H:=λ_ _ h=>h
theorem zbU.trans{H H1 H2:Hp}(a:zbU H H1)(b:zbU H1 H2):zbU H H2:=λc o h=>b c o (a c o h)
theorem zbU.free{H H':Hp}(e:zbU H H'){l:Addr}(h:H' l=Option.none):H l=Option.none:=by
 cases q:H l with
 |none=>rfl
 |some o =>
  rw[e l o q] at h;cases h
theorem zbU.seq{K:W.Frag}{H H':Hp}{a:Addr}{xs:List V}(e:zbU H H')(h:SqL K H a xs):SqL K H' a xs:=by
 rcases h with (h|⟨o,h⟩)|h
 ·exact .inl (.inl (e _ _ h))
 ·exact .inl (.inr ⟨o,e _ _ h⟩)
 ·exact .inr h
end L2
end
section
namespace PV
open PySem PySem.Spec L2
inductive Dt where
 |non|bl (b:Bool)|int (i:Int)|str (x:Str)|tup (l:List Dt)|lst (l:List Dt)|dct (ks:List (Int×Int))|scr (ns:List Int)
inductive B where
 |val (d:Dt)|own (l:List Dt)|own2 (l:List (List Dt))|dic (l:List (Int×Dt))|tab (q:Str)|opq|exc (C:Addr)
abbrev Ev:=List (Option B)
inductive R(α:Type) where
 |ok (a:α)|er (n:Nat)|no
def R.bind{α β:Type}(r:R α)(f:α->R β):R β:=match r with
 |.ok a=>f a
 |.er n=>.er n
 |.no=>.no
@[simp] theorem R.bind_ok {α β:Type} (a:α) (f:α->R β):(R.ok a).bind f=f a:=rfl
@[simp] theorem R.bind_er {α β:Type} (n:Nat) (f:α->R β):(R.er n).bind f=.er n:=rfl
@[simp] theorem R.bind_no {α β:Type} (f:α->R β):(R.no).bind f=.no:=rfl
theorem R.bind_assoc{α β γ:Type}(r:R α)(f:α->R β)(g:β->R γ):(r.bind f).bind g=r.bind λa=>(f a).bind g:=by
 cases r <;> rfl
def zhJ(K:W.Frag)(H:Hp)(a:Addr)(xs:List V):Prop :=
 H a=some (.tup xs)\/∃(its:Array Value)(n:Nat),K.lookup a=some { cls:=.type "tuple",data:=.seq its n }/\its.size<=sizeLine/\zba xs its.toList
theorem zhJ.of{K:W.Frag}{H:Hp}{a:Addr}{xs:List V}(h:H a=some (.tup xs)):zhJ K H a xs:=.inl h
theorem zhJ.sq{K:W.Frag}{H:Hp}{a:Addr}{xs:List V}(h:zhJ K H a xs):SqT K H a xs:=by
 rcases h with h|⟨its,n,h1,h2,h3⟩
 ·exact .inl (.inl h)
 ·exact .inr ⟨_,its,n,h1,rfl,rfl,h2,h3⟩
theorem zhJ.same{K:W.Frag}{H H':Hp}{a:Addr}{xs:List V}(e:zbU H H')(h:zhJ K H a xs):zhJ K H' a xs:=h.elim (λz=>.inl (e _ _ z)) .inr
mutual
def Rep(K:W.Frag)(G:Hp):Dt->V->Prop
 |.non,v=>v=.non
 |.bl b,v=>v=.bl b
 |.int i,v=>v=.int i
 |.str x,v=>v=.str x
 |.tup l,v=>∃ a vs,v=.ref a/\zhJ K G a vs/\za1 K G l vs
 |.lst l,v=>∃ a vs,v=.ref a/\G a=some (.lst vs)/\za1 K G l vs
 |.dct ks,v=>∃ a,v=.ref a/\G a=some (.dK (ks.map λp=>(.inl p.1,.int p.2)))
 |.scr ns,v=>∃ a,v=.ref a/\SqL K G a (ns.map V.int)
def za1(K:W.Frag)(G:Hp):List Dt->List V->Prop
 |[],vs=>vs=[]
 |d::ds,vs=>∃ v r,vs=v::r/\Rep K G d v/\za1 K G ds r
end
theorem za8{K:W.Frag}{H H':Hp}{a:Addr}{xs:List V}(e:zbU H H')(h:SqT K H a xs):SqT K H' a xs:=by
 rcases h with (h|⟨o,h⟩)|h
 ·exact .inl (.inl (e _ _ h))
 ·exact .inl (.inr ⟨o,e _ _ h⟩)
 ·exact .inr h
mutual
theorem Rep.same{K:W.Frag}{G G':Hp}(e:zbU G G'):∀{d:Dt}{v:V},Rep K G d v->Rep K G' d v
 |.non,_,h=>by unfold Rep at h ⊢;exact h
 |.bl _,_,h=>by unfold Rep at h ⊢;exact h
 |.int _,_,h=>by unfold Rep at h ⊢;exact h
 |.str _,_,h=>by unfold Rep at h ⊢;exact h
 |.tup l,_,h=>by unfold Rep at h ⊢;obtain ⟨a,vs,h1,h2,h3⟩:=h;exact ⟨a,vs,h1,h2.same e,za1.same e h3⟩
 |.lst l,_,h=>by unfold Rep at h ⊢;obtain ⟨a,vs,h1,h2,h3⟩:=h;exact ⟨a,vs,h1,e _ _ h2,za1.same e h3⟩
 |.dct _,_,h=>by unfold Rep at h ⊢;obtain ⟨a,h1,h2⟩:=h;exact ⟨a,h1,e _ _ h2⟩
 |.scr ns,_,h=>by unfold Rep at h ⊢;obtain ⟨a,h1,h2⟩:=h;exact ⟨a,h1,e.seq h2⟩
theorem za1.same{K:W.Frag}{G G':Hp}(e:zbU G G'):∀{ds:List Dt}{vs:List V},za1 K G ds vs->za1 K G' ds vs
 |[],_,h=>by unfold za1 at h ⊢;exact h
 |d::ds,_,h=>by unfold za1 at h ⊢;obtain ⟨v,r,h1,h2,h3⟩:=h;exact ⟨v,r,h1,Rep.same e h2,za1.same e h3⟩
end
theorem za1.nil{K:W.Frag}{G:Hp}:za1 K G [] []:=by unfold za1;rfl
theorem za1.cons{K:W.Frag}{G:Hp}{d:Dt}{ds:List Dt}{v:V}{vs:List V}(h:Rep K G d v)(t:za1 K G ds vs):za1 K G (d::ds) (v::vs):=by unfold za1;exact ⟨v,vs,rfl,h,t⟩
theorem za1.nil_inv{K:W.Frag}{G:Hp}{vs:List V}(h:za1 K G [] vs):vs=[]:=by unfold za1 at h;exact h
theorem za1.cons_inv{K:W.Frag}{G:Hp}{d:Dt}{ds:List Dt}{vs:List V}(h:za1 K G (d::ds) vs):∃ v r,vs=v::r/\Rep K G d v/\za1 K G ds r:=by unfold za1 at h;exact h
theorem za1.length{K:W.Frag}{G:Hp}:∀{ds:List Dt}{vs:List V},za1 K G ds vs->ds.length=vs.length
 |[],_,h=>by rw[h.nil_inv];rfl
 |d::ds,_,h=>by obtain ⟨v,r,rfl,_,h3⟩:=h.cons_inv;simp[za1.length h3]
theorem za1.get{K:W.Frag}{G:Hp}:∀{ds:List Dt}{vs:List V}{i:Nat}{d:Dt},za1 K G ds vs->ds[i]? = some d->∃ v,vs[i]? = some v/\Rep K G d v
 |[],_,_,_,_,e=>by simp at e
 |d::ds,_,0,_,h,e=>by obtain ⟨v,r,rfl,h2,h3⟩:=h.cons_inv;simp at e;subst e;exact ⟨v,rfl,h2⟩
 |d::ds,_,i+1,_,h,e=>by obtain ⟨v,r,rfl,h2,h3⟩:=h.cons_inv;obtain ⟨u,e1,e2⟩:=za1.get (i:=i) h3 (by simpa using e);exact ⟨u,by simpa using e1,e2⟩
theorem za1.append{K:W.Frag}{G:Hp}:∀{ds es:List Dt}{vs us:List V},za1 K G ds vs->za1 K G es us->za1 K G (ds++es) (vs++us)
 |[],_,_,_,h,t=>by rw[h.nil_inv];exact t
 |d::ds,_,_,_,h,t=>by obtain ⟨v,r,rfl,h2,h3⟩:=h.cons_inv;exact za1.cons h2 (za1.append h3 t)
theorem za1.take{K:W.Frag}{G:Hp}:∀(n:Nat){ds:List Dt}{vs:List V},za1 K G ds vs->za1 K G (ds.take n) (vs.take n)
 |0,_,_,_=>by simpa using za1.nil
 |n+1,[],_,h=>by rw[h.nil_inv];simpa using za1.nil
 |n+1,d::ds,_,h=>by obtain ⟨v,r,rfl,h2,h3⟩:=h.cons_inv;exact za1.cons h2 (za1.take n h3)
theorem za1.drop{K:W.Frag}{G:Hp}:∀(n:Nat){ds:List Dt}{vs:List V},za1 K G ds vs->za1 K G (ds.drop n) (vs.drop n)
 |0,_,_,h=>h
 |n+1,[],_,h=>by rw[h.nil_inv];simpa using za1.nil
 |n+1,d::ds,_,h=>by obtain ⟨v,r,rfl,h2,h3⟩:=h.cons_inv;exact za1.drop n h3
theorem za1.reverse{K:W.Frag}{G:Hp}:∀{ds:List Dt}{vs:List V},za1 K G ds vs->za1 K G ds.reverse vs.reverse
 |[],_,h=>by rw[h.nil_inv];exact za1.nil
 |d::ds,_,h=>by obtain ⟨v,r,rfl,h2,h3⟩:=h.cons_inv;rw[List.reverse_cons,List.reverse_cons];exact (za1.reverse h3).append (za1.cons h2 za1.nil)
theorem za1.set{K:W.Frag}{G:Hp}{d:Dt}{v:V}(hv:Rep K G d v):∀(i:Nat){ds:List Dt}{vs:List V},za1 K G ds vs->za1 K G (ds.set i d) (vs.set i v)
 |_,[],_,h=>by rw[h.nil_inv];exact za1.nil
 |0,d'::ds,_,h=>by obtain ⟨v,r,rfl,h2,h3⟩:=h.cons_inv;exact za1.cons hv h3
 |i+1,d'::ds,_,h=>by obtain ⟨v,r,rfl,h2,h3⟩:=h.cons_inv;exact za1.cons h2 (za1.set hv i h3)
theorem za1.eraseIdx{K:W.Frag}{G:Hp}:∀(i:Nat){ds:List Dt}{vs:List V},za1 K G ds vs->za1 K G (ds.eraseIdx i) (vs.eraseIdx i)
 |_,[],_,h=>by rw[h.nil_inv];exact za1.nil
 |0,d'::ds,_,h=>by obtain ⟨v,r,rfl,h2,h3⟩:=h.cons_inv;exact h3
 |i+1,d'::ds,_,h=>by obtain ⟨v,r,rfl,h2,h3⟩:=h.cons_inv;exact za1.cons h2 (za1.eraseIdx i h3)
theorem za1.dropLast{K:W.Frag}{G:Hp}{ds:List Dt}{vs:List V}(h:za1 K G ds vs):za1 K G ds.dropLast vs.dropLast:=by rw[List.dropLast_eq_take,List.dropLast_eq_take,h.length];exact h.take _
abbrev Wn:=Addr->Option Nat
structure zbB(G H:Hp)(w:Wn)(G' H':Hp)(w':Wn):Prop where
 g:zbU G G'
 fr:∀ b o,G' b=some o->G b≠none\/H b=none\/w b≠none
 h:∀ b o,H b=some o->w b=none->H' b=some o
 w:∀ b,w' b≠none->w b≠none\/H b=none
 k:∀ b,H' b=none->H b=none
theorem zbB.refl(G H:Hp)(w:Wn):zbB G H w G H w :=
 ⟨zbU.refl G,λb o e=>.inl (by rw[e];simp),λ_ _ e _=>e,λ_ e=>.inl e,λ_ e=>e⟩
theorem zbB.trans{G H G1 H1 G2 H2:Hp}{w w1 w2:Wn}(a:zbB G H w G1 H1 w1)(b:zbB G1 H1 w1 G2 H2 w2):zbB G H w G2 H2 w2:=by
 have hn:=a.k;refine ⟨a.g.trans b.g,λc o e=>?_,λc o e z=>?_,λc e=>?_,λc e=>a.k c (b.k c e)⟩
 ·rcases b.fr c o e with q|q|q
  ·cases q':G1 c with
   |none=>exact absurd q' q
   |some u=>exact a.fr c u q'
  ·exact .inr (.inl (hn c q))
  ·rcases a.w c q with z|z
   ·exact .inr (.inr z)
   ·exact .inr (.inl z)
 ·have e1:=a.h c o e z;refine b.h c o e1 ?_;cases q:w1 c with
  |none=>rfl
  |some k =>
   rcases a.w c (by rw[q];simp) with r|r
   ·exact absurd z r
   ·rw[e] at r;cases r
 ·rcases b.w c e with q|q
  ·exact a.w c q
  ·exact .inr (hn c q)
structure Cn where
 G₀:Hp
 H₀:Hp
 w₀:Wn
 pp:List Nat
 σ₀:St
 ex:Nat->Prop
 xv:Nat->Value
 nw:Bool
def RtG(nw:Bool)(K:W.Frag)(H0 G H:Hp)(w:Wn)(d:Dt)(v:V):Prop:=match nw with
 |false=>Rep K G d v
 |true=>∃ l p vs,d=.lst l/\v=.ref p/\H0 p=none/\H p=some (.lst vs)/\G p=none/\w p=none/\za1 K G l vs
def cHO(c:Addr)(q:Str):HO:=.ext λh=>h.CodeRec (.ref c) q
def xHO(l C:Addr):HO:=.ext λh=>∃ o vs,h.get? l=some o/\o.cls=.ref C/\o.data=.fields vs
def RB(K:W.Frag)(G H:Hp)(w:Wn)(i:Nat)(v:V):B->Prop
 |.val d=>Rep K G d v
 |.own ds=>∃ a vs,v=.ref a/\w a=some i/\H a=some (.lst vs)/\za1 K G ds vs
 |.own2 dss=>∃ a as,v=.ref a/\w a=some i/\H a=some (.lst (as.map V.ref))/\(a::as).Nodup/\Paired (λb ds=>w b=some i/\∃ vs,H b=some (.lst vs)/\za1 K G ds vs) as dss
 |.tab q=>∃ P ps,v=.ref P/\w P=some i/\H P=some (.tbl ps)/\TriplesOk ps.toList/\∀ pos cv,codeAmong pos ps.toList=some cv->∃ c,cv=.ref c/\G c=some (cHO c q)
 |.dic ds=>∃ a us,v=.ref a/\w a=some i/\H a=some (.dK us)/\Paired (λ(p:Int×Dt) (q:Key×V)=>q.1=.inl p.1/\Rep K G p.2 q.2) ds us
 |.opq=>True
 |.exc C=>∃ l,v=.ref l/\G l=some (xHO l C)
structure Rel(K:W.Frag)(C:Cn)(G:Hp)(w:Wn)(Z:Ev)(Y:St)(H:Hp):Prop where
 gh:zbU G H
 wg:∀ b,w b≠none->G b=none
 wh:∀ b,w b≠none->H b≠none
 len:Z.length = Y.length
 sl:∀ i b,Z[i]? = some (some b)->∃ v,Y[i]? = some (some v)/\RB K G H w i v b
 en:zbB C.G₀ C.H₀ C.w₀ G H w
 pin:∀ i∈C.pp,Y[i]? = C.σ₀[i]?
structure ze9(G H G' H':Hp):Prop where
 g:zbU G G'
 h:zbU H H'
 gh:zbU G' H'
 fr:∀ b o,G' b=some o->G b≠none\/H b=none
theorem ze9.refl{G H:Hp}(e:zbU G H):ze9 G H G H:=⟨.refl _,.refl _,e,λb o q=>.inl (by rw[q];simp)⟩
theorem ze9.trans{G H G1 H1 G2 H2:Hp}(a:ze9 G H G1 H1)(b:ze9 G1 H1 G2 H2):ze9 G H G2 H2 :=
 ⟨a.g.trans b.g,a.h.trans b.h,b.gh,λc o e=>by
  rcases b.fr c o e with q|q
  ·cases q':G1 c with
   |none=>exact absurd q' q
   |some u=>exact a.fr c u q'
  ·exact .inr (a.h.free q)⟩
theorem ze9.step{G H G' H':Hp}{w:Wn}(a:ze9 G H G' H'):zbB G H w G' H' w :=
 ⟨a.g,λb o e=>(a.fr b o e).elim .inl λz=>.inr (.inl z),λb o e _=>a.h b o e,λ_ e=>.inl e,λ_ e=>a.h.free e⟩
theorem zfB{α β:Type}{F F':α->β->Prop}(f:∀ a b,F a b->F' a b):∀{l₁:List α}{l₂:List β},Paired F l₁ l₂->Paired F' l₁ l₂
 |_,_,.nil=>.nil
 |_,_,.cons r t=>.cons (f _ _ r) (zfB f t)
theorem RB.grow{K:W.Frag}{G H G' H':Hp}{w w':Wn}{i j:Nat}{v:V}{b:B}(g:zbU G G')(h:∀ a o,w a=some i->H a=some o->H' a=some o/\w' a=some j)(r:RB K G H w i v b):RB K G' H' w' j v b:=by
 cases b with
 |val d=>exact Rep.same g r
 |own ds =>
  obtain ⟨a,vs,h1,h2,h3,h4⟩:=r;obtain ⟨e1,e2⟩:=h a _ h2 h3;exact ⟨a,vs,h1,e2,e1,za1.same g h4⟩
 |own2 dss =>
  obtain ⟨a,as,h1,h2,h3,h4,h5⟩:=r;obtain ⟨e1,e2⟩:=h a _ h2 h3;refine ⟨a,as,h1,e2,e1,h4,zfB (λb ds ⟨q1,vs,q2,q3⟩=>?_) h5⟩;obtain ⟨e1,e2⟩:=h b _ q1 q2;exact ⟨e2,vs,e1,za1.same g q3⟩
 |tab q =>
  obtain ⟨P,ps,h1,h2,h3,h4,h5⟩:=r;obtain ⟨e1,e2⟩:=h P _ h2 h3;exact ⟨P,ps,h1,e2,e1,h4,λpos cv e=>let ⟨c,q1,q2⟩:=h5 pos cv e;⟨c,q1,g _ _ q2⟩⟩
 |dic ds =>
  obtain ⟨a,us,h1,h2,h3,h4⟩:=r;obtain ⟨e1,e2⟩:=h a _ h2 h3;exact ⟨a,us,h1,e2,e1,zfB (λp q z=>⟨z.1,Rep.same g z.2⟩) h4⟩
 |opq=>exact trivial
 |exc C =>
  obtain ⟨l,h1,h2⟩:=r;exact ⟨l,h1,g _ _ h2⟩
theorem Rel.grow{K:W.Frag}{C:Cn}{G H G' H':Hp}{w:Wn}{Z:Ev}{Y:St}(r:Rel K C G w Z Y H)(a:ze9 G H G' H'):Rel K C G' w Z Y H':=by
 refine ⟨a.gh,λb e=>?_,λb e z=>r.wh b e (a.h.free z),r.len,λi b e=>?_,r.en.trans a.step,r.pin⟩
 ·cases q:G' b with
  |none=>rfl
  |some o =>
   rcases a.fr b o q with z|z
   ·exact absurd (r.wg b e) z
   ·exact absurd z (r.wh b e)
 ·obtain ⟨v,h1,h2⟩:=r.sl i b e;exact ⟨v,h1,h2.grow a.g λa' o e1 e2=>⟨a.h _ _ e2,e1⟩⟩
theorem ze9.new{G H:Hp}{p:Addr}{o:HO}(gh:zbU G H)(hp:H p=none):ze9 G H (upd G p o) (upd H p o):=by
 refine ⟨λb u e=>?_,λb u e=>?_,λb u e=>?_,λb u e=>?_⟩
 ·rw[zaj (zak (gh b u e) hp)];exact e
 ·rw[zaj (zak e hp)];exact e
 ·by_cases hb:b=p
  ·subst hb;rw[zan] at e ⊢;exact e
  ·rw[zaj hb] at e ⊢;exact gh b u e
 ·by_cases hb:b=p
  ·subst hb;exact .inr hp
  ·rw[zaj hb] at e;exact .inl (by rw[e];simp)
theorem ze9.newH{G H:Hp}{p:Addr}{o:HO}(gh:zbU G H)(hp:H p=none):ze9 G H G (upd H p o):=by
 refine ⟨.refl _,λb u e=>?_,λb u e=>?_,λb u e=>.inl (by rw[e];simp)⟩
 ·rw[zaj (zak e hp)];exact e
 ·rw[zaj (zak (gh b u e) hp)];exact gh b u e
def zcz{α:Type}(ex:Nat->Prop)(κ:α->Prop):R α->Prop
 |.ok a=>κ a
 |.er n=>ex n
 |.no=>False
def kE(K:W.Frag)(C:Cn)(Y:St)(Q:VK)(G H:Hp)(w:Wn)(a:Dt×Ev):Prop :=
 ∀ v G' H' w',zbB G H w G' H' w'->Rel K C G' w' a.2 Y H'->Rep K G' a.1 v->Q v H'
def kT(K:W.Frag)(C:Cn)(Y:St)(Q:Bool->Hp->Prop)(G H:Hp)(w:Wn)(a:Bool×Ev):Prop :=
 ∀ G' H' w',zbB G H w G' H' w'->Rel K C G' w' a.2 Y H'->Q a.1 H'
def kN(K:W.Frag)(C:Cn)(Y:St)(Q:VK)(G H:Hp)(w:Wn)(a:List Dt×Ev):Prop :=
 ∀ p vs G' H' w',zbB G H w G' H' w'->Rel K C G' w' a.2 Y H'->H p=none->H' p=some (.lst vs)->G' p=none->w' p=none->za1 K G' a.1 vs->Q (.ref p) H'
inductive Fl where
 |nx|bk|ct|rt (d:Dt)
def kS(K:W.Frag)(C:Cn)(D:zq7)(G H:Hp)(w:Wn)(a:Fl×Ev):Prop :=
 match a.1 with
 |.nx=>∀ Y' G' H' w',zbB G H w G' H' w'->Rel K C G' w' a.2 Y' H'->D.nx Y' H'
 |.bk=>∀ Y' G' H' w',zbB G H w G' H' w'->Rel K C G' w' a.2 Y' H'->D.bk Y' H'
 |.ct=>∀ Y' G' H' w',zbB G H w G' H' w'->Rel K C G' w' a.2 Y' H'->D.ct Y' H'
 |.rt d=>∀ v Y' G' H' w',zbB G H w G' H' w'->Rel K C G' w' a.2 Y' H'->RtG C.nw K C.H₀ G' H' w' d v->D.rt v H'
abbrev De:=Ev->R (Dt×Ev)
abbrev DT:=Ev->R (Bool×Ev)
abbrev DN:=Ev->R (List Dt×Ev)
abbrev DS:=Ev->R (Fl×Ev)
def tE(K:W.Frag)(C:Cn)(f:De):TE:=λY H Q=>∃ G w Z,Rel K C G w Z Y H/\zcz C.ex (kE K C Y Q G H w) (f Z)
def tT(K:W.Frag)(C:Cn)(f:DT):TT:=λY H Q=>∃ G w Z,Rel K C G w Z Y H/\zcz C.ex (kT K C Y Q G H w) (f Z)
def tN(K:W.Frag)(C:Cn)(f:DN):TE:=λY H Q=>∃ G w Z,Rel K C G w Z Y H/\zcz C.ex (kN K C Y Q G H w) (f Z)
def tS(K:W.Frag)(C:Cn)(f:DS):TS:=λD Y H=>∃ G w Z,Rel K C G w Z Y H/\zcz C.ex (kS K C D G H w) (f Z)
abbrev JE(X:Cx)(C:Cn)(e:Expr)(f:De):Prop:=PE X e (tE X.K C f)
abbrev JT(X:Cx)(C:Cn)(e:Expr)(f:DT):Prop:=PT X e (tT X.K C f)
abbrev JW(X:Cx)(C:Cn)(e:Expr)(f:DT):Prop:=PW X e (tT X.K C f)
abbrev JN(X:Cx)(C:Cn)(e:Expr)(f:DN):Prop:=PE X e (tN X.K C f)
abbrev JS(X:Cx)(C:Cn)(st:Stmt)(f:DS):Prop:=PS X st (tS X.K C f)
abbrev JSs(X:Cx)(C:Cn)(st:List Stmt)(f:DS):Prop:=PSs X st (tS X.K C f)
abbrev zpx(α:Type):=Hp->Hp->Wn->α->Prop
def Stp{α:Type}(κ:zpx α):Prop:=∀ G H w G1 H1 w1 a,zbB G H w G1 H1 w1->κ G H w a->κ G1 H1 w1 a
section
variable{K:W.Frag}{C:Cn}{Y:St}
theorem zc3{Q:VK}:Stp (λG H w=>kE K C Y Q G H w):=λ_ _ _ _ _ _ _ s k v G' H' w' s'=>k v G' H' w' (s.trans s')
theorem zpC{Q:Bool->Hp->Prop}:Stp (λG H w=>kT K C Y Q G H w):=λ_ _ _ _ _ _ _ s k G' H' w' s'=>k G' H' w' (s.trans s')
theorem zil{Q:VK}:Stp (λG H w=>kN K C Y Q G H w):=λG H w G1 H1 w1 _ s k p vs G' H' w' s' r q1 q2 q3 q4 q5 =>
 k p vs G' H' w' (s.trans s') r (s.k p q1) q2 q3 q4 q5
theorem zdK{D:zq7}:Stp (λG H w=>kS K C D G H w):=λG H w G1 H1 w1 a s k=>by
 obtain ⟨f,Z⟩:=a;cases f with
 |nx=>exact λY' G' H' w' s'=>k Y' G' H' w' (s.trans s')
 |bk=>exact λY' G' H' w' s'=>k Y' G' H' w' (s.trans s')
 |ct=>exact λY' G' H' w' s'=>k Y' G' H' w' (s.trans s')
 |rt d=>exact λv Y' G' H' w' s'=>k v Y' G' H' w' (s.trans s')
theorem zcz.step{α:Type}{ex:Nat->Prop}{κ:zpx α}(st:Stp κ){G H G1 H1:Hp}{w w1:Wn}(s:zbB G H w G1 H1 w1):∀{r:R α},zcz ex (κ G H w) r->zcz ex (κ G1 H1 w1) r
 |.ok _,p=>st _ _ _ _ _ _ _ s p
 |.er _,p=>p
 |.no,p=>p
theorem zfa{α:Type}{κ:zpx α}(st:Stp κ){G H:Hp}{w:Wn}{Z:Ev}{fa:De}{g:Dt×Ev->R α}{Q:VK}(r:Rel K C G w Z Y H)(p:zcz C.ex (κ G H w) ((fa Z).bind g))
  (k:∀ d Z1 v G1 H1 w1,Rel K C G1 w1 Z1 Y H1->zbB G H w G1 H1 w1->Rep K G1 d v->zcz C.ex (κ G1 H1 w1) (g (d,Z1))->Q v H1):tE K C fa Y H Q:=by
 refine ⟨G,w,Z,r,?_⟩;cases e:fa Z with
 |ok a =>
  rw[e] at p;intro v G' H' w' s' r' q;exact k a.1 a.2 v G' H' w' r' s' q (zcz.step st s' p)
 |er n=>rw[e] at p;exact p
 |no=>rw[e] at p;exact p
theorem ztx{α:Type}{κ:zpx α}(st:Stp κ){G H:Hp}{w:Wn}{Z:Ev}{fa:DT}{g:Bool×Ev->R α}{Q:Bool->Hp->Prop}(r:Rel K C G w Z Y H)(p:zcz C.ex (κ G H w) ((fa Z).bind g))
  (k:∀ b Z1 G1 H1 w1,Rel K C G1 w1 Z1 Y H1->zbB G H w G1 H1 w1->zcz C.ex (κ G1 H1 w1) (g (b,Z1))->Q b H1):tT K C fa Y H Q:=by
 refine ⟨G,w,Z,r,?_⟩;cases e:fa Z with
 |ok a =>
  rw[e] at p;intro G' H' w' s' r';exact k a.1 a.2 G' H' w' r' s' (zcz.step st s' p)
 |er n=>rw[e] at p;exact p
 |no=>rw[e] at p;exact p
theorem zvj{α:Type}{κ:zpx α}{G H:Hp}{w:Wn}{Z:Ev}{fa:DN}{g:List Dt×Ev->R α}{Q:VK}(r:Rel K C G w Z Y H)(p:zcz C.ex (κ G H w) ((fa Z).bind g))
  (k:∀ ds Z1 a vs G1 H1 w1,Rel K C G1 w1 Z1 Y H1->zbB G H w G1 H1 w1->H a=none->H1 a=some (.lst vs)->G1 a=none->w1 a=none->za1 K G1 ds vs->zcz C.ex (κ G H w) (g (ds,Z1))->Q (.ref a) H1):tN K C fa Y H Q:=by
 refine ⟨G,w,Z,r,?_⟩;cases e:fa Z with
 |ok a =>
  rw[e] at p;intro v vs G' H' w' s' r' q1 q2 q3 q4 q5;exact k a.1 a.2 v vs G' H' w' r' s' q1 q2 q3 q4 q5 p
 |er n=>rw[e] at p;exact p
 |no=>rw[e] at p;exact p
end
section
variable{X:Cx}
theorem _root_.L2.PE.weak{e:Expr}{t t':TE}(h:PE X e t)(k:∀ Y H Q,t' Y H Q->t Y H Q):PE X e t':=λpS s Y H Q I q=>h pS s Y H Q I (k Y H Q q)
theorem _root_.L2.PT.weak{e:Expr}{t t':TT}(h:PT X e t)(k:∀ Y H Q,t' Y H Q->t Y H Q):PT X e t':=λpS s Y H Q I q=>h pS s Y H Q I (k Y H Q q)
theorem _root_.L2.PW.weak{e:Expr}{t t':TT}(h:PW X e t)(k:∀ Y H Q,t' Y H Q->t Y H Q):PW X e t':=λwh pS s Y H Q I q=>h wh pS s Y H Q I (k Y H Q q)
theorem _root_.L2.PA.weak{e:List Expr}{t t':TA}(h:PA X e t)(k:∀ Y H Q,t' Y H Q->t Y H Q):PA X e t':=λpos pS s Y H Q I q=>h pos pS s Y H Q I (k Y H Q q)
theorem _root_.L2.PS.weak{e:Stmt}{t t':TS}(h:PS X e t)(k:∀ D Y H,t' D Y H->t D Y H):PS X e t':=λpS s Y H D I q=>h pS s Y H D I (k D Y H q)
theorem _root_.L2.PSs.weak{e:List Stmt}{t t':TS}(h:PSs X e t)(k:∀ D Y H,t' D Y H->t D Y H):PSs X e t':=λpS s Y H D I q=>h pS s Y H D I (k D Y H q)
end
section
variable{K:W.Frag}{C:Cn}{Y:L2.St}{G H:Hp}{w:Wn}{Z:Ev}{i:Nat}{v:V}
theorem Rel.freeze{d:Dt}{b0:B}(r:Rel K C G w Z Y H)(S:List Addr)(hS:∀ b∈S,w b=some i)(hi:Z[i]? = some (some b0))(hv:Y[i]? = some (some v))
  (hr:Rep K (λb=>if b∈S then H b else G b) d v) :
  Rel K C (λb=>if b∈S then H b else G b) (λb=>if b∈S then none else w b) (Z.set i (some (.val d))) Y H /\
   zbB G H w (λb=>if b∈S then H b else G b) H (λb=>if b∈S then none else w b):=by
 have gS:∀ b∈S,G b=none:=λb hb=>r.wg b (by rw[hS b hb];simp);have st:zbB G H w (λb=>if b∈S then H b else G b) H (λb=>if b∈S then none else w b):=by
  refine ⟨λb o e=>?_,λb o e=>?_,λb o e _=>e,λb e=>?_,λ_ e=>e⟩
  ·have:b∉S:=λz=>by rw[gS b z] at e;cases e
   simp[this,e]
  ·by_cases hb:b∈S
   ·exact .inr (.inr (by rw[hS b hb];simp))
   ·simp[hb] at e;exact .inl (by rw[e];simp)
  ·by_cases hb:b∈S
   ·simp[hb] at e
   ·simp[hb] at e;exact .inl e
 refine ⟨⟨λb o e=>?_,λb e=>?_,λb e=>?_,by simpa using r.len,λj b e=>?_,r.en.trans st,r.pin⟩,st⟩
 ·by_cases hb:b∈S
  ·simp[hb] at e;exact e
  ·simp[hb] at e;exact r.gh b o e
 ·by_cases hb:b∈S
  ·simp[hb] at e
  ·simp[hb] at e ⊢;exact r.wg b e
 ·by_cases hb:b∈S
  ·simp[hb] at e
  ·simp[hb] at e;exact r.wh b e
 ·by_cases hj:j=i
  ·subst hj;rw[List.getElem?_set_self (List.getElem?_eq_some_iff.mp hi).1] at e;cases e;exact ⟨v,hv,hr⟩
  ·rw[List.getElem?_set_ne (Ne.symm hj)] at e;obtain ⟨v',h1,h2⟩:=r.sl j b e;refine ⟨v',h1,h2.grow st.g λa o e1 e2=>⟨e2,?_⟩⟩;have:a∉S:=λz=>by rw[hS a z] at e1;exact hj (waB e1).symm
   simp[this,e1]
end
def zab(i:Nat):De:=λZ=>match Z[i]? with
 |some (some (.val d))=>.ok (d,Z)
 |_=>.no
def zkV(i:Nat):De:=λZ=>match Z[i]? with
 |some (some (.val d))=>.ok (d,Z)
 |some (some (.own ds))=>.ok (.lst ds,Z.set i (some (.val (.lst ds))))
 |some (some (.own2 dss))=>.ok (.lst (dss.map .lst),Z.set i (some (.val (.lst (dss.map .lst)))))
 |_=>.no
theorem zgU{K:W.Frag}{G:Hp}:∀{as:List Addr}{dss:List (List Dt)},Paired (λb ds=>∃ vs,G b=some (.lst vs)/\za1 K G ds vs) as dss->za1 K G (dss.map .lst) (as.map V.ref)
 |_,_,.nil=>za1.nil
 |a::as,ds::dss,.cons ⟨vs,h1,h2⟩ t=>za1.cons (by unfold Rep;exact ⟨a,vs,rfl,h1,h2⟩) (zgU t)
theorem zh5{α β:Type}{F:α->β->Prop}:∀{l₁:List α}{l₂:List β},Paired F l₁ l₂->∀ a∈l₁,∃ b,F a b
 |_,_,.cons r t,a,h=>by
  rcases wap.mp h with rfl|h
  ·exact ⟨_,r⟩
  ·exact zh5 t a h
theorem zeF{α β:Type}{F F':α->β->Prop}:∀{l₁:List α}{l₂:List β},Paired F l₁ l₂->(∀ a b,a∈l₁->F a b->F' a b)->Paired F' l₁ l₂
 |_,_,.nil,_=>.nil
 |_,_,.cons r t,f=>.cons (f _ _ wau r) (zeF t λa b h=>f a b (wah _ h))
section
variable{X:Cx}{C:Cn}
theorem zaa(i:Nat){x:Str}{pos:Pos}(hN:X.N[i]? = some x:=by rfl)(hv:Vis X.env.scope x:=by exact xwV)(hd:(x == ("__debug__" : Str))=false:=by decide)
  (hcd:(x == ("__classdict__" : Str))=false:=by decide):JE X C (.Name x pos) (zab i):=(zcb hN hv hd hcd).weak λY H Q ⟨G,w,Z,r,p⟩=>by
 unfold zab at p;split at p
 ·rename_i d e;obtain ⟨v,h1,h2⟩:=r.sl i _ e;exact ⟨v,h1,p v G H w (.refl _ _ _) r h2⟩
 ·exact p.elim
theorem zj1(i:Nat){x:Str}{pos:Pos}(hN:X.N[i]? = some x:=by rfl)(hv:Vis X.env.scope x:=by exact xwV)(hd:(x == ("__debug__" : Str))=false:=by decide)
  (hcd:(x == ("__classdict__" : Str))=false:=by decide):JE X C (.Name x pos) (zkV i):=(zcb hN hv hd hcd).weak λY H Q ⟨G,w,Z,r,p⟩=>by
 unfold zkV at p;split at p
 ·rename_i d e;obtain ⟨v,h1,h2⟩:=r.sl i _ e;exact ⟨v,h1,p v G H w (.refl _ _ _) r h2⟩
 ·rename_i ds e;obtain ⟨v,h1,a,vs,rfl,h2,h3,h4⟩:=r.sl i _ e;have hr:Rep X.K (λb=>if b∈[a] then H b else G b) (.lst ds) (.ref a):=by
   unfold Rep;refine ⟨a,vs,rfl,(by simp[h3]),za1.same (λb o e=>?_) h4⟩;have:b≠a:=λz=>by subst z;rw[r.wg b (by rw[h2];simp)] at e;cases e
   simp[this,e]
  obtain ⟨r',s'⟩:=r.freeze [a] (λb hb=>by simp at hb;subst hb;exact h2) e h1 hr;exact ⟨_,h1,p _ _ _ _ s' r' hr⟩
 ·rename_i dss e;obtain ⟨v,h1,a,as,rfl,h2,h3,h4,h5⟩:=r.sl i _ e;have hS:∀ b∈a::as,w b=some i:=λb hb=>by
   rcases wap.mp hb with rfl|hb
   ·exact h2
   ·obtain ⟨_,z,_⟩:=zh5 h5 b hb;exact z
  have sg:zbU G (λb=>if b∈a::as then H b else G b):=λb o e=>by
   have:b∉a::as:=λz=>by rw[r.wg b (by rw[hS b z];simp)] at e;cases e
   simp only[this,if_false];exact e
  have hr:Rep X.K (λb=>if b∈a::as then H b else G b) (.lst (dss.map .lst)) (.ref a):=by unfold Rep;refine ⟨a,as.map V.ref,rfl,(by simp[h3]),zgU (zeF h5 λb ds hb ⟨q1,vs,q2,q3⟩=>⟨vs,?_,za1.same sg q3⟩)⟩;simp[hb,q2]
  obtain ⟨r',s'⟩:=r.freeze (a::as) hS e h1 hr;exact ⟨_,h1,p _ _ _ _ s' r' hr⟩
 ·exact p.elim
def dC(d:Dt):De:=λZ=>.ok (d,Z)
theorem zai{i j pos}:JE X C (.Constant (.int i) j pos) (dC (.int i)):=PE.weak zqK λY H Q ⟨G,w,Z,r,p⟩=>p _ G H w (.refl _ _ _) r (by unfold Rep;rfl)
theorem zcP{b j pos}:JE X C (.Constant (.bool b) j pos) (dC (.bl b)):=PE.weak zvn λY H Q ⟨G,w,Z,r,p⟩=>p _ G H w (.refl _ _ _) r (by unfold Rep;rfl)
theorem zfZ{j pos}:JE X C (.Constant .none j pos) (dC .non):=PE.weak ztI λY H Q ⟨G,w,Z,r,p⟩=>p _ G H w (.refl _ _ _) r (by unfold Rep;rfl)
theorem znS{x j pos}:JE X C (.Constant (.str x) j pos) (dC (.str x)):=PE.weak ztW λY H Q ⟨G,w,Z,r,p⟩=>p _ G H w (.refl _ _ _) r (by unfold Rep;rfl)
theorem zrL{x:Str}{i:Int}{t:Tok}{pos:Pos}(hg:Gl X x)(hm:X.mg x=some (.int i t))(hd:(x == ("__debug__" : Str))=false:=by decide):JE X C (.Name x pos) (dC (.int i)) :=
 (zol (v:=.int i) hg hm ⟨t,rfl⟩ hd).weak λY H Q ⟨G,w,Z,r,p⟩=>p _ G H w (.refl _ _ _) r (by unfold Rep;rfl)
def dOp(g:Dt->Dt->R Dt)(fa fb:De):De:=λZ=>(fa Z).bind λa=>(fb a.2).bind λb=>(g a.1 b.1).bind λz=>.ok (z,b.2)
def Op2(K:W.Frag)(r:R2)(g:Dt->Dt->R Dt):Prop:=∀(G H:Hp)(x y:V)(dx dy z:Dt)(Q:VK),zbU G H->Rep K G dx x->Rep K G dy y->g dx dy=.ok z ->
 (∀ v G' H',ze9 G H G' H'->Rep K G' z v->Q v H')->r x y H Q
def zgt(g:Dt->Dt->R Dt):Prop:=∀ x y n,g x y≠.er n
variable{a b:Expr}{fa fb:De}{pos:Pos}
theorem ziP{r:R2}{g:Dt->Dt->R Dt}{Y:L2.St}{H:Hp}{Q:VK}(h2:Op2 X.K r g)(he:zgt g)(h:tE X.K C (dOp g fa fb) Y H Q):tOp r (tE X.K C fa) (tE X.K C fb) Y H Q:=by
 obtain ⟨G,w,Z,rr,p⟩:=h;refine zfa (κ:=λG H w=>kE X.K C Y Q G H w) zc3 rr p λd Z1 v G1 H1 w1 r1 s1 q1 p1=>?_;refine zfa (κ:=λG H w=>kE X.K C Y Q G H w) zc3 r1 p1 λd2 Z2 v2 G2 H2 w2 r2 s2 q2 p2=>?_;cases e:g d d2 with
 |ok z =>
  simp only[e,R.bind_ok] at p2;refine h2 G2 H2 v v2 d d2 z Q r2.gh (q1.same s2.g) q2 e λv3 G3 H3 gr q3=>?_;exact p2 v3 G3 H3 w2 gr.step (r2.grow gr) q3
 |er n=>exact absurd e (he _ _ _)
 |no=>simp only[e,R.bind_no] at p2;exact p2.elim
theorem zkO{op:Operator}{r:R2}{g:Dt->Dt->R Dt}(ho:OpR X (binaryOp op) r)(h2:Op2 X.K r g)(he:zgt g)(ha:JE X C a fa)(hb:JE X C b fb):JE X C (.BinOp a op b pos) (dOp g fa fb) :=
 (zs3 ho ha hb).weak λY H Q h=>ziP h2 he h
theorem zjg{op:CmpOp}{r:R2}{g:Dt->Dt->R Dt}(ho:OpR X (compareOp op) r)(h2:Op2 X.K r g)(he:zgt g)(ha:JE X C a fa)(hb:JE X C b fb)(hm:behindInMarks op b=false):JE X C (.Compare a [op] [b] pos) (dOp g fa fb) :=
 (zst ho ha hb hm).weak λY H Q h=>ziP h2 he h
def dTB(f:De):DT:=λZ=>(f Z).bind λa=>match a.1 with
 |.bl b=>.ok (b,a.2)
 |_=>.no
theorem zdb{K:W.Frag}{G:Hp}{b:Bool}{v:V}(h:Rep K G (.bl b) v):v=.bl b:=by unfold Rep at h;exact h
theorem zay{K:W.Frag}{G:Hp}{b:Int}{v:V}(h:Rep K G (.int b) v):v=.int b:=by unfold Rep at h;exact h
theorem zfF{K:W.Frag}{G:Hp}{b:Str}{v:V}(h:Rep K G (.str b) v):v=.str b:=by unfold Rep at h;exact h
theorem zg0{K:W.Frag}{G:Hp}{v:V}(h:Rep K G .non v):v=.non:=by unfold Rep at h;exact h
theorem ze4{K:W.Frag}{G:Hp}{l:List Dt}{v:V}(h:Rep K G (.tup l) v):∃ a vs,v=.ref a/\zhJ K G a vs/\za1 K G l vs:=by unfold Rep at h;exact h
theorem zb5{K:W.Frag}{G:Hp}{l:List Dt}{v:V}(h:Rep K G (.tup l) v):∃ a vs,v=.ref a/\SqT K G a vs/\za1 K G l vs:=by obtain ⟨a,vs,h1,h2,h3⟩:=ze4 h;exact ⟨a,vs,h1,h2.sq,h3⟩
theorem zbi{K:W.Frag}{G:Hp}{l:List Dt}{v:V}(h:Rep K G (.lst l) v):∃ a vs,v=.ref a/\G a=some (.lst vs)/\za1 K G l vs:=by unfold Rep at h;exact h
theorem ziJ{f:De}{Y:L2.St}{H:Hp}{Q:Bool->Hp->Prop}(h:tT X.K C (dTB f) Y H Q):tE X.K C f Y H λx H'=>∃ k,x=.bl k/\Q k H':=by
 obtain ⟨G,w,Z,r,p⟩:=h;refine zfa (κ:=λG H w=>kT X.K C Y Q G H w) zpC r p λd Z1 v G1 H1 w1 r1 s1 q1 p1=>?_;cases d with
 |bl b=>exact ⟨b,zdb q1,p1 G1 H1 w1 (.refl _ _ _) r1⟩
 |_=>exact p1.elim
theorem zhc{op:CmpOp}{r:R2}{g:Dt->Dt->R Dt}(ho:OpR X (compareOp op) r)(h2:Op2 X.K r g)(he:zgt g)(ha:JE X C a fa)(hb:JE X C b fb)(hm:behindInMarks op b=false):JT X C (.Compare a [op] [b] pos) (dTB (dOp g fa fb)) :=
 (zod ho ha hb hm).weak λY H Q h=>by have h':=ziJ h;exact ziP h2 he h'
theorem zbn{e:Expr}{f:De}(h:JE X C e f)(he:∀ whole,isTrue e X.env whole=(do let v <- whole;standAt e.pos;holding [v] (truthy v)):=by intro _;rfl):JT X C e (dTB f) :=
 (ztw h he).weak λY H Q h=>ziJ h
def za2(f:DT):DT:=λZ=>(f Z).bind λa=>.ok (!a.1,a.2)
def zfj(f g:DT):DT:=λZ=>(f Z).bind λa=>if a.1=true then g a.2 else .ok (false,a.2)
def zcw(f g:DT):DT:=λZ=>(f Z).bind λa=>if a.1=true then .ok (true,a.2) else g a.2
variable{tA tB':DT}{zbo:List Expr}
theorem zb4(ha:JT X C a tA):JT X C (.UnaryOp .Not a pos) (za2 tA):=(ztj ha).weak λY H Q ⟨G,w,Z,r,p⟩ =>
 ztx (κ:=λG H w=>kT X.K C Y Q G H w) zpC r p λb Z1 G1 H1 w1 r1 s1 p1=>p1 G1 H1 w1 (.refl _ _ _) r1
theorem ziF(ha:JT X C a tA):JW X C (.BoolOp .And [a] pos) tA:=zrs ha
theorem zeG(ha:JT X C a tA):JW X C (.BoolOp .Or [a] pos) tA:=ztX ha
theorem zlt(ha:JT X C a tA)(hb:JW X C (.BoolOp .And (b::zbo) pos) tB'):JW X C (.BoolOp .And (a::b::zbo) pos) (zfj tA tB'):=(zur ha hb).weak λY H Q ⟨G,w,Z,r,p⟩=>by
 refine ztx (κ:=λG H w=>kT X.K C Y Q G H w) zpC r p λb Z1 G1 H1 w1 r1 s1 p1=>?_;cases b with
 |true=>exact ⟨G1,w1,Z1,r1,p1⟩
 |false=>exact p1 G1 H1 w1 (.refl _ _ _) r1
theorem zdJ(ha:JT X C a tA)(hb:JW X C (.BoolOp .Or (b::zbo) pos) tB'):JW X C (.BoolOp .Or (a::b::zbo) pos) (zcw tA tB'):=(zuI ha hb).weak λY H Q ⟨G,w,Z,r,p⟩=>by
 refine ztx (κ:=λG H w=>kT X.K C Y Q G H w) zpC r p λb Z1 G1 H1 w1 r1 s1 p1=>?_;cases b with
 |true=>exact p1 G1 H1 w1 (.refl _ _ _) r1
 |false=>exact ⟨G1,w1,Z1,r1,p1⟩
theorem JW.jt{e:Expr}{f:DT}(h:JW X C e f):JT X C e f:=PW.pt h
def zeX(fa fb:De):De:=λZ=>(fa Z).bind λa=>match a.1 with
 |.bl true=>fb a.2
 |.bl false=>.ok (.bl false,a.2)
 |_=>.no
def zsH(fa:De):De:=λZ=>(fa Z).bind λa=>match a.1 with
 |.bl b=>.ok (.bl (!b),a.2)
 |_=>.no
theorem zdN{op}{f:De}(h:JE X C a f):JE X C (.BoolOp op [a] pos) f:=ztY h
theorem zdt(ha:JE X C a fa)(hb:JE X C (.BoolOp .And (b::zbo) pos) fb):JE X C (.BoolOp .And (a::b::zbo) pos) (zeX fa fb):=(zsU ha hb).weak λY H Q ⟨G,w,Z,r,p⟩=>by
 refine zfa (κ:=λG H w=>kE X.K C Y Q G H w) zc3 r p λd Z1 v G1 H1 w1 r1 s1 q1 p1=>?_;cases d with
 |bl b =>
  refine ⟨b,zdb q1,?_⟩;cases b with
  |true=>exact ⟨G1,w1,Z1,r1,p1⟩
  |false=>exact p1 _ G1 H1 w1 (.refl _ _ _) r1 (by unfold Rep;rfl)
 |_=>exact p1.elim
theorem zls(ha:JE X C a fa):JE X C (.UnaryOp .Not a pos) (zsH fa):=(zsP ha).weak λY H Q ⟨G,w,Z,r,p⟩=>by
 refine zfa (κ:=λG H w=>kE X.K C Y Q G H w) zc3 r p λd Z1 v G1 H1 w1 r1 s1 q1 p1=>?_;cases d with
 |bl b=>exact ⟨b,zdb q1,p1 _ G1 H1 w1 (.refl _ _ _) r1 (by unfold Rep;rfl)⟩
 |_=>exact p1.elim
abbrev DA:=Ev->R (List Dt×Ev)
def kA(K:W.Frag)(C:Cn)(Y:L2.St)(Q:List V->Hp->Prop)(G H:Hp)(w:Wn)(a:List Dt×Ev):Prop :=
 ∀ vs G' H' w',zbB G H w G' H' w'->Rel K C G' w' a.2 Y H'->za1 K G' a.1 vs->Q vs H'
theorem zug{K:W.Frag}{Y:L2.St}{Q:List V->Hp->Prop}:Stp (λG H w=>kA K C Y Q G H w):=λ_ _ _ _ _ _ _ s k v G' H' w' s'=>k v G' H' w' (s.trans s')
def tAd(K:W.Frag)(C:Cn)(f:DA):TA:=λY H Q=>∃ G w Z,Rel K C G w Z Y H/\zcz C.ex (kA K C Y Q G H w) (f Z)
abbrev JA(X:Cx)(C:Cn)(es:List Expr)(f:DA):Prop:=PA X es (tAd X.K C f)
def dA0:DA:=λZ=>.ok ([],Z)
def dA(fa:De)(fr:DA):DA:=λZ=>(fa Z).bind λa=>(fr a.2).bind λb=>.ok (a.1::b.1,b.2)
theorem zsJ{K:W.Frag}{Y:L2.St}{α:Type}{κ:zpx α}(st:Stp κ){G H:Hp}{w:Wn}{Z:Ev}{fa:DA}{g:List Dt×Ev->R α}{Q:List V->Hp->Prop}(r:Rel K C G w Z Y H)(p:zcz C.ex (κ G H w) ((fa Z).bind g))
  (k:∀ ds Z1 vs G1 H1 w1,Rel K C G1 w1 Z1 Y H1->zbB G H w G1 H1 w1->za1 K G1 ds vs->zcz C.ex (κ G1 H1 w1) (g (ds,Z1))->Q vs H1):tAd K C fa Y H Q:=by
 refine ⟨G,w,Z,r,?_⟩;cases e:fa Z with
 |ok a =>
  rw[e] at p;intro v G' H' w' s' r' q;exact k a.1 a.2 v G' H' w' r' s' q (zcz.step st s' p)
 |er n=>rw[e] at p;exact p
 |no=>rw[e] at p;exact p
theorem zaq:JA X C [] dA0:=PA.weak zcR λY H Q ⟨G,w,Z,r,p⟩=>p _ G H w (.refl _ _ _) r za1.nil
theorem zac{e:Expr}{es:List Expr}{fr:DA}(ha:JE X C e fa)(hr:JA X C es fr)(hs:starEach (e::es) X.env=(false,eval e X.env)::starEach es X.env:=by rfl):JA X C (e::es) (dA fa fr) :=
 (zbk ha hr hs).weak λY H Q ⟨G,w,Z,r,p⟩=>by refine zfa (κ:=λG H w=>kA X.K C Y Q G H w) zug r p λd Z1 v G1 H1 w1 r1 s1 q1 p1=>?_;refine zsJ (κ:=λG H w=>kA X.K C Y Q G H w) zug r1 p1 λds Z2 vs G2 H2 w2 r2 s2 q2 p2=>?_;exact p2 _ G2 H2 w2 (.refl _ _ _) r2 (za1.cons (q1.same s2.g) q2)
def fits{α:Type}(l:List α):Bool:=decide (l.length<=16777216)
def zbK(f:DA):De:=λZ=>(f Z).bind λa=>if fits a.1=true then .ok (.tup a.1,a.2) else .no
def zbL(f:DA):DN:=λZ=>(f Z).bind λa=>if fits a.1=true then .ok (a.1,a.2) else .no
theorem zia{α:Type}{l:List α}(h:fits l=true):l.length<=sizeLine:=by have:=of_decide_eq_true h;rw[show sizeLine=16777216 from by decide];exact this
theorem zaU{x1}{es:List Expr}{f:DA}(h:JA X C es f):JE X C (.Tuple es x1 pos) (zbK f):=(zqL h).weak λY H Q ⟨G,w,Z,r,p⟩=>by
 refine zsJ (κ:=λG H w=>kE X.K C Y Q G H w) zc3 r p λds Z1 vs G1 H1 w1 r1 s1 q1 p1=>?_;by_cases hf:fits ds=true
 ·simp only[hf,if_true] at p1;refine ⟨by rw[<- q1.length];exact zia hf,λa ha=>?_⟩;have gr:ze9 G1 H1 (upd G1 a (.tup vs)) (upd H1 a (.tup vs)):=.new r1.gh ha;exact p1 _ _ _ w1 gr.step (r1.grow gr) (by unfold Rep;exact ⟨a,vs,rfl,zhJ.of zan,q1.same gr.g⟩)
 ·simp only[hf] at p1;exact p1.elim
theorem zbq{es:List Expr}{f:DA}(h:JA X C es f):JN X C (.List es pos) (zbL f):=(zq0 h).weak λY H Q ⟨G,w,Z,r,p⟩=>by
 refine zsJ (κ:=λG H w=>kN X.K C Y Q G H w) zil r p λds Z1 vs G1 H1 w1 r1 s1 q1 p1=>?_;by_cases hf:fits ds=true
 ·simp only[hf,if_true] at p1;refine ⟨by rw[<- q1.length];exact zia hf,λa ha=>?_⟩;have gr:ze9 G1 H1 G1 (upd H1 a (.lst vs)):=.newH r1.gh ha;exact p1 a vs _ _ w1 gr.step (r1.grow gr) ha zan (r1.gh.free ha) (by
   cases z:w1 a with
   |none=>rfl
   |some k=>exact absurd ha (r1.wh a (by rw[z];simp))) q1
 ·simp only[hf] at p1;exact p1.elim
def dFz(f:DN):De:=λZ=>(f Z).bind λa=>.ok (.lst a.1,a.2)
theorem Rel.know{K:W.Frag}{Y:L2.St}{G H:Hp}{w:Wn}{Z:Ev}{p:Addr}{o:HO}(r:Rel K C G w Z Y H)(hp:H p=some o)(hg:G p=none)(hw:w p=none)(H0:Hp)(G0:Hp)(w0:Wn)(s:zbB G0 H0 w0 G H w)(h0:H0 p=none)
  (e0:C.H₀ p=none\/C.w₀ p≠none\/C.G₀ p≠none):Rel K C (upd G p o) w Z Y H/\zbB G0 H0 w0 (upd G p o) H w:=by
 have sg:zbU G (upd G p o):=λb u e=>by rw[zaj (zak e hg)];exact e
 have s1:∀{G1 H1:Hp}{w1:Wn},zbB G1 H1 w1 G H w->(H1 p=none\/w1 p≠none\/G1 p≠none)->zbB G1 H1 w1 (upd G p o) H w:=λs z=>by
  refine ⟨s.g.trans sg,λb u e=>?_,s.h,s.w,s.k⟩;by_cases hb:b=p
  ·subst hb;rcases z with z|z|z
   ·exact .inr (.inl z)
   ·exact .inr (.inr z)
   ·exact .inl z
  ·rw[zaj hb] at e;exact s.fr b u e
 refine ⟨⟨λb u e=>?_,λb e=>?_,r.wh,r.len,λi b e=>?_,s1 r.en e0,r.pin⟩,s1 s (.inl h0)⟩
 ·by_cases hb:b=p
  ·subst hb;rw[zan] at e;cases e;exact hp
  ·rw[zaj hb] at e;exact r.gh b u e
 ·by_cases hb:b=p
  ·subst hb;rw[hw] at e;exact absurd rfl e
  ·rw[zaj hb];exact r.wg b e
 ·obtain ⟨v,h1,h2⟩:=r.sl i b e;exact ⟨v,h1,h2.grow sg λ_ _ e1 e2=>⟨e2,e1⟩⟩
end
section
variable{X:Cx}{C:Cn}{a b e:Expr}{fa fb:De}{pos:Pos}
theorem zaz{f:DN}(h:JN X C e f):JE X C e (dFz f):=PE.weak h λY H Q ⟨G,w,Z,r,p⟩=>by
 refine zvj (κ:=λG H w=>kE X.K C Y Q G H w) r p λds Z1 a vs G1 H1 w1 r1 s1 h0 h1 h2 h3 q1 p1=>?_;obtain ⟨r',s'⟩:=r1.know h1 h2 h3 H G w s1 h0 (.inl (r.en.k a h0));have sg:zbU G1 (upd G1 a (.lst vs)):=λb u e=>by rw[zaj (zak e h2)];exact e
 exact p1 _ _ _ _ s' r' (by unfold Rep;exact ⟨a,vs,rfl,zan,q1.same sg⟩)
def zaE(f g:DS):DS:=λZ=>(f Z).bind λa=>match a.1 with
 |.nx=>g a.2
 |fl=>.ok (fl,a.2)
def dNx:DS:=λZ=>.ok (.nx,Z)
variable{st:Stmt}{zbo:List Stmt}{fs gs:DS}
theorem zaN:JSs X C [] dNx:=PSs.weak zsk λD Y H ⟨G,w,Z,r,p⟩=>p Y G H w (.refl _ _ _) r
theorem zaf(h1:JS X C st fs)(h2:JSs X C zbo gs):JSs X C (st::zbo) (zaE fs gs):=PSs.weak (ze2 h1 h2) λD Y H ⟨G,w,Z,r,p⟩=>by
 refine ⟨G,w,Z,r,?_⟩;unfold zaE at p;cases e:fs Z with
 |ok x =>
  rw[e] at p;obtain ⟨fl,Z1⟩:=x;cases fl with
  |nx=>exact λY' G' H' w' s' r'=>⟨G',w',Z1,r',zcz.step zdK s' p⟩
  |bk=>exact p
  |ct=>exact p
  |rt d=>exact p
 |er n=>rw[e] at p;exact p
 |no=>rw[e] at p;exact p
theorem zal(h1:JS X C st fs):JSs X C [st] fs:=zkD h1
def dEx(f:De):DS:=λZ=>(f Z).bind λa=>.ok (.nx,a.2)
theorem zdW(he:JE X C e fa)(hs:swapsWith e none pos.line X.env=pure false:=by rfl):JS X C (.Expr e pos) (dEx fa):=PS.weak (zop he hs) λD Y H ⟨G,w,Z,r,p⟩ =>
 zfa (κ:=λG H w=>kS X.K C D G H w) zdK r p λd Z1 v G1 H1 w1 r1 s1 q1 p1=>p1 Y G1 H1 w1 (.refl _ _ _) r1
def zbp(f:De):DS:=λZ=>(f Z).bind λa=>.ok (.rt a.1,a.2)
theorem za3(hn:C.nw=false)(he:JE X C e fa):JS X C (.Return (some e) pos) (zbp fa):=PS.weak (zqT he) λD Y H ⟨G,w,Z,r,p⟩ =>
 zfa (κ:=λG H w=>kS X.K C D G H w) zdK r p λd Z1 v G1 H1 w1 r1 s1 q1 p1=>p1 v Y G1 H1 w1 (.refl _ _ _) r1 (by rw[hn];exact q1)
def zfz(f:DN):DS:=λZ=>(f Z).bind λa=>.ok (.rt (.lst a.1),a.2)
theorem zkA{f:DN}(hn:C.nw=true)(he:JN X C e f):JS X C (.Return (some e) pos) (zfz f):=PS.weak (zqT he) λD Y H ⟨G,w,Z,r,p⟩ =>
 zvj (κ:=λG H w=>kS X.K C D G H w) r p λds Z1 a vs G1 H1 w1 r1 s1 h0 h1 h2 h3 q1 p1=>p1 _ Y G1 H1 w1 s1 r1 (by rw[hn];exact ⟨ds,a,vs,rfl,rfl,r.en.k a h0,h1,h2,h3,q1⟩)
def dIf(c:DT)(f g:DS):DS:=λZ=>(c Z).bind λb=>if b.1=true then f b.2 else g b.2
theorem zcu{c:Expr}{A B:List Stmt}{tc:DT}(hc:JT X C c tc)(ha:JSs X C A fs)(hb:JSs X C B gs):JS X C (.If c A B pos) (dIf tc fs gs):=PS.weak (zvl hc ha hb) λD Y H ⟨G,w,Z,r,p⟩=>by
 refine ztx (κ:=λG H w=>kS X.K C D G H w) zdK r p λb Z1 G1 H1 w1 r1 s1 p1=>?_;cases b with
 |true=>exact ⟨G1,w1,Z1,r1,p1⟩
 |false=>exact ⟨G1,w1,Z1,r1,p1⟩
theorem Rel.setVal{K:W.Frag}{Y:L2.St}{G H:Hp}{w:Wn}{Z:Ev}{i:Nat}{d:Dt}{v:V}(r:Rel K C G w Z Y H)(hi:i < Z.length)(hp:i∉C.pp)(h:Rep K G d v):Rel K C G w (Z.set i (some (.val d))) (Y.set i (some v)) H:=by
 refine ⟨r.gh,r.wg,r.wh,by simpa using r.len,λj b e=>?_,r.en,λj hj=>?_⟩
 ·by_cases hj:j=i
  ·subst hj;rw[List.getElem?_set_self hi] at e;cases e;exact ⟨v,waz (by rw[<- r.len];exact hi),h⟩
  ·rw[List.getElem?_set_ne (Ne.symm hj)] at e;obtain ⟨v',h1,h2⟩:=r.sl j b e;exact ⟨v',by rw[List.getElem?_set_ne (Ne.symm hj)];exact h1,h2⟩
 ·have:i≠j:=λz=>hp (z ▸ hj);rw[List.getElem?_set_ne this];exact r.pin j hj
theorem Rel.setOwn{K:W.Frag}{Y:L2.St}{G0 H0:Hp}{w0:Wn}{G H:Hp}{w:Wn}{Z:Ev}{i:Nat}{ds:List Dt}{p:Addr}{vs:List V}(r:Rel K C G w Z Y H)(hi:i < Z.length)(hpp:i∉C.pp)(hp:H p=some (.lst vs))(hg:G p=none)(hw:w p=none)
  (q:za1 K G ds vs) (s:zbB G0 H0 w0 G H w) (h0:H0 p=none) (en0:C.H₀ p=none) :
  Rel K C G (λb=>if b=p then some i else w b) (Z.set i (some (.own ds))) (Y.set i (some (.ref p))) H/\zbB G0 H0 w0 G H (λb=>if b=p then some i else w b):=by
 have s1:∀{G1 H1:Hp}{w1:Wn},zbB G1 H1 w1 G H w->H1 p=none->zbB G1 H1 w1 G H (λb=>if b=p then some i else w b):=λs z=>by
  refine ⟨s.g,s.fr,s.h,λb e=>?_,s.k⟩;by_cases hb:b=p
  ·subst hb;exact .inr z
  ·simp[hb] at e;exact s.w b e
 refine ⟨⟨r.gh,λb e=>?_,λb e=>?_,by simpa using r.len,λj b e=>?_,s1 r.en en0,λj hj=>?_⟩,s1 s h0⟩
 ·by_cases hb:b=p
  ·subst hb;exact hg
  ·simp[hb] at e;exact r.wg b e
 ·by_cases hb:b=p
  ·subst hb;rw[hp];simp
  ·simp[hb] at e;exact r.wh b e
 ·by_cases hj:j=i
  ·subst hj;rw[List.getElem?_set_self hi] at e;cases e;exact ⟨_,waz (by rw[<- r.len];exact hi),p,vs,rfl,xws,hp,q⟩
  ·rw[List.getElem?_set_ne (Ne.symm hj)] at e;obtain ⟨v',h1,h2⟩:=r.sl j b e;refine ⟨v',by rw[List.getElem?_set_ne (Ne.symm hj)];exact h1,h2.grow (.refl _) λa o e1 e2=>⟨e2,?_⟩⟩;have:a≠p:=λz=>by subst z;rw[hw] at e1;cases e1
   simp[this,e1]
 ·have:i≠j:=λz=>hpp (z ▸ hj);rw[List.getElem?_set_ne this];exact r.pin j hj
def zbd(i:Nat)(f:De):DS:=λZ=>(f Z).bind λa=>if i<a.2.length then .ok (.nx,a.2.set i (some (.val a.1))) else .no
theorem zaL{i:Nat}{x:Str}{pos':Pos}(hN:X.N.Nodup)(hi:X.N[i]? = some x)(hx:Loc X.env.scope x)(hp:i∉C.pp)(he:JE X C e fa)(hs:swapsWith e (some (.Name x pos')) pos.line X.env=pure false:=by rfl)
  (hf:X.fn x=true\/X.env.scope.names.lookup x=some .local:=by exact xwA):JS X C (.Assign [.Name x pos'] e pos) (zbd i fa) :=
 PS.weak (zlu hN hi hx he hs) λD Y H ⟨G,w,Z,r,p⟩=>by
  refine zfa (κ:=λG H w=>kS X.K C D G H w) zdK r p λd Z1 v G1 H1 w1 r1 s1 q1 p1=>?_;by_cases hl:i < Z1.length
  ·simp only[hl,if_true] at p1;exact p1 _ G1 H1 w1 (.refl _ _ _) (r1.setVal hl hp q1)
  ·simp only[hl,if_false] at p1;exact p1.elim
def zdh(i:Nat)(f:DN):DS:=λZ=>(f Z).bind λa=>if i<a.2.length then .ok (.nx,a.2.set i (some (.own a.1))) else .no
theorem zeL{i:Nat}{x:Str}{pos':Pos}{f:DN}(hN:X.N.Nodup)(hi:X.N[i]? = some x)(hx:Loc X.env.scope x)(hp:i∉C.pp)(he:JN X C e f)(hs:swapsWith e (some (.Name x pos')) pos.line X.env=pure false:=by rfl)
  (hf:X.fn x=true\/X.env.scope.names.lookup x=some .local:=by exact xwA):JS X C (.Assign [.Name x pos'] e pos) (zdh i f) :=
 PS.weak (zlu hN hi hx he hs) λD Y H ⟨G,w,Z,r,p⟩=>by
  refine zvj (κ:=λG H w=>kS X.K C D G H w) r p λds Z1 a vs G1 H1 w1 r1 s1 h0 h1 h2 h3 q1 p1=>?_;by_cases hl:i < Z1.length
  ·simp only[hl,if_true] at p1;obtain ⟨r',s'⟩:=r1.setOwn hl hp h1 h2 h3 q1 s1 h0 (r.en.k a h0);exact p1 _ _ _ _ s' r'
  ·simp only[hl,if_false] at p1;exact p1.elim
def zom(i:Nat)(fb:De):De:=λZ=>match Z[i]? with
 |some (some _)=>(fb Z).bind λb=>match b.2[i]?,b.1 with
  |some (some (.own ds)),.int k=>match atI ds k with
   |some d=>.ok (d,b.2)
   |none=>.no
  |_,_=>.no
 |_=>.no
theorem zhM{K:W.Frag}{G:Hp}{ds:List Dt}{vs:List V}{k:Int}{d:Dt}(h:za1 K G ds vs)(e:atI ds k=some d):∃ v,atI vs k=some v/\Rep K G d v:=by
 unfold atI at e ⊢;rw[<- h.length];cases q:ixN ds.length k with
 |none=>rw[q] at e;cases e
 |some j =>
  rw[q] at e;exact h.get e
theorem zgV(i:Nat){x:Str}{ps:Pos}(hN:X.N[i]? = some x:=by rfl)(hb:JE X C b fb)(hv:Vis X.env.scope x:=by exact xwV)(hd:(x == ("__debug__" : Str))=false:=by decide)
  (hcd:(x == ("__classdict__" : Str))=false:=by decide) (hs:zk7 b:=by exact λ_ _=>rfl):JE X C (.Subscript (.Name x ps) b pos) (zom i fb) :=
 PE.weak (ztr zna (zcb hN hv hd hcd) hb hs) λY H Q ⟨G,w,Z,r,p⟩=>by
  unfold zom at p;split at p
  ·rename_i b0 e0;obtain ⟨v0,h0,_⟩:=r.sl i b0 e0;refine ⟨v0,h0,?_⟩;refine zfa (κ:=λG H w=>kE X.K C Y Q G H w) zc3 r p λd Z1 v G1 H1 w1 r1 s1 q1 p1=>?_;dsimp only at p1;split at p1
   ·rename_i ds k e1;obtain ⟨v1,h1,a,vs,rfl,h2,h3,h4⟩:=r1.sl i _ e1;rw[h0] at h1;cases h1;split at p1
    ·rename_i d' e2;obtain ⟨v2,h5,h6⟩:=zhM h4 e2;exact ⟨a,vs,k,v2,rfl,zay q1,SqL.of h3,h5,p1 v2 G1 H1 w1 (.refl _ _ _) r1 h6⟩
    ·exact p1.elim
   ·exact p1.elim
  ·exact p.elim
end
def zoD(K:W.Frag)(J:It)(G:Hp)(ds:List Dt):Prop:=∀(i:Nat)(G1 H:Hp),zbU G G1->zbU G1 H ->
 (∀ d,ds[i]? = some d->J.go i H/\∀ x H',J.yld i H x H'->∃ G2,ze9 G1 H G2 H'/\Rep K G2 d x)/\(ds.length<=i->J.stop i H)
def kI(K:W.Frag)(C:Cn)(Y:L2.St)(Q:It->Hp->Prop)(G H:Hp)(w:Wn)(a:List Dt×Ev):Prop :=
 ∀ J G' H' w',zbB G H w G' H' w'->Rel K C G' w' a.2 Y H'->zoD K J G' a.1->Q J H'
def tI(K:W.Frag)(C:Cn)(f:DA):TI:=λY H Q=>∃ G w Z,Rel K C G w Z Y H/\zcz C.ex (kI K C Y Q G H w) (f Z)
abbrev JI(X:Cx)(C:Cn)(tg iter:Expr)(f:DA):Prop:=PI X tg iter (tI X.K C f)
section
variable{X:Cx}{C:Cn}{tg iter:Expr}{fa:De}{pos:Pos}
theorem zuD{K:W.Frag}{Y:L2.St}{α:Type}{κ:zpx α}(st:Stp κ){G H:Hp}{w:Wn}{Z:Ev}{fa:DA}{g:List Dt×Ev->R α}{Q:It->Hp->Prop}(r:Rel K C G w Z Y H)(p:zcz C.ex (κ G H w) ((fa Z).bind g))
  (k:∀ ds Z1 J G1 H1 w1,Rel K C G1 w1 Z1 Y H1->zbB G H w G1 H1 w1->zoD K J G1 ds->zcz C.ex (κ G1 H1 w1) (g (ds,Z1))->Q J H1):tI K C fa Y H Q:=by
 refine ⟨G,w,Z,r,?_⟩;cases e:fa Z with
 |ok a =>
  rw[e] at p;intro v G' H' w' s' r' q;exact k a.1 a.2 v G' H' w' r' s' q (zcz.step st s' p)
 |er n=>rw[e] at p;exact p
 |no=>rw[e] at p;exact p
theorem PI.or{t t':TI}(h:PI X tg iter t)(h':PI X tg iter t'):PI X tg iter (λY H Q=>t Y H Q\/t' Y H Q):=λpS s Y H Q I q=>q.elim (h pS s Y H Q I) (h' pS s Y H Q I)
theorem PI.weak{t t':TI}(h:PI X tg iter t)(k:∀ Y H Q,t' Y H Q->t Y H Q):PI X tg iter t':=λpS s Y H Q I q=>h pS s Y H Q I (k Y H Q q)
def dIt(f:De):DA:=λZ=>(f Z).bind λa=>match a.1 with
 |.lst l=>.ok (l,a.2)
 |.tup l=>.ok (l,a.2)
 |_=>.no
theorem zt8{K:W.Frag}{G:Hp}{a:Addr}{vs:List V}{ds:List Dt}(hs:SqT K G a vs)(q:za1 K G ds vs):zoD K (Itt K a) G ds:=λi G1 H s1 s2=>by refine ⟨λd e=>?_,λh=>⟨vs,za8 s2 (za8 s1 hs),by rw[<- q.length];exact h⟩⟩;obtain ⟨v,e1,e2⟩:=q.get e;refine ⟨⟨vs,v,za8 s2 (za8 s1 hs),e1⟩,λx H' y=>?_⟩;obtain ⟨rfl,y⟩:=y;have:=y vs (za8 s2 (za8 s1 hs));rw[e1] at this;cases this;exact ⟨G1,.refl s2,e2.same s1⟩
theorem zsA{K:W.Frag}{G:Hp}{a:Addr}{vs:List V}{ds:List Dt}(hs:SqL K G a vs)(q:za1 K G ds vs):zoD K (Itl K a) G ds:=λi G1 H s1 s2=>by refine ⟨λd e=>?_,λh=>⟨vs,s2.seq (s1.seq hs),by rw[<- q.length];exact h⟩⟩;obtain ⟨v,e1,e2⟩:=q.get e;refine ⟨⟨vs,v,s2.seq (s1.seq hs),e1⟩,λx H' y=>?_⟩;obtain ⟨rfl,y⟩:=y;have:=y vs (s2.seq (s1.seq hs));rw[e1] at this;cases this;exact ⟨G1,.refl s2,e2.same s1⟩
theorem zcW(h:JE X C iter fa):JI X C tg iter (dIt fa):=PI.weak (PI.or (zob h) (zsR h)) λY H Q ⟨G,w,Z,r,p⟩=>by
 unfold dIt at p;cases e:fa Z with
 |ok x =>
  obtain ⟨d,Z1⟩:=x;cases d with
  |lst l =>
   rw[e] at p;refine .inl ⟨G,w,Z,r,?_⟩;rw[e];intro v G' H' w' s' r' q;obtain ⟨a,vs,rfl,h1,h2⟩:=zbi q;exact ⟨a,rfl,⟨vs,SqL.of (r'.gh _ _ h1)⟩,p _ G' H' w' s' r' (zsA (SqL.of h1) h2)⟩
  |tup l =>
   rw[e] at p;refine .inr ⟨G,w,Z,r,?_⟩;rw[e];intro v G' H' w' s' r' q;obtain ⟨a,vs,rfl,h1,h2⟩:=zb5 q;exact ⟨a,rfl,⟨vs,za8 r'.gh h1⟩,p _ G' H' w' s' r' (zt8 h1 h2)⟩
  |_=>rw[e] at p;exact p.elim
 |er n=>rw[e] at p;exact .inl ⟨G,w,Z,r,by rw[e];exact p⟩
 |no=>rw[e] at p;exact p.elim
def zaX(lo:Int)(n:Nat):List Dt:=(List.range n).map λk=>.int (lo+(k:Nat))
theorem zqD{K:W.Frag}{G:Hp}{lo:Int}{n:Nat}:zoD K (Itr lo n) G (zaX lo n):=λi G1 H s1 s2=>by
 refine ⟨λd e=>?_,λh=>show n<=i by simpa [zaX] using h⟩;unfold zaX at e;rw[List.getElem?_map] at e;by_cases hi:i<n
 ·rw[List.getElem?_range hi] at e;cases e;refine ⟨hi,λx H' y=>?_⟩;obtain ⟨rfl,rfl⟩:=y;exact ⟨G1,.refl s2,by unfold Rep;rfl⟩
 ·rw[List.getElem?_eq_none (by simpa using hi)] at e;cases e
def zcO(j:Int):Bool:=decide (-4611686018427387904<=j) && decide (j<4611686018427387904)
theorem zcV{j:Int}(h:zcO j=true):-(2 ^ 62)<=j/\j<2 ^ 62:=by unfold zcO at h;rw[Bool.and_eq_true] at h;have h1:=of_decide_eq_true h.1;have h2:=of_decide_eq_true h.2;lia
def zbV(fa:De):DA:=λZ=>(fa Z).bind λa=>match a.1 with
 |.int j=>if zcO j=true then .ok (zaX 0 j.toNat,a.2) else .no
 |_=>.no
def zhq(fa fb:De):DA:=λZ=>(fa Z).bind λa=>(fb a.2).bind λb=>match a.1,b.1 with
 |.int i,.int j=>if (zcO i && zcO j)=true then .ok (zaX i (j-i).toNat,b.2) else .no
 |_,_=>.no
theorem zcs{e:Expr}{p ps:Pos}(hg:Gl X "range")(hm:X.mg "range"=none)(he:JE X C e fa)(hs:starEach [e] X.env=[(false,eval e X.env)]:=by rfl):JI X C tg (.Call (.Name "range" p) [e] [] ps) (zbV fa) :=
 PI.weak (zmZ hg hm (zac he zaq (by rw[hs];rfl)) hs) λY H Q ⟨G,w,Z,r,p⟩=>by
  unfold zbV at p;refine ⟨G,w,Z,r,?_⟩;unfold dA dA0;cases e:fa Z with
  |ok x =>
   obtain ⟨d,Z1⟩:=x;rw[e] at p;intro vs G' H' w' s' r' q;obtain ⟨v,t,rfl,q1,q2⟩:=q.cons_inv;rw[q2.nil_inv];cases d with
   |int j =>
    simp only[R.bind_ok] at p;by_cases hj:zcO j=true
    ·simp only[hj,if_true] at p;exact ⟨j,by rw[zay q1],(zcV hj).1,(zcV hj).2,p _ G' H' w' s' r' zqD⟩
    ·simp only[hj] at p;exact p.elim
   |_=>exact p.elim
  |er n=>rw[e] at p;exact p
  |no=>rw[e] at p;exact p
theorem zgG{e e':Expr}{fb:De}{p ps:Pos}(hg:Gl X "range")(hm:X.mg "range"=none)(he:JE X C e fa)(he':JE X C e' fb)(hs:starEach [e,e'] X.env=[(false,eval e X.env),(false,eval e' X.env)]:=by rfl)(hs2:starEach [e'] X.env=[(false,eval e' X.env)]:=by rfl) :
  JI X C tg (.Call (.Name "range" p) [e,e'] [] ps) (zhq fa fb) :=
 PI.weak (zn2 hg hm (zac he (zac he' zaq (by rw[hs2];rfl)) (by rw[hs,hs2])) hs hs2) λY H Q ⟨G,w,Z,r,p⟩=>by
  unfold zhq at p;refine ⟨G,w,Z,r,?_⟩;unfold dA dA0;cases e:fa Z with
  |ok x =>
   obtain ⟨d,Z1⟩:=x;rw[e] at p;simp only[R.bind_ok] at p ⊢;cases e2:fb Z1 with
   |ok y =>
    obtain ⟨d2,Z2⟩:=y;rw[e2] at p;intro vs G' H' w' s' r' q;obtain ⟨v,t,rfl,q1,q2⟩:=q.cons_inv;obtain ⟨v2,t2,rfl,q3,q4⟩:=q2.cons_inv;rw[q4.nil_inv];simp only[R.bind_ok] at p;cases d with
    |int i =>
     cases d2 with
     |int j =>
      simp only at p;by_cases hj:(zcO i && zcO j)=true
      ·simp only[hj,if_true] at p;rw[Bool.and_eq_true] at hj;exact ⟨i,j,by rw[zay q1,zay q3],⟨(zcV hj.1).1,(zcV hj.1).2,(zcV hj.2).1,(zcV hj.2).2⟩,p _ G' H' w' s' r' zqD⟩
      ·simp only[hj] at p;exact p.elim
     |_=>exact p.elim
    |_=>exact p.elim
   |er n=>rw[e2] at p;exact p
   |no=>rw[e2] at p;exact p
  |er n=>rw[e] at p;exact p
  |no=>rw[e] at p;exact p
abbrev DG:=Dt->Ev->R Ev
def kG(K:W.Frag)(C:Cn)(Q:L2.St->Hp->Prop)(G H:Hp)(w:Wn)(Z:Ev):Prop :=
 ∀ Y' G' H' w',zbB G H w G' H' w'->Rel K C G' w' Z Y' H'->Q Y' H'
def tG(K:W.Frag)(C:Cn)(g:DG):TG:=λv Y H Q=>∃ G w Z d,Rel K C G w Z Y H/\Rep K G d v/\zcz C.ex (kG K C Q G H w) (g d Z)
abbrev JG(X:Cx)(C:Cn)(tg:Expr)(g:DG):Prop:=PG X tg (tG X.K C g)
theorem PG.weak{t t':TG}(h:PG X tg t)(k:∀ v Y H Q,t' v Y H Q->t v Y H Q):PG X tg t':=λpS s Y H v u Q I r q=>h pS s Y H v u Q I r (k v Y H Q q)
def zbg(i:Nat):DG:=λd Z=>if i < Z.length then .ok (Z.set i (some (.val d))) else .no
theorem zaR{i:Nat}{x:Str}(hN:X.N.Nodup)(hi:X.N[i]? = some x)(hx:Loc X.env.scope x)(hp:i∉C.pp)(hf:X.fn x=true\/X.env.scope.names.lookup x=some .local:=by exact xwA):JG X C (.Name x pos) (zbg i) :=
 PG.weak (zim hN hi hx hf) λv Y H Q ⟨G,w,Z,d,r,q,p⟩=>by
  unfold zbg at p;by_cases hl:i < Z.length
  ·simp only[hl,if_true] at p;exact p _ G H w (.refl _ _ _) (r.setVal hl hp q)
  ·simp only[hl,if_false] at p;exact p.elim
def zdL(i j:Nat):DG:=λd Z=>match d with
 |.tup [a,b]=>if i < Z.length/\j < Z.length then .ok ((Z.set i (some (.val a))).set j (some (.val b))) else .no
 |_=>.no
theorem ziS{i j k:Nat}{x y:Str}{p1 p2:Pos}(hc:X.calm=true)(hN:X.N.Nodup)(hi:X.N[i]? = some x)(hj:X.N[j]? = some y)(hx:Loc X.env.scope x)(hy:Loc X.env.scope y)(hp:i∉C.pp)(hq:j∉C.pp)
  (hf:X.fn x=true\/X.env.scope.names.lookup x=some .local:=by exact xwA) (hf2:X.fn y=true\/X.env.scope.names.lookup y=some .local:=by exact xwA)
  (hs1:(assignEach [.Name x p1,.Name y p2] X.env).map (·.2)=assign (.Name x p1) X.env::(assignEach [.Name y p2] X.env).map (·.2):=by rfl) (hs2:(assignEach [.Name y p2] X.env).map (·.2)=assign (.Name y p2) X.env::(assignEach [] X.env).map (·.2):=by rfl)
  (hn:(assignEach [.Name x p1,.Name y p2] X.env).length=2:=by rfl) (hst:(assignEach [.Name x p1,.Name y p2] X.env).findIdx? (·.1)=none:=by rfl):JG X C (.Tuple [.Name x p1,.Name y p2] k pos) (zdL i j) :=
 PG.weak (zsL hc (zlM (zim hN hi hx hf) (zlM (zim hN hj hy hf2) zsr hs2) hs1) hn hst) λv Y H Q ⟨G,w,Z,d,r,q,p⟩=>by
  unfold zdL at p;split at p
  ·rename_i a b;obtain ⟨ad,vs,rfl,h1,h2⟩:=zb5 q;obtain ⟨v1,t,rfl,q1,q2⟩:=h2.cons_inv;obtain ⟨v2,t2,rfl,q3,q4⟩:=q2.cons_inv;rw[q4.nil_inv] at h1;by_cases hl:i < Z.length/\j < Z.length
   ·simp only[hl,and_self,if_true] at p;have r1:=r.setVal hl.1 hp q1;have r2:=r1.setVal (i:=j) (by simpa using hl.2) hq q3;exact ⟨ad,_,rfl,za8 r.gh h1,rfl,v1,_,rfl,v2,_,rfl,rfl,p _ G H w (.refl _ _ _) r2⟩
   ·simp only[hl,if_false] at p;exact p.elim
  ·exact p.elim
def zk1(g:DG)(body:DS):List Dt->DS
 |[],Z=>.ok (.nx,Z)
 |d::r,Z=>(g d Z).bind λZ1=>(body Z1).bind λa=>match a.1 with
  |.nx=>zk1 g body r a.2
  |.ct=>zk1 g body r a.2
  |.bk=>.ok (.nx,a.2)
  |.rt v=>.ok (.rt v,a.2)
def zhj(fi:DA)(g:DG)(body:DS):DS:=λZ=>(fi Z).bind λa=>zk1 g body a.1 a.2
theorem zft{body:List Stmt}{fi:DA}{g:DG}{fb:DS}(hp:PassesOwn (model X.prog X.w) X.A X.env X.xe)(hc:X.calm=true)(hi:JI X C tg iter fi)(hg:JG X C tg g)(hb:JSs X C body fb)
  (hs:∀ x,foldedSetIterable iter X.env x=pure x:=by intro _;rfl):JS X C (.For tg iter body [] pos) (zhj fi g fb) :=
 PS.weak (ztz hp hc hi hg hb hs) λD Y H ⟨G,w,Z,r,p⟩=>by
  refine zuD (κ:=λG H w=>kS X.K C D G H w) zdK r p λds Z1 J G1 H1 w1 r1 s1 it p1=>?_;refine ⟨λi m Y' H'=>m=ds.length-i/\i<=ds.length/\∃ G' w' Z',zbU G1 G'/\Rel X.K C G' w' Z' Y' H'/\zcz C.ex (kS X.K C D G' H' w') (zk1 g fb (ds.drop i) Z'),
   ⟨ds.length,xws,Nat.zero_le _,G1,w1,Z1,.refl _,r1,by simpa using p1⟩,?_⟩
  rintro i m Y2 H2 ⟨rfl,hi,G2,w2,Z2,s2,r2,p2⟩;obtain ⟨it1,it2⟩:=it i G2 H2 s2 r2.gh;by_cases hlt:i<ds.length
  ·have ed:ds.drop i=ds[i]::ds.drop (i+1):=List.drop_eq_getElem_cons hlt;obtain ⟨go,yl⟩:=it1 ds[i] (by simp[hlt]);rw[ed] at p2;refine .inr ⟨go,λY' H'=>(ds.length-(i+1))=ds.length-(i+1)/\i+1<=ds.length/\∃ G' w' Z',zbU G1 G'/\Rel X.K C G' w' Z' Y' H'/\zcz C.ex (kS X.K C D G' H' w') (zk1 g fb (ds.drop (i+1)) Z'),
    λY' H' h=>⟨ds.length-(i+1),xwl,h⟩,λx H' y=>?_⟩
   obtain ⟨G3,gr,q3⟩:=yl x H' y;have r3:=r2.grow gr;have p3:=zcz.step (κ:=λG H w=>kS X.K C D G H w) zdK gr.step (w1:=w2) p2;refine ⟨G3,w2,Z2,ds[i],r3,q3,?_⟩;unfold zk1 at p3;cases eg:g ds[i] Z2 with
   |ok Z3 =>
    rw[eg] at p3;intro Y4 G4 H4 w4 s4 r4;have p4:=zcz.step (κ:=λG H w=>kS X.K C D G H w) zdK s4 p3;refine ⟨G4,w4,Z3,r4,?_⟩;cases eb:fb Z3 with
    |ok z =>
     obtain ⟨fl,Z5⟩:=z;rw[R.bind_ok,eb] at p4;have sG:zbU G1 G4:=(s2.trans gr.g).trans s4.g;cases fl with
     |nx=>exact λY6 G6 H6 w6 s6 r6=>⟨rfl,hlt,G6,w6,Z5,sG.trans s6.g,r6,zcz.step (κ:=λG H w=>kS X.K C D G H w) zdK s6 p4⟩
     |ct=>exact λY6 G6 H6 w6 s6 r6=>⟨rfl,hlt,G6,w6,Z5,sG.trans s6.g,r6,zcz.step (κ:=λG H w=>kS X.K C D G H w) zdK s6 p4⟩
     |bk=>exact p4
     |rt v=>exact p4
    |er n=>rw[R.bind_ok,eb] at p4;exact p4
    |no=>rw[R.bind_ok,eb] at p4;exact p4
   |er n=>rw[eg] at p3;exact p3
   |no=>rw[eg] at p3;exact p3
  ·have e:i=ds.length:=by lia
   subst e;simp only[List.drop_length] at p2;exact .inl ⟨it2 (wal _),p2 Y2 G2 H2 w2 (.refl _ _ _) r2⟩
def zdF(c:DT)(body:DS):Nat->DS
 |0,_=>.no
 |n+1,Z=>(c Z).bind λt=>if t.1=true then (body t.2).bind λa=>match a.1 with
   |.nx=>zdF c body n a.2
   |.ct=>zdF c body n a.2
   |.bk=>.ok (.nx,a.2)
   |.rt v=>.ok (.rt v,a.2)
  else .ok (.nx,t.2)
theorem zpK(n:Nat){c:Expr}{body:List Stmt}{tc:DT}{fb:DS}(hp:PassesOwn (model X.prog X.w) X.A X.env X.xe)(hc:JT X C c tc)(hb:JSs X C body fb):JS X C (.While c body [] pos) (zdF tc fb n) :=
 PS.weak (zoI hp hc hb) λD Y H ⟨G,w,Z,r,p⟩=>by
  refine ⟨λm Y' H'=>∃ G' w' Z',Rel X.K C G' w' Z' Y' H'/\zcz C.ex (kS X.K C D G' H' w') (zdF tc fb m Z'),⟨n,G,w,Z,r,p⟩,?_⟩;rintro m Y1 H1 ⟨G1,w1,Z1,r1,p1⟩;cases m with
  |zero=>exact p1.elim
  |succ m =>
   unfold zdF at p1;refine ztx (κ:=λG H w=>kS X.K C D G H w) zdK r1 p1 λb Z2 G2 H2 w2 r2 s2 p2=>?_;cases b with
   |false=>exact p2 Y1 G2 H2 w2 (.refl _ _ _) r2
   |true =>
    refine ⟨λY' H'=>∃ G' w' Z',Rel X.K C G' w' Z' Y' H'/\zcz C.ex (kS X.K C D G' H' w') (zdF tc fb m Z'),λY' H' h=>⟨m,Nat.lt_succ_self _,h⟩,G2,w2,Z2,r2,?_⟩;have p2:zcz C.ex (kS X.K C D G2 H2 w2) ((fb Z2).bind λa=>match a.1 with
     |.nx=>zdF tc fb m a.2
     |.ct=>zdF tc fb m a.2
     |.bk=>.ok (.nx,a.2)
     |.rt v=>.ok (.rt v,a.2)):=p2
    cases eb:fb Z2 with
    |ok z =>
     obtain ⟨fl,Z5⟩:=z;rw[eb] at p2;cases fl with
     |nx=>exact λY6 G6 H6 w6 s6 r6=>⟨G6,w6,Z5,r6,zcz.step (κ:=λG H w=>kS X.K C D G H w) zdK s6 p2⟩
     |ct=>exact λY6 G6 H6 w6 s6 r6=>⟨G6,w6,Z5,r6,zcz.step (κ:=λG H w=>kS X.K C D G H w) zdK s6 p2⟩
     |bk=>exact p2
     |rt v=>exact p2
    |er n=>rw[eb] at p2;exact p2
    |no=>rw[eb] at p2;exact p2
end
abbrev FD:=List B->R (Dt×List B)
def zll:B->Bool
 |.val _=>false
 |_=>true
def zbG(bs:List B):List Bool:=bs.map zll
structure PRel(K:W.Frag)(G H:Hp)(w:Wn)(bs:List B)(vs:List V):Prop where
 gh:zbU G H
 wg:∀ b,w b≠none->G b=none
 wh:∀ b,w b≠none->H b≠none
 len:bs.length=vs.length
 sl:∀(j:Nat)(b:B)(v:V),bs[j]? = some b->vs[j]? = some v->RB K G H w j v b
structure zmD(K:W.Frag)(G H:Hp)(w:Wn)(ks:List Bool)(bs:List B)(vs:List V):Prop where
 gh:zbU G H
 wg:∀ b,w b≠none->G b=none
 wh:∀ b,w b≠none->H b≠none
 sl:∀(j:Nat)(v:V),ks[j]? = some true->vs[j]? = some v->∃ b,bs[j]? = some b/\RB K G H w j v b
def zpb(nw:Bool)(K:W.Frag)(xv:Nat->Value)(ks:List Bool)(F:FD):Sp:=λvs H Q E=>∃ G w bs,vs.length=ks.length/\zbG bs=ks/\PRel K G H w bs vs /\
 match F bs with
 |.ok a=>∀ v G' H' w',zbB G H w G' H' w'->zmD K G' H' w' ks a.2 vs->RtG nw K H G' H' w' a.1 v->Q v H'
 |.er n=>∀ G' H' w',zbB G H w G' H' w'->E (xv n) none H'
 |.no=>False
def EXc(C:Cn):XK:=λu a H'=>a=none/\∃ n,u=C.xv n/\C.ex n/\∃ G' w',zbB C.G₀ C.H₀ C.w₀ G' H' w'
inductive Arg where
 |d (x:Dt)|s (i:Nat)
def zcJ(K:W.Frag)(G:Hp)(Y:L2.St):List Arg->List V->Prop
 |[],vs=>vs=[]
 |.d x::r,vs=>∃ v t,vs=v::t/\Rep K G x v/\zcJ K G Y r t
 |.s i::r,vs=>∃ v t,vs=v::t/\Y[i]? = some (some v)/\zcJ K G Y r t
theorem zcJ.same{K:W.Frag}{G G':Hp}{Y:L2.St}(e:zbU G G'):∀{as:List Arg}{vs:List V},zcJ K G Y as vs->zcJ K G' Y as vs
 |[],_,h=>h
 |.d _::_,_,⟨v,t,h1,h2,h3⟩=>⟨v,t,h1,h2.same e,zcJ.same e h3⟩
 |.s _::_,_,⟨v,t,h1,h2,h3⟩=>⟨v,t,h1,h2,zcJ.same e h3⟩
abbrev DAr:=Ev->R (List Arg×Ev)
def kAr(K:W.Frag)(C:Cn)(Y:L2.St)(Q:List V->Hp->Prop)(G H:Hp)(w:Wn)(a:List Arg×Ev):Prop :=
 ∀ vs G' H' w',zbB G H w G' H' w'->Rel K C G' w' a.2 Y H'->zcJ K G' Y a.1 vs->Q vs H'
def tAr(K:W.Frag)(C:Cn)(f:DAr):TA:=λY H Q=>∃ G w Z,Rel K C G w Z Y H/\zcz C.ex (kAr K C Y Q G H w) (f Z)
abbrev JAr(X:Cx)(C:Cn)(es:List Expr)(f:DAr):Prop:=PA X es (tAr X.K C f)
theorem znO{K:W.Frag}{C:Cn}{Y:L2.St}{Q:List V->Hp->Prop}:Stp (λG H w=>kAr K C Y Q G H w):=λ_ _ _ _ _ _ _ s k v G' H' w' s'=>k v G' H' w' (s.trans s')
theorem zns{K:W.Frag}{C:Cn}{Y:L2.St}{α:Type}{κ:zpx α}(st:Stp κ){G H:Hp}{w:Wn}{Z:Ev}{fa:DAr}{g:List Arg×Ev->R α}{Q:List V->Hp->Prop}(r:Rel K C G w Z Y H)(p:zcz C.ex (κ G H w) ((fa Z).bind g))
  (k:∀ as Z1 vs G1 H1 w1,Rel K C G1 w1 Z1 Y H1->zbB G H w G1 H1 w1->zcJ K G1 Y as vs->zcz C.ex (κ G1 H1 w1) (g (as,Z1))->Q vs H1):tAr K C fa Y H Q:=by
 refine ⟨G,w,Z,r,?_⟩;cases e:fa Z with
 |ok a =>
  rw[e] at p;intro v G' H' w' s' r' q;exact k a.1 a.2 v G' H' w' r' s' q (zcz.step st s' p)
 |er n=>rw[e] at p;exact p
 |no=>rw[e] at p;exact p
def dR0:DAr:=λZ=>.ok ([],Z)
def dR(fa:De)(fr:DAr):DAr:=λZ=>(fa Z).bind λa=>(fr a.2).bind λb=>.ok (.d a.1::b.1,b.2)
def dRO(i:Nat)(fr:DAr):DAr:=λZ=>match Z[i]? with
 |some (some _)=>(fr Z).bind λb=>.ok (.s i::b.1,b.2)
 |_=>.no
section
variable{X:Cx}{C:Cn}{fa:De}{fr:DAr}{pos:Pos}
theorem zap:JAr X C [] dR0:=PA.weak zcR λY H Q ⟨G,w,Z,r,p⟩=>p _ G H w (.refl _ _ _) r rfl
theorem zag{e:Expr}{es:List Expr}(ha:JE X C e fa)(hr:JAr X C es fr)(hs:starEach (e::es) X.env=(false,eval e X.env)::starEach es X.env:=by rfl):JAr X C (e::es) (dR fa fr) :=
 PA.weak (zbk ha hr hs) λY H Q ⟨G,w,Z,r,p⟩=>by refine zfa (κ:=λG H w=>kAr X.K C Y Q G H w) znO r p λd Z1 v G1 H1 w1 r1 s1 q1 p1=>?_;refine zns (κ:=λG H w=>kAr X.K C Y Q G H w) znO r1 p1 λas Z2 vs G2 H2 w2 r2 s2 q2 p2=>?_;exact p2 _ G2 H2 w2 (.refl _ _ _) r2 ⟨v,vs,rfl,q1.same s2.g,q2⟩
theorem zb1(i:Nat){x:Str}{ps:Pos}{es:List Expr}(hr:JAr X C es fr)(hN:X.N[i]? = some x:=by rfl)(hv:Vis X.env.scope x:=by exact xwV)(hd:(x == ("__debug__" : Str))=false:=by decide)
  (hcd:(x == ("__classdict__" : Str))=false:=by decide) (hs:starEach (.Name x ps::es) X.env=(false,eval (.Name x ps) X.env)::starEach es X.env:=by rfl):JAr X C (.Name x ps::es) (dRO i fr) :=
 PA.weak (zbk (zcb hN hv hd hcd) hr hs) λY H Q ⟨G,w,Z,r,p⟩=>by
  unfold dRO at p;split at p
  ·rename_i b e;obtain ⟨v,h1,_⟩:=r.sl i b e;refine ⟨v,h1,?_⟩;refine zns (κ:=λG H w=>kAr X.K C Y Q G H w) znO r p λas Z2 vs G2 H2 w2 r2 s2 q2 p2=>?_;exact p2 _ G2 H2 w2 (.refl _ _ _) r2 ⟨v,vs,rfl,h1,q2⟩
  ·exact p.elim
end
def zqH(as:List Arg)(j:Nat):Option Nat:=match as[j]? with
 |some (.s i)=>some i
 |_=>none
def zdk(i:Nat):Nat->List Arg->Option Nat
 |_,[]=>none
 |j,.s i'::r=>if i'=i then some j else zdk i (j+1) r
 |j,.d _::r=>zdk i (j+1) r
def zdw(as:List Arg)(i:Nat):Option Nat:=zdk i 0 as
def zbf(as:List Arg):Nat->List Arg->Bool
 |_,[]=>true
 |j,.s i::r=>(zdw as i == some j) && zbf as (j+1) r
 |j,.d _::r=>zbf as (j+1) r
def uniq(as:List Arg):Bool:=zbf as 0 as
theorem zeM{as:List Arg}:∀{l:List Arg}{j k:Nat}{i:Nat},zbf as j l=true->l[k]? = some (.s i)->zdw as i=some (j+k)
 |[],_,_,_,_,e=>by simp at e
 |.s i'::r,j,0,i,h,e=>by simp at e;subst e;unfold zbf at h;rw[Bool.and_eq_true] at h;simpa using h.1
 |.s i'::r,j,k+1,i,h,e=>by unfold zbf at h;rw[Bool.and_eq_true] at h;have:=zeM (k:=k) h.2 (by simpa using e);rw[this];congr 1;lia
 |.d x::r,j,0,i,h,e=>by simp at e
 |.d x::r,j,k+1,i,h,e=>by unfold zbf at h;have:=zeM (k:=k) h (by simpa using e);rw[this];congr 1;lia
theorem zf9{i:Nat}:∀{l:List Arg}{j m:Nat},zdk i j l=some m->∃ k,m=j+k/\l[k]? = some (.s i)
 |[],_,_,h=>by simp[zdk] at h
 |.s i'::r,j,m,h=>by
  unfold zdk at h;split at h
  ·rename_i e;subst e;cases h;exact ⟨0,rfl,rfl⟩
  ·obtain ⟨k,h1,h2⟩:=zf9 h;exact ⟨k+1,xwl,by simpa using h2⟩
 |.d x::r,j,m,h=>by unfold zdk at h;obtain ⟨k,h1,h2⟩:=zf9 h;exact ⟨k+1,xwl,by simpa using h2⟩
theorem zpt{as:List Arg}{i j:Nat}(h:zdw as i=some j):as[j]? = some (.s i):=by
 obtain ⟨k,h1,h2⟩:=zf9 h;have:j=k:=by lia
 subst this;exact h2
theorem ziq{as:List Arg}{i j:Nat}(u:uniq as=true)(h:as[j]? = some (.s i)):zdw as i=some j:=by have:=zeM (j:=0) u h;simpa using this
def za0(Z:Ev):List Arg->R (List B)
 |[]=>.ok []
 |.d x::r=>(za0 Z r).bind λbs=>.ok (.val x::bs)
 |.s i::r=>match Z[i]? with
  |some (some b)=>if zll b=true then (za0 Z r).bind λbs=>.ok (b::bs) else .no
  |_=>.no
def zfN(as:List Arg)(bs:List B):Nat->Ev->Ev
 |_,[]=>[]
 |i,o::r=>(match zdw as i with|some j=>bs[j]?|none=>o)::zfN as bs (i+1) r
theorem zlW{as:List Arg}{bs:List B}:∀{Z:Ev}{k i:Nat},(zfN as bs k Z)[i]? = Z[i]?.map λo=>match zdw as (k+i) with|some j=>bs[j]?|none=>o
 |[],_,_=>by simp[zfN]
 |o::r,k,0=>by simp[zfN]
 |o::r,k,i+1=>by
  have:=zlW (as:=as) (bs:=bs) (Z:=r) (k:=k+1) (i:=i);simp only[zfN,List.getElem?_cons_succ];rw[this];have e:k+1+i=k+(i+1):=by lia
  rw[e]
theorem zlp{as:List Arg}{bs:List B}:∀{Z:Ev}{k:Nat},(zfN as bs k Z).length = Z.length
 |[],_=>rfl
 |o::r,k=>by simp[zfN,zlp (Z:=r)]
def zad(F:FD)(fa:DAr):De:=λZ=>(fa Z).bind λa=>if uniq a.1=true then (za0 a.2 a.1).bind λbs=>(F bs).bind λz=>.ok (z.1,zfN a.1 z.2 0 a.2) else .no
theorem zdQ{Z:Ev}:∀{as:List Arg}{bs:List B}{j i:Nat},za0 Z as=.ok bs->as[j]? = some (.s i)->∃ b,Z[i]? = some (some b)/\bs[j]? = some b/\zll b=true
 |[],bs,j,i,h,e=>by simp at e
 |.d x::r,bs,j,i,h,e=>by
  unfold za0 at h;cases q:za0 Z r with
  |ok l =>
   rw[q] at h;simp only[R.bind_ok,R.ok.injEq] at h;subst h;cases j with
   |zero=>simp at e
   |succ j =>
    obtain ⟨b,h1,h2,h3⟩:=zdQ (j:=j) q (by simpa using e);exact ⟨b,h1,by simpa using h2,h3⟩
  |er n=>rw[q] at h;simp at h
  |no=>rw[q] at h;simp at h
 |.s i'::r,bs,j,i,h,e=>by
  unfold za0 at h;split at h
  ·rename_i b eb;split at h
   ·rename_i ob;cases q:za0 Z r with
    |ok l =>
     rw[q] at h;simp only[R.bind_ok,R.ok.injEq] at h;subst h;cases j with
     |zero=>simp at e;subst e;exact ⟨b,eb,rfl,ob⟩
     |succ j =>
      obtain ⟨b,h1,h2,h3⟩:=zdQ (j:=j) q (by simpa using e);exact ⟨b,h1,by simpa using h2,h3⟩
    |er n=>rw[q] at h;simp at h
    |no=>rw[q] at h;simp at h
   ·cases h
  ·cases h
theorem zdv{Z:Ev}:∀{as:List Arg}{n:Nat},za0 Z as≠.er n
 |[],n,h=>by simp[za0] at h
 |.d x::r,n,h=>by
  unfold za0 at h;cases q:za0 Z r with
  |ok l=>rw[q] at h;simp at h
  |er m=>exact zdv q
  |no=>rw[q] at h;simp at h
 |.s i::r,n,h=>by
  unfold za0 at h;split at h
  ·split at h
   ·cases q:za0 Z r with
    |ok l=>rw[q] at h;simp at h
    |er m=>exact zdv q
    |no=>rw[q] at h;simp at h
   ·cases h
  ·cases h
def wIn(w:Wn)(as:List Arg):Wn:=λb=>(w b).bind (zdw as)
def zo8(w w':Wn)(as:List Arg):Wn:=λb=>match w' b with
 |some j=>zqH as j
 |none=>if (w b).bind (zdw as)=none then w b else none
section
variable{K:W.Frag}{C:Cn}{Y:L2.St}{G H:Hp}{w:Wn}{Z:Ev}
theorem zhh(r:Rel K C G w Z Y H):∀{as l:List Arg}{vs:List V}{bs:List B}{k j:Nat}{b:B}{v:V},(∀ m i,l[m]? = some (.s i)->zdw as i=some (k+m))->zcJ K G Y l vs->za0 Z l=.ok bs->bs[j]? = some b->vs[j]? = some v->RB K G H (wIn w as) (k+j) v b
 |as,[],vs,bs,k,j,b,v,hu,ha,hr,hb,hv=>by simp[za0] at hr;subst hr;simp at hb
 |as,.d x::l,vs,bs,k,j,b,v,hu,ha,hr,hb,hv=>by
  obtain ⟨v0,t,rfl,h2,h3⟩:=ha;unfold za0 at hr;cases q:za0 Z l with
  |ok l' =>
   rw[q] at hr;simp only[R.bind_ok,R.ok.injEq] at hr;subst hr;cases j with
   |zero=>simp at hb hv;subst hb;subst hv;exact h2
   |succ j =>
    have:=zhh r (as:=as) (k:=k+1) (j:=j) (λm i e=>by rw[hu (m+1) i (by simpa using e)];congr 1;lia) h3 q (by simpa using hb) (by simpa using hv);have e:k+1+j=k+(j+1):=by lia
    rw[e] at this;exact this
  |er n=>rw[q] at hr;simp at hr
  |no=>rw[q] at hr;simp at hr
 |as,.s i::l,vs,bs,k,j,b,v,hu,ha,hr,hb,hv=>by
  obtain ⟨v0,t,rfl,h2,h3⟩:=ha;unfold za0 at hr;split at hr
  ·rename_i b0 eb;split at hr
   ·rename_i ob;cases q:za0 Z l with
    |ok l' =>
     rw[q] at hr;simp only[R.bind_ok,R.ok.injEq] at hr;subst hr;cases j with
     |zero =>
      simp at hb hv;subst hb;subst hv;obtain ⟨v1,h4,h5⟩:=r.sl i _ eb;rw[h2] at h4;cases h4;exact h5.grow (.refl _) λa o e1 e2=>⟨e2,by unfold wIn;rw[e1];exact hu 0 i rfl⟩
     |succ j =>
      have:=zhh r (as:=as) (k:=k+1) (j:=j) (λm i e=>by rw[hu (m+1) i (by simpa using e)];congr 1;lia) h3 q (by simpa using hb) (by simpa using hv);have e:k+1+j=k+(j+1):=by lia
      rw[e] at this;exact this
    |er n=>rw[q] at hr;simp at hr
    |no=>rw[q] at hr;simp at hr
   ·cases hr
  ·cases hr
theorem zfo:∀{as:List Arg}{vs:List V}{bs:List B},zcJ K G Y as vs->za0 Z as=.ok bs->bs.length=vs.length
 |[],vs,bs,ha,hr=>by simp[za0] at hr;subst hr;cases ha;rfl
 |.d x::l,vs,bs,ha,hr=>by
  obtain ⟨v0,t,rfl,h2,h3⟩:=ha;unfold za0 at hr;cases q:za0 Z l with
  |ok l'=>rw[q] at hr;simp only[R.bind_ok,R.ok.injEq] at hr;subst hr;simp[zfo h3 q]
  |er n=>rw[q] at hr;simp at hr
  |no=>rw[q] at hr;simp at hr
 |.s i::l,vs,bs,ha,hr=>by
  obtain ⟨v0,t,rfl,h2,h3⟩:=ha;unfold za0 at hr;split at hr
  ·split at hr
   ·cases q:za0 Z l with
    |ok l'=>rw[q] at hr;simp only[R.bind_ok,R.ok.injEq] at hr;subst hr;simp[zfo h3 q]
    |er n=>rw[q] at hr;simp at hr
    |no=>rw[q] at hr;simp at hr
   ·cases hr
  ·cases hr
theorem zgw:∀{as:List Arg}{vs:List V}{j i:Nat},zcJ K G Y as vs->as[j]? = some (.s i)->∃ v,vs[j]? = some v/\Y[i]? = some (some v)
 |[],_,_,_,_,e=>by simp at e
 |.d x::l,vs,j,i,ha,e=>by
  obtain ⟨v0,t,rfl,h2,h3⟩:=ha;cases j with
  |zero=>simp at e
  |succ j=>obtain ⟨v,e1,e2⟩:=zgw (j:=j) h3 (by simpa using e);exact ⟨v,by simpa using e1,e2⟩
 |.s i'::l,vs,j,i,ha,e=>by
  obtain ⟨v0,t,rfl,h2,h3⟩:=ha;cases j with
  |zero=>simp at e;subst e;exact ⟨v0,rfl,h2⟩
  |succ j=>obtain ⟨v,e1,e2⟩:=zgw (j:=j) h3 (by simpa using e);exact ⟨v,by simpa using e1,e2⟩
theorem Rel.back{as:List Arg}{vs:List V}{bs bs':List B}{ks:List Bool}{G' H':Hp}{w':Wn}(r:Rel K C G w Z Y H)(u:uniq as=true)(ha:zcJ K G Y as vs)(hr:za0 Z as=.ok bs)(hk:zbG bs=ks)
  (s:zbB G H (wIn w as) G' H' w') (pb:zmD K G' H' w' ks bs' vs):Rel K C G' (zo8 w w' as) (zfN as bs' 0 Z) Y H'/\zbB G H w G' H' (zo8 w w' as):=by
 have wi:∀ b,wIn w as b≠none->w b≠none:=λb e z=>e (by unfold wIn;rw[z];rfl);have wi2:∀ b,w b=none->wIn w as b=none:=λb z=>by unfold wIn;rw[z];rfl
 have st:zbB G H w G' H' (zo8 w w' as):=by
  refine ⟨s.g,λb o e=>?_,λb o e z=>s.h b o e (wi2 b z),λb e=>?_,s.k⟩
  ·rcases s.fr b o e with q|q|q
   ·exact .inl q
   ·exact .inr (.inl q)
   ·exact .inr (.inr (wi b q))
  ·unfold zo8 at e;split at e
   ·rename_i j ej;rcases s.w b (by rw[ej];simp) with q|q
    ·exact .inl (wi b q)
    ·exact .inr q
   ·split at e
    ·exact .inl e
    ·exact absurd rfl e
 have keep:∀ a o,w a≠none->(w a).bind (zdw as)=none->H a=some o->H' a=some o/\w' a=none/\G' a=none:=λa o e1 e2 e3=>by
  have e4:wIn w as a=none:=e2;have e5:=s.h a o e3 e4;have e6:w' a=none:=by
   cases q:w' a with
   |none=>rfl
   |some j =>
    rcases s.w a (by rw[q];simp) with z|z
    ·exact absurd e4 z
    ·rw[e3] at z;cases z
  refine ⟨e5,e6,?_⟩;cases q:G' a with
  |none=>rfl
  |some o' =>
   rcases s.fr a o' q with z|z|z
   ·exact absurd (r.wg a e1) z
   ·rw[e3] at z;cases z
   ·exact absurd e4 z
 refine ⟨⟨pb.gh,λb e=>?_,λb e=>?_,by rw[zlp];exact r.len,λi b e=>?_,r.en.trans st,r.pin⟩,st⟩
 ·unfold zo8 at e;split at e
  ·rename_i j ej;exact pb.wg b (by rw[ej];simp)
  ·split at e
   ·rename_i e2;cases q:H b with
    |none=>exact absurd q (r.wh b e)
    |some o=>exact (keep b o e e2 q).2.2
   ·exact absurd rfl e
 ·unfold zo8 at e;split at e
  ·rename_i j ej;exact pb.wh b (by rw[ej];simp)
  ·split at e
   ·rename_i e2;cases q:H b with
    |none=>exact absurd q (r.wh b e)
    |some o=>rw[(keep b o e e2 q).1];simp
   ·exact absurd rfl e
 ·rw[zlW,Nat.zero_add] at e;cases q:zdw as i with
  |some j =>
   have ej:=zpt q;obtain ⟨v,e1,e2⟩:=zgw ha ej;obtain ⟨b0,h1,h2,h3⟩:=zdQ hr ej;have hkj:ks[j]? = some true:=by rw[<- hk];unfold zbG;rw[List.getElem?_map,h2];simp[h3]
   obtain ⟨b',h4,h5⟩:=pb.sl j v hkj e1;rw[h1] at e;simp only[q,Option.map_some] at e;rw[h4] at e;have e':b'=b:=by simpa using e
   subst e';refine ⟨v,e2,h5.grow (.refl _) λa o q1 q2=>⟨q2,?_⟩⟩;unfold zo8 zqH;rw[q1];simp only;rw[ej]
  |none =>
   cases e1:Z[i]? with
   |none=>rw[e1] at e;simp at e
   |some o0 =>
    rw[e1] at e;simp only[q,Option.map_some,Option.some.injEq] at e;subst e;obtain ⟨v,h1,h2⟩:=r.sl i b e1;refine ⟨v,h1,h2.grow s.g λa o q1 q2=>?_⟩;have z:(w a).bind (zdw as)=none:=by rw[q1];exact q
    obtain ⟨k1,k2,_⟩:=keep a o (by rw[q1];simp) z q2;refine ⟨k1,?_⟩;unfold zo8;rw[k2];simp only;rw[if_pos z];exact q1
end
section
variable{X:Cx}{C:Cn}{CX:CXT}{k:Nat}{f:Addr}{fd:FuncData}{ps:List Str}{ks:List Bool}{Fd:FD}{x:Str}{p pos:Pos}{e:Expr}{es:List Expr}{far:DAr}
theorem znb{Y:L2.St}{H:Hp}{Q:VK}(h:tE X.K C (zad Fd far) Y H Q)(hks:∀ bs,Fd bs≠.no->zbG bs=ks):zp2 (zpb false X.K C.xv ks Fd) [] (EXc C) (tAr X.K C far) Y H Q:=by
 obtain ⟨G,w,Z,r,p⟩:=h;refine zns (κ:=λG H w=>kE X.K C Y Q G H w) zc3 r p λas Z1 vs G1 H1 w1 r1 s1 q1 p1=>?_;rw[List.append_nil];by_cases hu:uniq as=true
 ·simp only[hu,if_true] at p1;cases er:za0 Z1 as with
  |ok bs =>
   rw[er,R.bind_ok] at p1;have hk:zbG bs=ks:=by refine hks bs λz=>?_;rw[z] at p1;exact p1
   have hl:bs.length=vs.length:=zfo q1 er;refine ⟨G1,wIn w1 as,bs,by rw[<- hk,<- hl];simp[zbG],hk,⟨r1.gh,λb e=>r1.wg b λz=>e (by unfold wIn;rw[z];rfl),λb e=>r1.wh b λz=>e (by unfold wIn;rw[z];rfl),hl,λj b v e1 e2=>?_⟩,?_⟩
   ·have:=zhh r1 (as:=as) (k:=0) (j:=j) (λm i e=>by rw[Nat.zero_add];exact ziq hu e) q1 er e1 e2;rw[Nat.zero_add] at this;exact this
   ·cases ef:Fd bs with
    |ok z =>
     rw[ef,R.bind_ok] at p1;intro v G' H' w' s' pb q;obtain ⟨r',st⟩:=r1.back hu q1 er hk s' pb;exact p1 v G' H' _ st r' q
    |er n =>
     rw[ef] at p1;intro G' H' w' s';refine ⟨rfl,n,rfl,p1,G',λ_=>none,r1.en.trans ⟨s'.g,λb o e=>?_,λb o e z=>s'.h b o e (by unfold wIn;rw[z];rfl),λb e=>absurd rfl e,s'.k⟩⟩;rcases s'.fr b o e with q|q|q
     ·exact .inl q
     ·exact .inr (.inl q)
     ·exact .inr (.inr λz=>q (by unfold wIn;rw[z];rfl))
    |no=>rw[ef] at p1;exact p1.elim
  |er n=>exact absurd er zdv
  |no=>rw[er] at p1;exact p1.elim
 ·simp only[hu] at p1;exact p1.elim
theorem zrA(F:zgI X.prog X.w X.K X.mg X.base CX k f fd ps (zpb false X.K C.xv ks Fd))(hr:zd5 k X.A)(hg:Gl X x)(hm:X.mg x=some (.ref f))(hk:W.keepIn X.K (.ref f)=true)(hb:zfw X.K fd ps [])(hx:zcC CX X (EXc C))(hks:∀ bs,Fd bs≠.no->zbG bs=ks)
  (ha:JAr X C (e::es) far) (hdb:(x == ("__debug__" : Str))=false:=by decide) (he:starEach (e::es) X.env=(false,eval e X.env)::starEach es X.env:=by rfl) (hpl:(backTo pos (starEach es X.env)).any (·.1)=false:=by rfl) :
  JE X C (.Call (.Name x p) (e::es) [] pos) (zad Fd far) :=
 PE.weak (zk3 F hr hg hm hk hb .nil hx ha hdb he hpl) λY H Q h=>znb h hks
def zgc(F:FD)(fa:DAr):DN:=λZ=>(fa Z).bind λa=>if uniq a.1=true then (za0 a.2 a.1).bind λbs=>(F bs).bind λz=>match z.1 with
  |.lst l=>.ok (l,zfN a.1 z.2 0 a.2)
  |_=>.no
 else .no
theorem zmp{Y:L2.St}{H:Hp}{Q:VK}(h:tN X.K C (zgc Fd far) Y H Q)(hks:∀ bs,Fd bs≠.no->zbG bs=ks):zp2 (zpb true X.K C.xv ks Fd) [] (EXc C) (tAr X.K C far) Y H Q:=by
 obtain ⟨G,w,Z,r,p⟩:=h;refine zns (κ:=λG H w=>kN X.K C Y Q G H w) zil r p λas Z1 vs G1 H1 w1 r1 s1 q1 p1=>?_;rw[List.append_nil];by_cases hu:uniq as=true
 ·simp only[hu,if_true] at p1;cases er:za0 Z1 as with
  |ok bs =>
   rw[er,R.bind_ok] at p1;have hk:zbG bs=ks:=by refine hks bs λz=>?_;rw[z] at p1;exact p1
   have hl:bs.length=vs.length:=zfo q1 er;refine ⟨G1,wIn w1 as,bs,by rw[<- hk,<- hl];simp[zbG],hk,⟨r1.gh,λb e=>r1.wg b λz=>e (by unfold wIn;rw[z];rfl),λb e=>r1.wh b λz=>e (by unfold wIn;rw[z];rfl),hl,λj b v e1 e2=>?_⟩,?_⟩
   ·have:=zhh r1 (as:=as) (k:=0) (j:=j) (λm i e=>by rw[Nat.zero_add];exact ziq hu e) q1 er e1 e2;rw[Nat.zero_add] at this;exact this
   ·cases ef:Fd bs with
    |ok z =>
     rw[ef,R.bind_ok] at p1;intro v G' H' w' s' pb q;obtain ⟨r',st⟩:=r1.back hu q1 er hk s' pb;obtain ⟨l,pp,us,e1,e2,e3,e4,e5,e6,e7⟩:=q;subst e2;rw[e1] at p1;refine p1 pp us G' H' _ st r' e3 e4 e5 ?_ e7;have w1p:w1 pp=none:=by
      cases zz:w1 pp with
      |none=>rfl
      |some k=>exact absurd e3 (r1.wh pp (by rw[zz];simp))
     unfold zo8;rw[e6,w1p];rfl
    |er n =>
     rw[ef] at p1;intro G' H' w' s';refine ⟨rfl,n,rfl,p1,G',λ_=>none,r1.en.trans ⟨s'.g,λb o e=>?_,λb o e z=>s'.h b o e (by unfold wIn;rw[z];rfl),λb e=>absurd rfl e,s'.k⟩⟩;rcases s'.fr b o e with q|q|q
     ·exact .inl q
     ·exact .inr (.inl q)
     ·exact .inr (.inr λz=>q (by unfold wIn;rw[z];rfl))
    |no=>rw[ef] at p1;exact p1.elim
  |er n=>exact absurd er zdv
  |no=>rw[er] at p1;exact p1.elim
 ·simp only[hu] at p1;exact p1.elim
theorem zs0(F:zgI X.prog X.w X.K X.mg X.base CX k f fd ps (zpb true X.K C.xv ks Fd))(hr:zd5 k X.A)(hg:Gl X x)(hm:X.mg x=some (.ref f))(hk:W.keepIn X.K (.ref f)=true)(hb:zfw X.K fd ps [])(hx:zcC CX X (EXc C))(hks:∀ bs,Fd bs≠.no->zbG bs=ks)
  (ha:JAr X C (e::es) far) (hdb:(x == ("__debug__" : Str))=false:=by decide) (he:starEach (e::es) X.env=(false,eval e X.env)::starEach es X.env:=by rfl) (hpl:(backTo pos (starEach es X.env)).any (·.1)=false:=by rfl) :
  JN X C (.Call (.Name x p) (e::es) [] pos) (zgc Fd far) :=
 PE.weak (zk3 F hr hg hm hk hb .nil hx ha hdb he hpl) λY H Q h=>zmp h hks
def zaw:List Bool->Ev->R (List B)
 |[],_=>.ok []
 |false::ks,_::Z=>(zaw ks Z).bind λl=>.ok (.val .non::l)
 |true::ks,some b::Z=>(zaw ks Z).bind λl=>.ok (b::l)
 |_,_=>.no
def zas(nw:Bool)(ks:List Bool)(m:Nat)(body:DS):FD:=λbs=>if zbG bs=ks then (body (bs.map some++List.replicate m none)).bind λa=>match a.1 with
  |.nx=>if nw=true then .no else (zaw ks a.2).bind λl=>.ok (.non,l)
  |.rt d=>(zaw ks a.2).bind λl=>.ok (d,l)
  |_=>.no
 else .no
theorem zar{nw:Bool}{ks:List Bool}{m:Nat}{body:DS}:∀ bs,zas nw ks m body bs≠.no->zbG bs=ks:=λbs h=>by
 unfold zas at h;by_cases e:zbG bs=ks
 ·exact e
 ·rw[if_neg e] at h;exact absurd rfl h
theorem zd0:∀{ks:List Bool}{Z:Ev}{l:List B}{j:Nat},zaw ks Z=.ok l->ks[j]? = some true->∃ b,l[j]? = some b/\Z[j]? = some (some b)
 |[],_,_,_,_,e=>by simp at e
 |false::ks,[],l,j,h,e=>by simp[zaw] at h
 |true::ks,[],l,j,h,e=>by simp[zaw] at h
 |false::ks,o::Z,l,j,h,e=>by
  unfold zaw at h;cases q:zaw ks Z with
  |ok l' =>
   rw[q] at h;simp only[R.bind_ok,R.ok.injEq] at h;subst h;cases j with
   |zero=>simp at e
   |succ j=>obtain ⟨b,h1,h2⟩:=zd0 (j:=j) q (by simpa using e);exact ⟨b,by simpa using h1,by simpa using h2⟩
  |er n=>rw[q] at h;simp at h
  |no=>rw[q] at h;simp at h
 |true::ks,none::Z,l,j,h,e=>by simp[zaw] at h
 |true::ks,some b::Z,l,j,h,e=>by
  unfold zaw at h;cases q:zaw ks Z with
  |ok l' =>
   rw[q] at h;simp only[R.bind_ok,R.ok.injEq] at h;subst h;cases j with
   |zero=>exact ⟨b,rfl,rfl⟩
   |succ j=>obtain ⟨b,h1,h2⟩:=zd0 (j:=j) q (by simpa using e);exact ⟨b,by simpa using h1,by simpa using h2⟩
  |er n=>rw[q] at h;simp at h
  |no=>rw[q] at h;simp at h
theorem zc6:∀{ks:List Bool}{Z:Ev}{n:Nat},zaw ks Z≠.er n
 |[],_,_,h=>by simp[zaw] at h
 |false::ks,[],n,h=>by simp[zaw] at h
 |true::ks,[],n,h=>by simp[zaw] at h
 |false::ks,o::Z,n,h=>by
  unfold zaw at h;cases q:zaw ks Z with
  |ok l'=>rw[q] at h;simp at h
  |er m=>exact zc6 q
  |no=>rw[q] at h;simp at h
 |true::ks,none::Z,n,h=>by simp[zaw] at h
 |true::ks,some b::Z,n,h=>by
  unfold zaw at h;cases q:zaw ks Z with
  |ok l'=>rw[q] at h;simp at h
  |er m=>exact zc6 q
  |no=>rw[q] at h;simp at h
def zaJ(ks:List Bool):List Nat:=(List.range ks.length).filter λj=>ks[j]? == some true
def zqy(CX:CXT)(P:Program)(w:World)(K:W.Frag)(mg:Str->Option Value)(base:Heap):Prop :=
 ∀(N:List Str)(qual:Str)(scope:Scope)(f:Addr)(cdv:Value)(A:Around)(outer:List Env)(s:Shared)(H:Hp)(E E':XK),scope.kind=.function->(∀ u a H',E' u a H'->E u a H') ->
  zcC CX (zko CX P w K mg base N qual scope f cdv A outer s H E) E'
theorem za6{P:Program}{w:World}{K:W.Frag}{mg:Str->Option Value}{base:Heap}{xq qual:Str}{st:Stmt}{N:List Str}{xv:Nat->Value}{m:Nat}{fb:DS}(nw:Bool)(lv:zqy CX P w K mg base)(F:Fun K xq qual st f fd)(S:zau N ps (zah st))(hl:ps.length=ks.length)(hm:N.length=ks.length+m)
  (hbody:∀(X:Cx)(C:Cn),(∃ cdv A outer s H E,X=zko CX P w K mg base N qual (zah st) f cdv A outer s H E)->C.pp=zaJ ks->C.xv=xv->C.nw=nw->zd5 k X.A->zcC CX X (EXc C)->PassesOwn (model X.prog X.w) X.A X.env X.xe->JSs X C (zbY st) fb) :
  zgI P w K mg base CX (k+1) f fd ps (zpb nw K xv ks (zas nw ks m fb)):=by
 obtain ⟨oc,od,kV,doc,pm,an,cdv,ct,osl,rfl,lk,hcd⟩:=F.ex;refine zpq lk hcd S (λvs H Q E ⟨_,_,_,h,_⟩=>h.trans hl.symm) λA outer s H vs Q E hr hsp=>?_;obtain ⟨G,w0,bs,hv,hk,pr,hF⟩:=hsp;let X:=zko CX P w K mg base N qual (zah st) f cdv A outer s H E;let C:Cn:=⟨G,H,w0,zaJ ks,L2.start N vs,λn=>zas nw ks m fb bs=.er n,xv,nw⟩
 have hE:∀ u a H',EXc C u a H'->E u a H':=λu a H' ⟨ea,n,eu,en,G',w',s'⟩=>by subst ea;subst eu;have en':zas nw ks m fb bs=.er n:=en;rw[en'] at hF;exact hF G' H' w' s'
 have hb:=hbody X C ⟨cdv,A,outer,s,H,E,rfl⟩ rfl rfl rfl hr (lv N qual (zah st) f cdv A outer s H E (EXc C) S.kind hE) PassesOwn.leaving;refine ⟨_,hb,G,w0,bs.map some++List.replicate m none,?_,?_⟩
 ·refine ⟨pr.gh,pr.wg,pr.wh,?_,λi b e=>?_,.refl _ _ _,λi _=>rfl⟩
  ·unfold L2.start;simp only[wav,wag,List.length_replicate];have:=pr.len;lia
  ·have hi:i<bs.length:=by
    by_cases hi:i<bs.length
    ·exact hi
    ·rw[List.getElem?_append_right (by simpa using hi),List.getElem?_replicate] at e;split at e <;> cases e
   rw[List.getElem?_append_left (by simpa using hi),List.getElem?_map] at e;have eb:bs[i]? = some b:=by
    cases q:bs[i]? with
    |none=>rw[q] at e;cases e
    |some z=>rw[q] at e;cases e;rfl
   have hiv:i<vs.length:=by rw[<- pr.len];exact hi
   refine ⟨vs[i],?_,pr.sl i b vs[i] eb (by simp[hiv])⟩;unfold L2.start;rw[List.getElem?_append_left (by simpa using hiv),List.getElem?_map];simp[hiv]
 ·have hF':match zas nw ks m fb bs with
   |.ok a=>∀ v G' H' w',zbB G H w0 G' H' w'->zmD K G' H' w' ks a.2 vs->RtG nw K H G' H' w' a.1 v->Q v H'
   |.er n=>∀ G' H' w',zbB G H w0 G' H' w'->E (xv n) none H'
   |.no=>False:=hF
  have er:zas nw ks m fb bs=(fb (bs.map some++List.replicate m none)).bind λa=>match a.1 with
   |.nx=>if nw=true then .no else (zaw ks a.2).bind λl=>.ok (.non,l)
   |.rt d=>(zaw ks a.2).bind λl=>.ok (d,l)
   |_=>.no:=by unfold zas;rw[if_pos hk]
  have back:∀{Z':Ev}{l:List B}{Y':L2.St}{G' H':Hp}{w':Wn},zaw ks Z'=.ok l->Rel K C G' w' Z' Y' H'->zmD K G' H' w' ks l vs:=λ{Z' l Y' G' H' w'} eb r'=>by
   refine ⟨r'.gh,r'.wg,r'.wh,λj v e1 e2=>?_⟩;obtain ⟨b,h1,h2⟩:=zd0 eb e1;obtain ⟨v',h3,h4⟩:=r'.sl j b h2;have hj:j<ks.length:=(wam.mp e1).1;have hp:Y'[j]? = (L2.start N vs)[j]? := r'.pin j (by show j∈zaJ ks;unfold zaJ;rw[List.mem_filter];exact ⟨List.mem_range.mpr hj,by simp[e1]⟩)
   have hs:(L2.start N vs)[j]? = some (some v):=by unfold L2.start;rw[List.getElem?_append_left (by simpa using (List.getElem?_eq_some_iff.mp e2).1),List.getElem?_map,e2];rfl
   rw[hp,hs] at h3;cases h3;exact ⟨b,h1,h4⟩
  cases ef:fb (bs.map some++List.replicate m none) with
  |ok z =>
   obtain ⟨fl,Z'⟩:=z;rw[ef,R.bind_ok] at er;cases fl with
   |nx =>
    cases nw with
    |true=>rw[er] at hF';exact hF'.elim
    |false =>
     intro Y' G' H' w' s' r';have er:zas false ks m fb bs=(zaw ks Z').bind λl=>.ok (.non,l):=er;cases eb:zaw ks Z' with
     |ok l =>
      rw[er] at hF';simp only[eb,R.bind_ok] at hF';exact hF' _ G' H' w' s' (back eb r') (by unfold RtG Rep;rfl)
     |er n=>exact absurd eb zc6
     |no=>rw[er] at hF';simp only[eb,R.bind_no] at hF'
   |rt d =>
    intro v Y' G' H' w' s' r' q;cases eb:zaw ks Z' with
    |ok l =>
     rw[er] at hF';simp only[eb,R.bind_ok] at hF';exact hF' _ G' H' w' s' (back eb r') q
    |er n=>exact absurd eb zc6
    |no=>rw[er] at hF';simp only[eb,R.bind_no] at hF'
   |bk=>rw[er] at hF';exact hF'.elim
   |ct=>rw[er] at hF';exact hF'.elim
  |er n =>
   show zas nw ks m fb bs=.er n;rw[er,ef];rfl
  |no=>rw[er,ef] at hF';exact hF'.elim
theorem xwQ{P:Program}{w:World}{K:W.Frag}{mg:Str->Option Value}{base:Heap}{xq qual:Str}{st:Stmt}{N:List Str}{xv:Nat->Value}{m:Nat}{fb:DS}(nw:Bool)(lv:zqy CX P w K mg base)(F:Fun K xq qual st f fd)(S:zau N ps (zah st))(hl:ps.length=ks.length)(hm:N.length=ks.length+m)
  (hbody:∀ cdv A outer s H E cG cH cw cσ cex,nw=nw->zd5 k (zko CX P w K mg base N qual (zah st) f cdv A outer s H E).A->zcC CX (zko CX P w K mg base N qual (zah st) f cdv A outer s H E) (EXc (⟨cG,cH,cw,zaJ ks,cσ,cex,xv,nw⟩:Cn))->PassesOwn (model (zko CX P w K mg base N qual (zah st) f cdv A outer s H E).prog (zko CX P w K mg base N qual (zah st) f cdv A outer s H E).w) (zko CX P w K mg base N qual (zah st) f cdv A outer s H E).A (zko CX P w K mg base N qual (zah st) f cdv A outer s H E).env (zko CX P w K mg base N qual (zah st) f cdv A outer s H E).xe->JSs (zko CX P w K mg base N qual (zah st) f cdv A outer s H E) (⟨cG,cH,cw,zaJ ks,cσ,cex,xv,nw⟩:Cn) (zbY st) fb) :
  zgI P w K mg base CX (k+1) f fd ps (zpb nw K xv ks (zas nw ks m fb)):=za6 nw lv F S hl hm λX ⟨cG,cH,cw,_,cσ,cex,_,_⟩ ⟨cdv,A,outer,s,H,E,e⟩ h1 h2 h3=>by subst e;dsimp only at h1 h2 h3;subst h1 h2 h3;exact hbody cdv A outer s H E cG cH cw cσ cex rfl
end
mutual
def zeI:Dt->PyData
 |.non=>.none
 |.bl b=>.bool b
 |.int i=>.int i
 |.str x=>.str x
 |.tup l=>.tuple (zeB l)
 |.lst l=>.list (zeB l)
 |.dct _=>.dict []
 |.scr ns=>.list (ns.map .int)
def zeB:List Dt->List PyData
 |[]=>[]
 |d::ds=>zeI d::zeB ds
end
def okN:Nat->Dt->Bool
 |_,.non=>true
 |_,.bl _=>true
 |_,.int _=>true
 |_,.str x=>PySem.PyData.strOk x
 |0,.tup _=>false
 |0,.lst _=>false
 |n+1,.tup l=>l.all (okN n)
 |n+1,.lst l=>l.all (okN n)
 |_,.dct _=>false
 |_,.scr _=>false
mutual
def eqD:Dt->Dt->Bool
 |.non,.non=>true
 |.bl a,.bl b=>a == b
 |.bl a,.int j=>(if a then 1 else 0) == j
 |.int i,.bl b=>i == (if b then 1 else 0)
 |.int i,.int j=>i == j
 |.str x,.str y=>x == y
 |.lst xs,.lst ys=>zfh xs ys
 |.tup xs,.tup ys=>zfh xs ys
 |_,_=>false
def zfh:List Dt->List Dt->Bool
 |[],[]=>true
 |x::xs,y::ys=>eqD x y && zfh xs ys
 |_,_=>false
end
theorem ziH{n:Nat}(ih:∀ d,okN n d=true->(zeI d).canLay0=true/\(zeI d).depth<=n):∀ l:List Dt,l.all (okN n)=true->PyData.canLayAll0 (zeB l)=true/\PyData.depthAll (zeB l)<=n
 |[],_=>by simp[zeB,PyData.canLayAll0,PyData.depthAll]
 |d::ds,h=>by simp only[List.all_cons,wae] at h;obtain ⟨h1,h2⟩:=ih d h.1;obtain ⟨h3,h4⟩:=ziH ih ds h.2;simp only[zeB,PyData.canLayAll0,PyData.depthAll,h1,h3,Bool.and_self,true_and];lia
theorem zjy:∀(n:Nat)(d:Dt),okN n d=true->(zeI d).canLay0=true/\(zeI d).depth<=n
 |n,.non,_=>by simp[zeI,PyData.canLay0,PyData.depth]
 |n,.bl _,_=>by simp[zeI,PyData.canLay0,PyData.depth]
 |n,.int _,_=>by simp[zeI,PyData.canLay0,PyData.depth]
 |n,.str x,h=>by
  have h:PySem.PyData.strOk x=true:=by cases n <;> simpa [okN] using h
  simp[zeI,PyData.canLay0,PyData.depth,h]
 |0,.tup _,h=>by simp[okN] at h
 |0,.lst _,h=>by simp[okN] at h
 |n+1,.tup l,h=>by obtain ⟨h1,h2⟩:=ziH (zjy n) l (by simpa [okN] using h);simp only[zeI,PyData.canLay0,PyData.depth,h1,true_and];lia
 |n+1,.lst l,h=>by obtain ⟨h1,h2⟩:=ziH (zjy n) l (by simpa [okN] using h);simp only[zeI,PyData.canLay0,PyData.depth,h1,true_and];lia
 |n,.dct _,h=>by cases n <;> simp[okN] at h
 |n,.scr _,h=>by cases n <;> simp[okN] at h
mutual
theorem zl9:∀(n:Nat)(x y:Dt),okN n x=true->okN n y=true->PyData.eqv (zeI x) (zeI y)=eqD x y
 |n,.non,y,h,h'=>by cases y <;> first|(cases n <;> simp[okN] at h';done)|simp[zeI,PyData.eqv,eqD]
 |n,.bl _,y,h,h'=>by cases y <;> first|(cases n <;> simp[okN] at h';done)|simp[zeI,PyData.eqv,eqD]
 |n,.int _,y,h,h'=>by cases y <;> first|(cases n <;> simp[okN] at h';done)|simp[zeI,PyData.eqv,eqD]
 |n,.str _,y,h,h'=>by cases y <;> first|(cases n <;> simp[okN] at h';done)|simp[zeI,PyData.eqv,eqD]
 |0,.tup _,y,h,h'=>by simp[okN] at h
 |0,.lst _,y,h,h'=>by simp[okN] at h
 |n+1,.tup l,y,h,h'=>by
  cases y with
  |tup l'=>simp only[zeI,PyData.eqv,eqD];exact zla n l l' (by simpa [okN] using h) (by simpa [okN] using h')
  |dct _=>simp[okN] at h'
  |scr _=>simp[okN] at h'
  |_=>simp[zeI,PyData.eqv,eqD]
 |n+1,.lst l,y,h,h'=>by
  cases y with
  |lst l'=>simp only[zeI,PyData.eqv,eqD];exact zla n l l' (by simpa [okN] using h) (by simpa [okN] using h')
  |dct _=>simp[okN] at h'
  |scr _=>simp[okN] at h'
  |_=>simp[zeI,PyData.eqv,eqD]
 |n,.dct _,y,h,h'=>by cases n <;> simp[okN] at h
 |n,.scr _,y,h,h'=>by cases n <;> simp[okN] at h
theorem zla:∀(n:Nat)(x y:List Dt),x.all (okN n)=true->y.all (okN n)=true->PyData.eqvAll (zeB x) (zeB y)=zfh x y
 |n,[],[],_,_=>by simp[zeB,PyData.eqvAll,zfh]
 |n,[],_::_,_,_=>by simp[zeB,PyData.eqvAll,zfh]
 |n,_::_,[],_,_=>by simp[zeB,PyData.eqvAll,zfh]
 |n,a::as,b::bs,h,h'=>by simp only[List.all_cons,wae] at h h';simp only[zeB,PyData.eqvAll,zfh];rw[zl9 n a b h.1 h'.1,zla n as bs h.2 h'.2]
end
section
variable{X:Cx}{pS:List (Addr×Obj)}{Y:L2.St}{H:Hp}{s:Shared}
mutual
theorem zdB(I:L2.Inv X pS Y H s):∀(n:Nat)(d:Dt)(v:V)(u:Value),okN n d=true->Rep X.K H d v->zca v u->∃ as,Reads s.heap u (zeI d) as
 |n,.non,v,u,_,h,r=>by rw[zg0 h] at r;cases r;exact ⟨[],by simp only[zeI];exact .none⟩
 |n,.bl b,v,u,_,h,r=>by rw[zdb h] at r;cases r;exact ⟨[],by simp only[zeI];exact .bool _⟩
 |n,.int b,v,u,_,h,r=>by rw[zay h] at r;obtain ⟨t,rfl⟩:=r;exact ⟨[],by simp only[zeI];exact .int _ _⟩
 |n,.str b,v,u,_,h,r=>by rw[zfF h] at r;obtain ⟨t,rfl⟩:=r;exact ⟨[],by simp only[zeI];exact .str _ _⟩
 |0,.tup l,v,u,hk,h,r=>by simp[okN] at hk
 |0,.lst l,v,u,hk,h,r=>by simp[okN] at hk
 |n+1,.tup l,v,u,hk,h,r=>by obtain ⟨a,vs,rfl,h1,h2⟩:=zb5 h;cases r;obtain ⟨its,rv,⟨o,e,c,k,dd⟩,_⟩:=I.tuple h1;obtain ⟨as,q⟩:=zfb I n l vs its (by simpa [okN] using hk) h2 rv;exact ⟨as,by simp only[zeI];exact .tuple e c dd (by simpa using q)⟩
 |n+1,.lst l,v,u,hk,h,r=>by obtain ⟨a,vs,rfl,h1,h2⟩:=zbi h;cases r;obtain ⟨its,rv,⟨o,k,e,c,_,dd⟩,_⟩:=I.list (SqL.of h1);obtain ⟨as,q⟩:=zfb I n l vs its (by simpa [okN] using hk) h2 rv;exact ⟨a::as,by simp only[zeI];exact .list e c dd (by simpa using q)⟩
 |n,.dct _,v,u,hk,h,r=>by cases n <;> simp[okN] at hk
 |n,.scr _,v,u,hk,h,r=>by cases n <;> simp[okN] at hk
theorem zfb(I:L2.Inv X pS Y H s):∀(n:Nat)(ds:List Dt)(vs:List V)(us:List Value),ds.all (okN n)=true->za1 X.K H ds vs->zba vs us->∃ as,ReadsAll s.heap us (zeB ds) as
 |n,[],vs,us,_,h,r=>by rw[h.nil_inv] at r;cases r;exact ⟨[],by simp only[zeB];exact .nil⟩
 |n,d::ds,vs,us,hk,h,r=>by
  obtain ⟨v,t,rfl,h1,h2⟩:=h.cons_inv;cases r with
  |cons r1 r2 =>
   simp only[List.all_cons,wae] at hk;obtain ⟨as,q1⟩:=zdB I n d v _ hk.1 h1 r1;obtain ⟨bs,q2⟩:=zfb I n ds t _ hk.2 h2 r2;exact ⟨as++bs,by simp only[zeB];exact .cons q1 q2⟩
end
mutual
theorem zmS(I:L2.Inv X pS Y H s):∀(n:Nat)(d d':Dt)(v:V),okN n d=true->okN n d'=true->Rep X.K H d v->Rep X.K H d' v->d=d'
 |n,.non,d',v,hk,hk',h,h'=>by rw[zg0 h] at h';cases d' <;> unfold Rep at h' <;> first|(obtain ⟨a,vs,z,_⟩:=h';cases z;done)|(obtain ⟨a,z,_⟩:=h';cases z;done)|(cases h';rfl)|(cases h';done)|rfl
 |n,.bl b,d',v,hk,hk',h,h'=>by rw[zdb h] at h';cases d' <;> unfold Rep at h' <;> first|(obtain ⟨a,vs,z,_⟩:=h';cases z;done)|(obtain ⟨a,z,_⟩:=h';cases z;done)|(cases h';rfl)|(cases h';done)|rfl
 |n,.int b,d',v,hk,hk',h,h'=>by rw[zay h] at h';cases d' <;> unfold Rep at h' <;> first|(obtain ⟨a,vs,z,_⟩:=h';cases z;done)|(obtain ⟨a,z,_⟩:=h';cases z;done)|(cases h';rfl)|(cases h';done)|rfl
 |n,.str b,d',v,hk,hk',h,h'=>by rw[zfF h] at h';cases d' <;> unfold Rep at h' <;> first|(obtain ⟨a,vs,z,_⟩:=h';cases z;done)|(obtain ⟨a,z,_⟩:=h';cases z;done)|(cases h';rfl)|(cases h';done)|rfl
 |0,.tup l,d',v,hk,_,h,h'=>by simp[okN] at hk
 |0,.lst l,d',v,hk,_,h,h'=>by simp[okN] at hk
 |n+1,.tup l,d',v,hk,hk',h,h'=>by
  obtain ⟨a,vs,rfl,h1,h2⟩:=zb5 h;cases d' with
  |tup l' =>
   obtain ⟨a',vs',e,h3,h4⟩:=zb5 h';cases e;rw[I.tuple_inj h3 h1] at h4;rw[ziO I n l l' vs (by simpa [okN] using hk) (by simpa [okN] using hk') h2 h4]
  |lst l' =>
   obtain ⟨a',vs',e,h3,h4⟩:=zbi h';cases e;obtain ⟨its,rv,⟨o,e,c,k,dd⟩,_⟩:=I.tuple h1;obtain ⟨its',rv',⟨o',k',e',c',_,dd'⟩,_⟩:=I.list (SqL.of h3);rw[e] at e';cases e';rw[c] at c';exact absurd c' xwd
  |dct _=>simp[okN] at hk'
  |scr _=>simp[okN] at hk'
  |non=>cases zg0 h'
  |bl _=>cases zdb h'
  |int _=>cases zay h'
  |str _=>cases zfF h'
 |n+1,.lst l,d',v,hk,hk',h,h'=>by
  obtain ⟨a,vs,rfl,h1,h2⟩:=zbi h;cases d' with
  |lst l' =>
   obtain ⟨a',vs',e,h3,h4⟩:=zbi h';cases e;rw[h1] at h3;cases h3;rw[ziO I n l l' vs (by simpa [okN] using hk) (by simpa [okN] using hk') h2 h4]
  |tup l' =>
   obtain ⟨a',vs',e,h3,h4⟩:=zb5 h';cases e;obtain ⟨its,rv,⟨o,e,c,k,dd⟩,_⟩:=I.tuple h3;obtain ⟨its',rv',⟨o',k',e',c',_,dd'⟩,_⟩:=I.list (SqL.of h1);rw[e] at e';cases e';rw[c] at c';exact absurd c' xwd
  |dct _=>simp[okN] at hk'
  |scr _=>simp[okN] at hk'
  |non=>cases zg0 h'
  |bl _=>cases zdb h'
  |int _=>cases zay h'
  |str _=>cases zfF h'
 |n,.dct _,d',v,hk,_,h,h'=>by cases n <;> simp[okN] at hk
 |n,.scr _,d',v,hk,_,h,h'=>by cases n <;> simp[okN] at hk
theorem ziO(I:L2.Inv X pS Y H s):∀(n:Nat)(ds ds':List Dt)(vs:List V),ds.all (okN n)=true->ds'.all (okN n)=true->za1 X.K H ds vs->za1 X.K H ds' vs->ds=ds'
 |n,[],ds',vs,_,_,h,h'=>by
  rw[h.nil_inv] at h';cases ds' with
  |nil=>rfl
  |cons d t=>obtain ⟨v,r,z,_⟩:=h'.cons_inv;cases z
 |n,d::ds,ds',vs,hk,hk',h,h'=>by
  obtain ⟨v,t,rfl,h1,h2⟩:=h.cons_inv;cases ds' with
  |nil=>cases h'.nil_inv
  |cons d' t' =>
   obtain ⟨v',r',z,h3,h4⟩:=h'.cons_inv;cases z;simp only[List.all_cons,wae] at hk hk';rw[zmS I n d d' v hk.1 hk'.1 h1 h3,ziO I n ds t' t hk.2 hk'.2 h2 h4]
end
end
def zu3(K:W.Frag)(neg:Bool):R2:=λx y H Q=>∃ dx dy,Rep K H dx x/\Rep K H dy y/\okN 60 dx=true/\okN 60 dy=true/\Q (.bl (if neg then !eqD dx dy else eqD dx dy)) H
theorem zf3{d:Dt}(h:okN 60 d=true):SeqAt.shaped (zeI d)=true:=by obtain ⟨h1,h2⟩:=zjy 60 d h;unfold SeqAt.shaped;rw[h1,Bool.true_and];exact wat xwl
section
variable{X:Cx}
theorem zq3(hu:X.A.units+64<cLine):OpR X (compareOp .Eq) (zu3 X.K false):=by intro pS s Y H x y v u Q I rx ry h;obtain ⟨dx,dy,h1,h2,h3,h4,q⟩:=h;obtain ⟨as,ra⟩:=zdB I 60 dx x v h3 h1 rx;obtain ⟨bs,rb⟩:=zdB I 60 dy y u h4 h2 ry;exact PyProof.Rows.eq_dataH ra rb (zf3 h3) (zf3 h4) hu ⟨.bl (eqD dx dy),H,I,(by rw[zl9 60 dx dy h3 h4];rfl),q⟩
theorem zra(hu:X.A.units+64<cLine):OpR X (compareOp .NotEq) (zu3 X.K true):=by intro pS s Y H x y v u Q I rx ry h;obtain ⟨dx,dy,h1,h2,h3,h4,q⟩:=h;obtain ⟨as,ra⟩:=zdB I 60 dx x v h3 h1 rx;obtain ⟨bs,rb⟩:=zdB I 60 dy y u h4 h2 ry;exact PyProof.Rows.ne_dataH ra rb (zf3 h3) (zf3 h4) hu ⟨.bl (!eqD dx dy),H,I,(by rw[zl9 60 dx dy h3 h4];rfl),q⟩
def gEq(neg:Bool):Dt->Dt->R Dt:=λx y=>if (okN 60 x && okN 60 y)=true then .ok (.bl (if neg then !eqD x y else eqD x y)) else .no
theorem zle(neg:Bool):zgt (gEq neg):=λx y n h=>by unfold gEq at h;split at h <;> cases h
theorem zoe{K:W.Frag}(neg:Bool):Op2 K (zu3 K neg) (gEq neg):=λG H x y dx dy z Q gh hx hy e k=>by
 unfold gEq at e;split at e
 ·rename_i h;rw[Bool.and_eq_true] at h;cases e;exact ⟨dx,dy,hx.same gh,hy.same gh,h.1,h.2,k _ G H (.refl gh) (by unfold Rep;rfl)⟩
 ·cases e
theorem zrr{pS:List (Addr×Obj)}{Y:L2.St}{H:Hp}{s:Shared}(I:L2.Inv X pS Y H s){A:Around}(hu:A.units+64<cLine){dx dy:Dt}{x y:V}{v u:Value}(h3:okN 60 dx=true)(h4:okN 60 dy=true)(h1:Rep X.K H dx x)(h2:Rep X.K H dy y)(rx:zca x v)(ry:zca y u) :
  SeqAt.EqAt A s v u (eqD dx dy):=by
 obtain ⟨as,ra⟩:=zdB I 60 dx x v h3 h1 rx;obtain ⟨bs,rb⟩:=zdB I 60 dy y u h4 h2 ry;obtain ⟨k1,k2⟩:=zjy 60 dx h3;obtain ⟨k3,k4⟩:=zjy 60 dy h4;have:=SeqAt.eqAt_reads (zeI dx) (zeI dy) A s v u as bs ra rb k1 k3 xwl;rw[zl9 60 dx dy h3 h4] at this;exact this
open Classical in
noncomputable def zoC(K:W.Frag)(H:Hp)(dx:Dt)(u:Value):Bool:=if ∃ d v,okN 60 d=true/\Rep K H d v/\zca v u/\eqD d dx=true then true else false
theorem zmJ{pS:List (Addr×Obj)}{Y:L2.St}{H:Hp}{s:Shared}(I:L2.Inv X pS Y H s){d dx:Dt}{v:V}{u:Value}(hk:okN 60 d=true)(h:Rep X.K H d v)(r:zca v u):zoC X.K H dx u=eqD d dx:=by
 unfold zoC;split
 ·rename_i q;obtain ⟨d',v',k',h',r',e'⟩:=q;have ev:v'=v:=r'.inj r;subst ev;rw[zmS I 60 d d' v' hk k' h h'];exact e'.symm
 ·rename_i q;cases e:eqD d dx with
  |false=>rfl
  |true=>exact absurd ⟨d,v,hk,h,r,e⟩ q
theorem ziQ{pS:List (Addr×Obj)}{Y:L2.St}{H:Hp}{s:Shared}(I:L2.Inv X pS Y H s){dx:Dt}:∀{ds:List Dt}{vs:List V}{us:List Value},ds.all (okN 60)=true->za1 X.K H ds vs->zba vs us->us.any (zoC X.K H dx)=ds.any λd=>eqD d dx
 |[],vs,us,_,h,r=>by rw[h.nil_inv] at r;cases r;rfl
 |d::ds,vs,us,hk,h,r=>by
  obtain ⟨v,t,rfl,h1,h2⟩:=h.cons_inv;cases r with
  |cons r1 r2 =>
   simp only[List.all_cons,wae] at hk;simp only[List.any_cons];rw[zmJ I hk.1 h1 r1,ziQ I hk.2 h2 r2]
theorem zgR{pS:List (Addr×Obj)}{Y:L2.St}{H:Hp}{s:Shared}(I:L2.Inv X pS Y H s){A:Around}(hu:A.units+64<cLine){dx:Dt}{x:V}{v:Value}(hk:okN 60 dx=true)(hx:Rep X.K H dx x)(rx:zca x v):∀{ds:List Dt}{vs:List V}{us:List Value},ds.all (okN 60)=true->za1 X.K H ds vs->zba vs us->∀ u∈us,SeqAt.EqAt A s u v (zoC X.K H dx u)
 |[],vs,us,_,h,r,u,hu=>by rw[h.nil_inv] at r;cases r;cases hu
 |d::ds,vs,us,hks,h,r,u,hm=>by
  obtain ⟨v,t,rfl,h1,h2⟩:=h.cons_inv;cases r with
  |cons r1 r2 =>
   simp only[List.all_cons,wae] at hks;rcases wap.mp hm with rfl|hm
   ·rw[zmJ I hks.1 h1 r1];exact zrr I hu hks.1 hk h1 hx r1 rx
   ·exact zgR I hu hk hx rx hks.2 h2 r2 u hm
def inD(x:Dt)(l:List Dt):Bool:=l.any λd=>eqD d x
def rInD(K:W.Frag)(neg:Bool):R2:=λx y H Q=>∃ dx ds,Rep K H dx x/\(Rep K H (.lst ds) y\/Rep K H (.tup ds) y)/\okN 60 dx=true/\ds.all (okN 60)=true/\Q (.bl (if neg then !inD dx ds else inD dx ds)) H
theorem zno(A:Around):A.in1.units=A.units+1:=rfl
theorem zqO(hu:X.A.units+65<cLine):OpR X (compareOp .In) (rInD X.K false):=by
 intro pS s Y H x y v u Q I rx ry h;obtain ⟨dx,ds,h1,h2,h3,h4,q⟩:=h;have hu1:X.A.in1.units+64<cLine:=by rw[zno];lia
 rcases h2 with h2|h2
 ·obtain ⟨a,vs,rfl,k1,k2⟩:=zbi h2;cases ry;obtain ⟨its,r,pl,hz⟩:=I.list (SqL.of k1);refine SeqAt.in_listAt (zoC X.K H dx) pl.isList (λw hw=>zgR I hu1 h3 h1 rx h4 k2 r w (by simpa using hw)) ⟨.bl _,H,I,rfl,?_⟩;rw[show its.toArray.any (zoC X.K H dx)=its.any (zoC X.K H dx) by simp,ziQ I h4 k2 r];exact q
 ·obtain ⟨a,vs,rfl,k1,k2⟩:=zb5 h2;cases ry;obtain ⟨its,r,pl,hz⟩:=I.tuple k1;refine SeqAt.in_tupleAt (zoC X.K H dx) pl (λw hw=>zgR I hu1 h3 h1 rx h4 k2 r w (by simpa using hw)) ⟨.bl _,H,I,rfl,?_⟩;rw[show its.toArray.any (zoC X.K H dx)=its.any (zoC X.K H dx) by simp,ziQ I h4 k2 r];exact q
def gIn(neg:Bool):Dt->Dt->R Dt:=λx y=>match y with
 |.lst ds=>if (okN 60 x && ds.all (okN 60))=true then .ok (.bl (if neg then !inD x ds else inD x ds)) else .no
 |.tup ds=>if (okN 60 x && ds.all (okN 60))=true then .ok (.bl (if neg then !inD x ds else inD x ds)) else .no
 |_=>.no
theorem znl(neg:Bool):zgt (gIn neg):=λx y n h=>by
 unfold gIn at h;split at h
 ·split at h <;> cases h
 ·split at h <;> cases h
 ·cases h
theorem zq1{K:W.Frag}(neg:Bool):Op2 K (rInD K neg) (gIn neg):=λG H x y dx dy z Q gh hx hy e k=>by
 unfold gIn at e;split at e
 ·split at e
  ·rename_i h;rw[Bool.and_eq_true] at h;cases e;exact ⟨dx,_,hx.same gh,.inl (hy.same gh),h.1,h.2,k _ G H (.refl gh) (by unfold Rep;rfl)⟩
  ·cases e
 ·split at e
  ·rename_i h;rw[Bool.and_eq_true] at h;cases e;exact ⟨dx,_,hx.same gh,.inr (hy.same gh),h.1,h.2,k _ G H (.refl gh) (by unfold Rep;rfl)⟩
  ·cases e
 ·cases e
end
def zcG(i:Int):Bool:=decide (-18446744073709551616<i) && decide (i<18446744073709551616)
theorem zh6{i:Int}(h:zcG i=true):-(2 ^ 64)<i/\i<2 ^ 64:=by unfold zcG at h;rw[Bool.and_eq_true] at h;have h1:=of_decide_eq_true h.1;have h2:=of_decide_eq_true h.2;lia
def zbt:Dt->Dt->R Dt
 |.int i,.int j=>.ok (.int (i+j))
 |_,_=>.no
def zhp:Dt->Dt->R Dt
 |.int i,.int j=>.ok (.int (i-j))
 |_,_=>.no
def zng:Dt->Dt->R Dt
 |.int i,.int j=>if (zcG i || zcG j)=true then .ok (.int (i * j)) else .no
 |_,_=>.no
def zqc:Dt->Dt->R Dt
 |.int i,.int j=>if 0<j/\j<1073741824 then .ok (.int (i / j)) else .no
 |_,_=>.no
def zmk:Dt->Dt->R Dt
 |.int i,.int j=>if 0<j then .ok (.int (i % j)) else .no
 |_,_=>.no
def zp8:Dt->Dt->R Dt
 |.int i,.int j=>if 0<=j/\j<=1000/\i.natAbs<18446744073709551616 then .ok (.int (i ^ j.toNat)) else .no
 |_,_=>.no
def zoA(f:Int->Int->Bool):Dt->Dt->R Dt
 |.int i,.int j=>.ok (.bl (f i j))
 |_,_=>.no
section
variable{K:W.Frag}
theorem zaD{G:Hp}(i:Int):Rep K G (.int i) (.int i):=by unfold Rep;rfl
theorem zbF{G:Hp}(b:Bool):Rep K G (.bl b) (.bl b):=by unfold Rep;rfl
theorem zqg:Op2 K (rI0 λi j=>.int (i+j)) zbt:=λG H x y dx dy z Q gh hx hy e k=>by
 unfold zbt at e;split at e
 ·cases e;exact ⟨_,_,zay hx,zay hy,k _ G H (.refl gh) (zaD _)⟩
 ·cases e
theorem zrM:Op2 K (rI0 λi j=>.int (i-j)) zhp:=λG H x y dx dy z Q gh hx hy e k=>by
 unfold zhp at e;split at e
 ·cases e;exact ⟨_,_,zay hx,zay hy,k _ G H (.refl gh) (zaD _)⟩
 ·cases e
theorem zr3:Op2 K (rI zu4 λi j=>.int (i * j)) zng:=λG H x y dx dy z Q gh hx hy e k=>by
 unfold zng at e;split at e
 ·split at e
  ·rename_i h;cases e;rw[Bool.or_eq_true] at h;exact ⟨_,_,zay hx,zay hy,h.elim (λz=>.inl (zh6 z)) (λz=>.inr (zh6 z)),k _ G H (.refl gh) (zaD _)⟩
  ·cases e
 ·cases e
theorem zrw:Op2 K (rI CDiv λi j=>.int (i / j)) zqc:=λG H x y dx dy z Q gh hx hy e k=>by
 unfold zqc at e;split at e
 ·split at e
  ·rename_i h;cases e;exact ⟨_,_,zay hx,zay hy,h,k _ G H (.refl gh) (zaD _)⟩
  ·cases e
 ·cases e
theorem zr4:Op2 K (rI (λ_ j=>0<j) λi j=>.int (i % j)) zmk:=λG H x y dx dy z Q gh hx hy e k=>by
 unfold zmk at e;split at e
 ·split at e
  ·rename_i h;cases e;exact ⟨_,_,zay hx,zay hy,h,k _ G H (.refl gh) (zaD _)⟩
  ·cases e
 ·cases e
theorem zs8:Op2 K (rI CPow λi j=>.int (i ^ j.toNat)) zp8:=λG H x y dx dy z Q gh hx hy e k=>by
 unfold zp8 at e;split at e
 ·split at e
  ·rename_i h;cases e;exact ⟨_,_,zay hx,zay hy,⟨h.1,xwl,by have:=h.2.2;lia⟩,k _ G H (.refl gh) (zaD _)⟩
  ·cases e
 ·cases e
theorem zcB{f:Int->Int->Bool}:Op2 K (rI0 λi j=>.bl (f i j)) (zoA f):=λG H x y dx dy z Q gh hx hy e k=>by
 unfold zoA at e;split at e
 ·cases e;exact ⟨_,_,zay hx,zay hy,k _ G H (.refl gh) (zbF _)⟩
 ·cases e
theorem zmP:zgt zbt:=λx y n h=>by unfold zbt at h;split at h <;> cases h
theorem zoS:zgt zhp:=λx y n h=>by unfold zhp at h;split at h <;> cases h
theorem zpR:zgt zng:=λx y n h=>by unfold zng at h;split at h <;> first|cases h|(split at h <;> cases h)
theorem zpa:zgt zqc:=λx y n h=>by unfold zqc at h;split at h <;> first|cases h|(split at h <;> cases h)
theorem zoN:zgt zmk:=λx y n h=>by unfold zmk at h;split at h <;> first|cases h|(split at h <;> cases h)
theorem zp4:zgt zp8:=λx y n h=>by unfold zp8 at h;split at h <;> first|cases h|(split at h <;> cases h)
theorem zbW{f:Int->Int->Bool}:zgt (zoA f):=λx y n h=>by unfold zoA at h;split at h <;> cases h
end
section
variable{X:Cx}{C:Cn}{a b:Expr}{fa fb:De}{pos:Pos}
theorem zb2(ha:JE X C a fa)(hb:JE X C b fb):JE X C (.BinOp a .Add b pos) (dOp zbt fa fb):=zkO zto zqg zmP ha hb
theorem zkm(ha:JE X C a fa)(hb:JE X C b fb):JE X C (.BinOp a .Sub b pos) (dOp zhp fa fb):=zkO ztC zrM zoS ha hb
theorem zjn(ha:JE X C a fa)(hb:JE X C b fb):JE X C (.BinOp a .Mult b pos) (dOp zng fa fb):=zkO zu1 zr3 zpR ha hb
theorem zrd(ha:JE X C a fa)(hb:JE X C b fb):JE X C (.BinOp a .FloorDiv b pos) (dOp zqc fa fb):=zkO zrq zrw zpa ha hb
theorem zh3(ha:JE X C a fa)(hb:JE X C b fb):JE X C (.BinOp a .Mod b pos) (dOp zmk fa fb):=zkO zui zr4 zoN ha hb
theorem zqC(ha:JE X C a fa)(hb:JE X C b fb):JE X C (.BinOp a .Pow b pos) (dOp zp8 fa fb):=zkO ztb zs8 zp4 ha hb
abbrev gLt:=zoA λi j=>decide (i<j)
abbrev gLe:=zoA λi j=>decide (i<=j)
abbrev gGt:=zoA λi j=>decide (j<i)
abbrev gGe:=zoA λi j=>decide (j<=i)
theorem ztl(ha:JE X C a fa)(hb:JE X C b fb):JE X C (.Compare a [.Lt] [b] pos) (dOp gLt fa fb):=zjg zou zcB zbW ha hb (zdY _)
theorem zrK(ha:JE X C a fa)(hb:JE X C b fb):JE X C (.Compare a [.LtE] [b] pos) (dOp gLe fa fb):=zjg zn7 zcB zbW ha hb (zdY _)
theorem zjT(hu:X.A.units+64<cLine)(ha:JE X C a fa)(hb:JE X C b fb):JE X C (.Compare a [.Eq] [b] pos) (dOp (gEq false) fa fb):=zjg (zq3 hu) (zoe false) (zle false) ha hb (zdY _)
theorem zuE(hu:X.A.units+65<cLine)(ha:JE X C a fa)(hb:JE X C b fb)(hm:behindInMarks .In b=false:=by rfl):JE X C (.Compare a [.In] [b] pos) (dOp (gIn false) fa fb):=zjg (zqO hu) (zq1 false) (znl false) ha hb hm
theorem zs9(ha:JE X C a fa)(hb:JE X C b fb):JT X C (.Compare a [.Lt] [b] pos) (dTB (dOp gLt fa fb)):=zhc zou zcB zbW ha hb (zdY _)
theorem zuj(ha:JE X C a fa)(hb:JE X C b fb):JT X C (.Compare a [.Gt] [b] pos) (dTB (dOp gGt fa fb)):=zhc zuP zcB zbW ha hb (zdY _)
theorem zvh(ha:JE X C a fa)(hb:JE X C b fb):JT X C (.Compare a [.GtE] [b] pos) (dTB (dOp gGe fa fb)):=zhc zuA zcB zbW ha hb (zdY _)
theorem zkY(hu:X.A.units+64<cLine)(ha:JE X C a fa)(hb:JE X C b fb):JT X C (.Compare a [.Eq] [b] pos) (dTB (dOp (gEq false) fa fb)):=zhc (zq3 hu) (zoe false) (zle false) ha hb (zdY _)
theorem zgi(hu:X.A.units+64<cLine)(ha:JE X C a fa)(hb:JE X C b fb):JT X C (.Compare a [.NotEq] [b] pos) (dTB (dOp (gEq true) fa fb)):=zhc (zra hu) (zoe true) (zle true) ha hb (zdY _)
theorem zuW(hu:X.A.units+65<cLine)(ha:JE X C a fa)(hb:JE X C b fb)(hm:behindInMarks .In b=false:=by rfl):JT X C (.Compare a [.In] [b] pos) (dTB (dOp (gIn false) fa fb)):=zhc (zqO hu) (zq1 false) (znl false) ha hb hm
def zsF(fa:De):De:=λZ=>(fa Z).bind λa=>match a.1 with
 |.int i=>.ok (.int (-i),a.2)
 |_=>.no
theorem znV(ha:JE X C a fa):JE X C (.UnaryOp .USub a pos) (zsF fa):=PE.weak (zsM zq9 ha) λY H Q ⟨G,w,Z,r,p⟩=>by
 refine zfa (κ:=λG H w=>kE X.K C Y Q G H w) zc3 r p λd Z1 v G1 H1 w1 r1 s1 q1 p1=>?_;cases d with
 |int i=>exact ⟨i,zay q1,p1 _ G1 H1 w1 (.refl _ _ _) r1 (zaD _)⟩
 |_=>exact p1.elim
def zdE(g g':Dt->Dt->R Dt)(fa fb fc:De):De:=λZ=>(fa Z).bind λa=>(fb a.2).bind λb=>(g a.1 b.1).bind λz=>match z with
 |.bl true=>(fc b.2).bind λc=>(g' b.1 c.1).bind λz'=>.ok (z',c.2)
 |.bl false=>.ok (.bl false,b.2)
 |_=>.no
end
def FnR(K:W.Frag)(r:List V->Hp->VK->Prop)(g:List Dt->R Dt):Prop:=∀(G H:Hp)(vs:List V)(ds:List Dt)(z:Dt)(Q:VK),zbU G H->za1 K G ds vs->g ds=.ok z ->
 (∀ v G' H',ze9 G H G' H'->Rep K G' z v->Q v H')->r vs H Q
def FnN(K:W.Frag)(r:List V->Hp->VK->Prop)(g:List Dt->R (List Dt)):Prop:=∀(G H:Hp)(vs:List V)(ds:List Dt)(z:List Dt)(Q:VK),zbU G H->za1 K G ds vs->g ds=.ok z ->
 (∀ p zs,H p=none->za1 K G z zs->Q (.ref p) (upd H p (.lst zs)))->r vs H Q
def zlk{α:Type}(g:List Dt->R α):Prop:=∀ x n,g x≠.er n
def dFn(g:List Dt->R Dt)(fa:DA):De:=λZ=>(fa Z).bind λa=>(g a.1).bind λz=>.ok (z,a.2)
def ze8(g:List Dt->R (List Dt))(fa:DA):DN:=λZ=>(fa Z).bind λa=>(g a.1).bind λz=>.ok (z,a.2)
section
variable{X:Cx}{C:Cn}{e:Expr}{es:List Expr}{fa:DA}{p pos:Pos}{x:Str}{id T:String}{r:List V->Hp->VK->Prop}
theorem zn5{g:List Dt->R Dt}{Y:L2.St}{H:Hp}{Q:VK}(h:FnR X.K r g)(he:zlk g)(t:tE X.K C (dFn g fa) Y H Q):tCB r (tAd X.K C fa) Y H Q:=by
 obtain ⟨G,w,Z,rr,p⟩:=t;refine zsJ (κ:=λG H w=>kE X.K C Y Q G H w) zc3 rr p λds Z1 vs G1 H1 w1 r1 s1 q1 p1=>?_;cases e:g ds with
 |ok z =>
  simp only[e,R.bind_ok] at p1;exact h G1 H1 vs ds z Q r1.gh q1 e λv G' H' gr q=>p1 v G' H' w1 gr.step (r1.grow gr) q
 |er n=>exact absurd e (he _ _)
 |no=>simp only[e,R.bind_no] at p1;exact p1.elim
theorem zin{g:List Dt->R (List Dt)}{Y:L2.St}{H:Hp}{Q:VK}(h:FnN X.K r g)(he:zlk g)(t:tN X.K C (ze8 g fa) Y H Q):tCB r (tAd X.K C fa) Y H Q:=by
 obtain ⟨G,w,Z,rr,p⟩:=t;refine zsJ (κ:=λG H w=>kN X.K C Y Q G H w) zil rr p λds Z1 vs G1 H1 w1 r1 s1 q1 p1=>?_;cases e:g ds with
 |ok z =>
  simp only[e,R.bind_ok] at p1;refine h G1 H1 vs ds z Q r1.gh q1 e λa zs ha q=>?_;have gr:ze9 G1 H1 G1 (upd H1 a (.lst zs)):=.newH r1.gh ha;exact p1 a zs G1 _ w1 gr.step (r1.grow gr) ha zan (r1.gh.free ha) (by
   cases z:w1 a with
   |none=>rfl
   |some k=>exact absurd ha (r1.wh a (by rw[z];simp))) q
 |er n=>exact absurd e (he _ _)
 |no=>simp only[e,R.bind_no] at p1;exact p1.elim
theorem zgq{g:List Dt->R Dt}(h:FnR X.K r g)(he:zlk g)(hc:zcN X (.builtin id) r)(hg:Gl X x)(hm:X.mg x=none)(hv:bootBuiltins x=some (.builtin id))(ha:JA X C (e::es) fa)(hn:x≠"__name__":=by decide)(hdb:(x == ("__debug__" : Str))=false:=by decide)
  (hs:starEach (e::es) X.env=(false,eval e X.env)::starEach es X.env:=by rfl) (hpl:(backTo pos (starEach es X.env)).any (·.1)=false:=by rfl):JE X C (.Call (.Name x p) (e::es) [] pos) (dFn g fa) :=
 PE.weak (zd9 hc hg hm hv ha hn hdb hs hpl) λY H Q t=>zn5 h he t
theorem znE{g:List Dt->R Dt}(h:FnR X.K r g)(he:zlk g)(hc:zcN X (.type T) r)(hg:Gl X x)(hm:X.mg x=none)(hv:bootBuiltins x=some (.type T))(ha:JA X C (e::es) fa)(hn:x≠"__name__":=by decide)(hdb:(x == ("__debug__" : Str))=false:=by decide)
  (hs:starEach (e::es) X.env=(false,eval e X.env)::starEach es X.env:=by rfl) (hpl:(backTo pos (starEach es X.env)).any (·.1)=false:=by rfl):JE X C (.Call (.Name x p) (e::es) [] pos) (dFn g fa) :=
 PE.weak (zgE hc hg hm hv ha hn hdb hs hpl) λY H Q t=>zn5 h he t
theorem zpp{g:List Dt->R (List Dt)}(h:FnN X.K r g)(he:zlk g)(hc:zcN X (.builtin id) r)(hg:Gl X x)(hm:X.mg x=none)(hv:bootBuiltins x=some (.builtin id))(ha:JA X C (e::es) fa)(hn:x≠"__name__":=by decide)(hdb:(x == ("__debug__" : Str))=false:=by decide)
  (hs:starEach (e::es) X.env=(false,eval e X.env)::starEach es X.env:=by rfl) (hpl:(backTo pos (starEach es X.env)).any (·.1)=false:=by rfl):JN X C (.Call (.Name x p) (e::es) [] pos) (ze8 g fa) :=
 PE.weak (zd9 hc hg hm hv ha hn hdb hs hpl) λY H Q t=>zin h he t
theorem znh{g:List Dt->R (List Dt)}(h:FnN X.K r g)(he:zlk g)(hc:zcN X (.type T) r)(hg:Gl X x)(hm:X.mg x=none)(hv:bootBuiltins x=some (.type T))(ha:JA X C (e::es) fa)(hn:x≠"__name__":=by decide)(hdb:(x == ("__debug__" : Str))=false:=by decide)
  (hs:starEach (e::es) X.env=(false,eval e X.env)::starEach es X.env:=by rfl) (hpl:(backTo pos (starEach es X.env)).any (·.1)=false:=by rfl):JN X C (.Call (.Name x p) (e::es) [] pos) (ze8 g fa) :=
 PE.weak (zgE hc hg hm hv ha hn hdb hs hpl) λY H Q t=>zin h he t
end
def zby:List Dt->R Dt
 |[.lst l]=>.ok (.int l.length)
 |[.tup l]=>.ok (.int l.length)
 |[.scr l]=>.ok (.int l.length)
 |[.str x]=>if x.length<=16777216 then .ok (.int x.length) else .no
 |_=>.no
def rLen(K:W.Frag):List V->Hp->VK->Prop:=λxs H Q=>(∃ p ys,xs=[.ref p]/\(SqL K H p ys\/SqT K H p ys)/\Q (.int ys.length) H)\/∃ z,xs=[.str z]/\z.length<=sizeLine/\Q (.int z.length) H
theorem zge{K:W.Frag}{G:Hp}{d:Dt}{vs:List V}(h:za1 K G [d] vs):∃ v,vs=[v]/\Rep K G d v:=by obtain ⟨v,r,rfl,h1,h2⟩:=h.cons_inv;rw[h2.nil_inv];exact ⟨v,rfl,h1⟩
theorem zrl{K:W.Frag}{G:Hp}{d e:Dt}{vs:List V}(h:za1 K G [d,e] vs):∃ v u,vs=[v,u]/\Rep K G d v/\Rep K G e u:=by obtain ⟨v,r,rfl,h1,h2⟩:=h.cons_inv;obtain ⟨u,rfl,h3⟩:=zge h2;exact ⟨v,u,rfl,h1,h3⟩
theorem zk4{K:W.Frag}{G:Hp}{l:List Int}{v:V}(h:Rep K G (.scr l) v):∃ a,v=.ref a/\SqL K G a (l.map V.int):=by unfold Rep at h;exact h
section
variable{K:W.Frag}
theorem zta:FnR K (rLen K) zby:=λG H vs ds z Q gh hr e k=>by
 unfold zby at e;split at e
 ·obtain ⟨v,rfl,h1⟩:=zge hr;obtain ⟨a,us,rfl,h2,h3⟩:=zbi h1;cases e;exact .inl ⟨a,us,rfl,.inl (SqL.of (gh _ _ h2)),by rw[<- h3.length];exact k _ G H (.refl gh) (zaD _)⟩
 ·obtain ⟨v,rfl,h1⟩:=zge hr;obtain ⟨a,us,rfl,h2,h3⟩:=zb5 h1;cases e;exact .inl ⟨a,us,rfl,.inr (za8 gh h2),by rw[<- h3.length];exact k _ G H (.refl gh) (zaD _)⟩
 ·obtain ⟨v,rfl,h1⟩:=zge hr;obtain ⟨a,rfl,h2⟩:=zk4 h1;cases e;exact .inl ⟨a,_,rfl,.inl (gh.seq h2),by rw[List.length_map];exact k _ G H (.refl gh) (zaD _)⟩
 ·split at e
  ·rename_i hx;obtain ⟨v,rfl,h1⟩:=zge hr;cases e;exact .inr ⟨_,by rw[zfF h1],by rw[show sizeLine=16777216 from by decide];exact hx,k _ G H (.refl gh) (zaD _)⟩
  ·cases e
 ·cases e
theorem ztp:zlk zby:=λx n h=>by unfold zby at h;split at h <;> first|cases h|(split at h <;> cases h)
def zel:List Dt->R (List Dt)
 |[.lst l]=>.ok l
 |[.tup l]=>.ok l
 |_=>.no
theorem zrm:FnN K (λxs H Q=>∃ p ys,xs=[.ref p]/\(SqL K H p ys\/SqT K H p ys)/\∀ l,H l=none->Q (.ref l) (upd H l (.lst ys))) zel:=λG H vs ds z Q gh hr e k=>by
 unfold zel at e;split at e
 ·obtain ⟨v,rfl,h1⟩:=zge hr;obtain ⟨a,us,rfl,h2,h3⟩:=zbi h1;cases e;exact ⟨a,us,rfl,.inl (SqL.of (gh _ _ h2)),λl hl=>k l us hl h3⟩
 ·obtain ⟨v,rfl,h1⟩:=zge hr;obtain ⟨a,us,rfl,h2,h3⟩:=zb5 h1;cases e;exact ⟨a,us,rfl,.inr (za8 gh h2),λl hl=>k l us hl h3⟩
 ·cases e
theorem zsn:zlk zel:=λx n h=>by unfold zel at h;split at h <;> cases h
def zbX:List Dt->R Dt
 |[.lst l]=>.ok (.tup l)
 |[.tup l]=>.ok (.tup l)
 |_=>.no
theorem zqe:FnR K (λxs H Q=>∃ p ys,xs=[.ref p]/\((SqL K H p ys/\∀ l,H l=none->Q (.ref l) (upd H l (.tup ys)))\/(SqT K H p ys/\Q (.ref p) H))) zbX:=λG H vs ds z Q gh hr e k=>by
 unfold zbX at e;split at e
 ·obtain ⟨v,rfl,h1⟩:=zge hr;obtain ⟨a,us,rfl,h2,h3⟩:=zbi h1;cases e;refine ⟨a,us,rfl,.inl ⟨SqL.of (gh _ _ h2),λl hl=>?_⟩⟩;have gr:ze9 G H (upd G l (.tup us)) (upd H l (.tup us)):=.new gh hl;exact k _ _ _ gr (by unfold Rep;exact ⟨l,us,rfl,zhJ.of zan,h3.same gr.g⟩)
 ·obtain ⟨v,rfl,h1⟩:=zge hr;obtain ⟨a,us,rfl,h2,h3⟩:=ze4 h1;cases e;exact ⟨a,us,rfl,.inr ⟨za8 gh h2.sq,k _ G H (.refl gh) (by unfold Rep;exact ⟨a,us,rfl,h2,h3⟩)⟩⟩
 ·cases e
theorem zqn:zlk zbX:=λx n h=>by unfold zbX at h;split at h <;> cases h
def zic:List Dt->R Dt
 |[.int i,.int j]=>.ok (.int (if j > i then j else i))
 |_=>.no
def ziU:List Dt->R Dt
 |[.int i,.int j]=>.ok (.int (if j<i then j else i))
 |_=>.no
theorem zsu:FnR K (λxs H Q=>∃ i j,xs=[.int i,.int j]/\Q (.int (if j > i then j else i)) H) zic:=λG H vs ds z Q gh hr e k=>by
 unfold zic at e;split at e
 ·obtain ⟨v,u,rfl,h1,h2⟩:=zrl hr;cases e;exact ⟨_,_,by rw[zay h1,zay h2],k _ G H (.refl gh) (zaD _)⟩
 ·cases e
theorem zs5:FnR K (λxs H Q=>∃ i j,xs=[.int i,.int j]/\Q (.int (if j<i then j else i)) H) ziU:=λG H vs ds z Q gh hr e k=>by
 unfold ziU at e;split at e
 ·obtain ⟨v,u,rfl,h1,h2⟩:=zrl hr;cases e;exact ⟨_,_,by rw[zay h1,zay h2],k _ G H (.refl gh) (zaD _)⟩
 ·cases e
theorem zr0:zlk zic:=λx n h=>by unfold zic at h;split at h <;> cases h
theorem zsx:zlk ziU:=λx n h=>by unfold ziU at h;split at h <;> cases h
end
section
variable{X:Cx}
theorem zln{α:Type}{f:α->V}{g:α->Value->Prop}(h:∀ a u,zca (f a) u->g a u):∀{as:List α}{us:List Value}{i:Nat}{u:Value},zba (as.map f) us->us[i]? = some u->∃ a,as[i]? = some a/\g a u
 |[],_,_,_,r,e=>by cases r;simp at e
 |a::as,_,0,u,.cons r t,e=>by simp at e;subst e;exact ⟨a,rfl,h a _ r⟩
 |a::as,_,i+1,u,.cons r t,e=>by obtain ⟨b,h1,h2⟩:=zln h (i:=i) t (by simpa using e);exact ⟨b,by simpa using h1,h2⟩
theorem ziK:∀(bs:List Bool),((List.range bs.length).all λi=>(bs[i]?).getD true)=bs.all id:=λbs=>by
 rw[Bool.eq_iff_iff,List.all_eq_true,List.all_eq_true];constructor
 ·intro h b hb;obtain ⟨i,hi,rfl⟩:=List.mem_iff_getElem.mp hb;have:=h i (List.mem_range.mpr hi);simpa [hi] using this
 ·intro h i hi;have hi':=List.mem_range.mp hi;simpa [hi'] using h bs[i] (List.getElem_mem hi')
theorem zn3(hc:X.calm=true):zcN X (.builtin "all") (λxs H Q=>∃(p:Addr)(bs:List Bool),xs=[.ref p]/\SqL X.K H p (bs.map V.bl)/\Q (.bl (bs.all id)) H):=by
 intro pS s Y H xs us Q I r h;obtain ⟨p,bs,rfl,hq,q⟩:=h;obtain ⟨u,rfl,ru⟩:=zhQ r;cases ru;obtain ⟨its,rv,pl,hz⟩:=I.list hq;have hlt:p≠s.heap.objs.size:=by obtain ⟨o,n,e,_⟩:=id pl;exact waN (wai e)
 have hlen:its.length=bs.length:=by rw[<- rv.length];simp
 refine call_all_walk (wpAny_pyIter_list pl.isList ?_);refine ⟨s.heap.objs.size,_,_,_,_,_,λi=>(bs[i]?).getD true,rfl,Walks.list (A:=X.A.in1) (I.ok.hd hc) s.heap.objs.size p hlt its.toArray,⟨⟨_,waj _ rfl,rfl,rfl⟩,?_⟩,?_,λh' tk hk=>?_⟩
 ·obtain ⟨o,ho,hc',n,hd⟩:=pl.isList;exact ⟨o,waa _ ho,hc',n,hd⟩
 ·intro i v s' Q' E' hP hQ;obtain ⟨b,h1,h2⟩:=zln (f:=V.bl) (g:=λb u=>u=Value.bool b) (λa u z=>z) rv (i:=i) (u:=v) (by simpa using hP);subst h2;simp only[h1,Option.getD_some] at hQ;exact wpAny_truthy_bool hQ
 ·refine ⟨.bl (bs.all id),H,I.kept (t':=tk) λb o e=>hk b o (λz=>?_) (waa _ e),?_,q⟩
  ·simp at z;exact absurd (z ▸ wai e) (waM _)
  ·show Value.bool _=_;rw[List.size_toArray,hlen,ziK]
def zeA:List Dt->Option (List Bool)
 |[]=>some []
 |.bl b::r=>(zeA r).map (b::·)
 |_=>none
theorem zhF{K:W.Frag}{G:Hp}:∀{ds:List Dt}{vs:List V}{bs:List Bool},za1 K G ds vs->zeA ds=some bs->vs=bs.map V.bl
 |[],_,_,h,e=>by rw[h.nil_inv];simp[zeA] at e;subst e;rfl
 |.bl b::r,_,bs,h,e=>by obtain ⟨v,t,rfl,h1,h2⟩:=h.cons_inv;simp only[zeA,Option.map_eq_some_iff] at e;obtain ⟨bs',e1,rfl⟩:=e;rw[zdb h1,zhF h2 e1];rfl
 |.non::_,_,_,_,e=>by simp[zeA] at e
 |.int _::_,_,_,_,e=>by simp[zeA] at e
 |.str _::_,_,_,_,e=>by simp[zeA] at e
 |.tup _::_,_,_,_,e=>by simp[zeA] at e
 |.lst _::_,_,_,_,e=>by simp[zeA] at e
 |.dct _::_,_,_,_,e=>by simp[zeA] at e
 |.scr _::_,_,_,_,e=>by simp[zeA] at e
def zhk:List Dt->R Dt
 |[.lst l]=>match zeA l with
  |some bs=>.ok (.bl (bs.all id))
  |none=>.no
 |_=>.no
theorem zue{K:W.Frag}:FnR K (λxs H Q=>∃(p:Addr)(bs:List Bool),xs=[.ref p]/\SqL K H p (bs.map V.bl)/\Q (.bl (bs.all id)) H) zhk:=λG H vs ds z Q gh hr e k=>by
 unfold zhk at e;split at e
 ·split at e
  ·rename_i bs eb;obtain ⟨v,rfl,h1⟩:=zge hr;obtain ⟨a,us,rfl,h2,h3⟩:=zbi h1;cases e;rw[zhF h3 eb] at h2;exact ⟨a,bs,rfl,SqL.of (gh _ _ h2),k _ G H (.refl gh) (zbF _)⟩
  ·cases e
 ·cases e
theorem zsV:zlk zhk:=λx n h=>by unfold zhk at h;split at h <;> first|cases h|(split at h <;> cases h)
def ziY:List Dt->Option (List Int)
 |[]=>some []
 |.int b::r=>(ziY r).map (b::·)
 |_=>none
theorem zgF{K:W.Frag}{G:Hp}:∀{ds:List Dt}{vs:List V}{bs:List Int},za1 K G ds vs->ziY ds=some bs->vs=bs.map V.int
 |[],_,_,h,e=>by rw[h.nil_inv];simp[ziY] at e;subst e;rfl
 |.int b::r,_,bs,h,e=>by obtain ⟨v,t,rfl,h1,h2⟩:=h.cons_inv;simp only[ziY,Option.map_eq_some_iff] at e;obtain ⟨bs',e1,rfl⟩:=e;rw[zay h1,zgF h2 e1];rfl
 |.non::_,_,_,_,e=>by simp[ziY] at e
 |.bl _::_,_,_,_,e=>by simp[ziY] at e
 |.str _::_,_,_,_,e=>by simp[ziY] at e
 |.tup _::_,_,_,_,e=>by simp[ziY] at e
 |.lst _::_,_,_,_,e=>by simp[ziY] at e
 |.dct _::_,_,_,_,e=>by simp[ziY] at e
 |.scr _::_,_,_,_,e=>by simp[ziY] at e
theorem zl5(ns:List Int):ziY (ns.map .int)=some ns:=by
 induction ns with
 |nil=>rfl
 |cons n r ih=>simp[ziY,ih]
end
section
variable{X:Cx}
end
def tyD:Dt->String
 |.non=>"NoneType"
 |.bl _=>"bool"
 |.int _=>"int"
 |.str _=>"str"
 |.tup _=>"tuple"
 |.lst _=>"list"
 |.dct _=>"dict"
 |.scr _=>"list"
def zhX(t T:String):Bool:=(t == T) || (t == "bool" && T == "int")
section
variable{X:Cx}{pS:List (Addr×Obj)}{Y:L2.St}{H:Hp}{s:Shared}
theorem zqG(I:L2.Inv X pS Y H s):∀{d:Dt}{v:V}{u:Value},Rep X.K H d v->zca v u->∃ P:Heap->Prop,W.KitX X.K u (.type (tyD d)) P/\P s.heap/\u≠.builtin "__main__.__loader__#opaque"
 |.non,v,u,h,r=>by rw[zg0 h] at r;cases r;exact ⟨_,W.kitx_none,True.intro,xws⟩
 |.bl b,v,u,h,r=>by rw[zdb h] at r;cases r;exact ⟨_,W.kitx_bool,True.intro,xws⟩
 |.int b,v,u,h,r=>by rw[zay h] at r;obtain ⟨t,rfl⟩:=r;exact ⟨_,W.kitx_int,True.intro,xws⟩
 |.str b,v,u,h,r=>by rw[zfF h] at r;obtain ⟨t,rfl⟩:=r;exact ⟨_,W.kitx_str,True.intro,xws⟩
 |.tup l,v,u,h,r=>by obtain ⟨a,vs,rfl,h1,h2⟩:=zb5 h;cases r;obtain ⟨its,rv,⟨o,e,c,k,dd⟩,_⟩:=I.tuple h1;exact ⟨_,W.kitx_tuple,⟨o,e,c⟩,xws⟩
 |.lst l,v,u,h,r=>by obtain ⟨a,vs,rfl,h1,h2⟩:=zbi h;cases r;obtain ⟨its,rv,⟨o,k,e,c,_,dd⟩,_⟩:=I.list (SqL.of h1);exact ⟨_,W.kitx_list,⟨o,e,c⟩,xws⟩
 |.dct _,v,u,h,r=>by
  unfold Rep at h;obtain ⟨a,rfl,h1⟩:=h;cases r;obtain ⟨_,_,vs,_,o,es,ep,e1,e2,_⟩:=(show zc2 X.prog X.w H s.heap a (.dK _) from I.hok a _ h1)
  exact ⟨_,W.kitx_dict,⟨o,e1,e2.1⟩,xws⟩
 |.scr l,v,u,h,r=>by obtain ⟨a,rfl,h1⟩:=zk4 h;cases r;obtain ⟨its,rv,⟨o,k,e,c,_,dd⟩,_⟩:=I.list h1;exact ⟨_,W.kitx_list,⟨o,e,c⟩,xws⟩
end
def zhx(T:String):Prop:=∀(K:W.Frag)(t:String),t∈["NoneType","bool","int","str","tuple","list","dict"]->W.kitOne K (.type t) (.type T)=some (zhX t T)
theorem zk6(d:Dt):tyD d∈["NoneType","bool","int","str","tuple","list","dict"]:=by cases d <;> simp[tyD]
theorem zok:zhx "int":=λK t h=>by simp only[wap,wak,or_false] at h;rcases h with rfl|rfl|rfl|rfl|rfl|rfl|rfl <;> rfl
theorem zgr:zhx "bool":=λK t h=>by simp only[wap,wak,or_false] at h;rcases h with rfl|rfl|rfl|rfl|rfl|rfl|rfl <;> rfl
theorem zbl:zhx "tuple":=λK t h=>by simp only[wap,wak,or_false] at h;rcases h with rfl|rfl|rfl|rfl|rfl|rfl|rfl <;> rfl
theorem zhR:zhx "list":=λK t h=>by simp only[wap,wak,or_false] at h;rcases h with rfl|rfl|rfl|rfl|rfl|rfl|rfl <;> rfl
def zcU(T:String)(fa:De):De:=λZ=>(fa Z).bind λa=>.ok (.bl (zhX (tyD a.1) T),a.2)
def zsa(T U:String)(fa:De):De:=λZ=>(fa Z).bind λa=>.ok (.bl (zhX (tyD a.1) T || zhX (tyD a.1) U),a.2)
section
variable{X:Cx}{C:Cn}{e:Expr}{fa:De}{p p2 pos:Pos}
theorem zoR{T:String}(ok:zhx T):zcN X (.builtin "isinstance") (λxs H Q=>∃ d v,xs=[v,.ty T]/\Rep X.K H d v/\Q (.bl (zhX (tyD d) T)) H):=by intro pS s Y H xs us Q I r h;obtain ⟨d,v,rfl,h1,q⟩:=h;obtain ⟨u,w',rfl,r1,r2⟩:=zk8 r;cases r2;obtain ⟨P,Zq,hp,hx⟩:=zqG I h1 r1;exact W.kia_one Zq I.kIn hp (ok X.K (tyD d) (zk6 d)) hx λtk=>⟨.bl _,H,I.tok tk,rfl,q⟩
theorem zmU{T U:String}(ok:zhx T)(ok2:zhx U):zcN X (.builtin "isinstance") (λxs H Q=>∃ d v a,xs=[v,.ref a]/\Rep X.K H d v/\SqT X.K H a [.ty T,.ty U]/\Q (.bl (zhX (tyD d) T || zhX (tyD d) U)) H):=by
 intro pS s Y H xs us Q I r h;obtain ⟨d,v,a,rfl,h1,ha,q⟩:=h;obtain ⟨u,w',rfl,r1,r2⟩:=zk8 r;cases r2;obtain ⟨P,Zq,hp,hx⟩:=zqG I h1 r1;obtain ⟨its,rv,⟨o,e,c,k,dd⟩,_⟩:=I.tuple ha;obtain ⟨x1,x2,rfl,q1,q2⟩:=zk8 rv;cases q1;cases q2;obtain ⟨oc,od,odt,osl⟩:=o;simp only at c dd;subst c dd;refine W.kia_tup (its:=[Value.type T,Value.type U]) (b:=zhX (tyD d) T || zhX (tyD d) U) Zq I.kIn hp e ?_ hx λtk=>⟨.bl _,H,I.tok tk,rfl,q⟩
 unfold W.kitAny;rw[ok X.K (tyD d) (zk6 d)];cases zhX (tyD d) T with
 |true=>rfl
 |false =>
  simp only[W.kitAny,ok2 X.K (tyD d) (zk6 d)];cases zhX (tyD d) U <;> rfl
theorem zbP{T:String}{x2:Str}(ok:zhx T)(hg:Gl X "isinstance")(hm:X.mg "isinstance"=none)(hv:bootBuiltins "isinstance"=some (.builtin "isinstance"))(hg2:Gl X x2)(hm2:X.mg x2=none)(hv2:bootBuiltins x2=some (.type T))(ha:JE X C e fa)
  (hn:("isinstance" : Str)≠"__name__":=by decide) (hdb:(("isinstance" : Str) == ("__debug__" : Str))=false:=by decide) (hn2:x2≠"__name__":=by decide) (hdb2:(x2 == ("__debug__" : Str))=false:=by decide)
  (hs:starEach [e,.Name x2 p2] X.env=(false,eval e X.env)::starEach [.Name x2 p2] X.env:=by rfl) (hs2:starEach [.Name x2 p2] X.env=(false,eval (.Name x2 p2) X.env)::starEach [] X.env:=by rfl) (hpl:(backTo pos (starEach [.Name x2 p2] X.env)).any (·.1)=false:=by rfl) :
  JE X C (.Call (.Name "isinstance" p) [e,.Name x2 p2] [] pos) (zcU T fa) :=
 PE.weak (zd9 (zoR ok) hg hm hv (zbk ha (zbk (ziT (v:=.ty T) hg2 hm2 hv2 rfl hn2 hdb2) zcR hs2) hs) hn hdb hs hpl) λY H Q ⟨G,w,Z,r,p⟩=>by refine zfa (κ:=λG H w=>kE X.K C Y Q G H w) zc3 r p λd Z1 v G1 H1 w1 r1 s1 q1 p1=>?_;exact ⟨d,v,rfl,q1.same r1.gh,p1 _ G1 H1 w1 (.refl _ _ _) r1 (zbF _)⟩
theorem zsD{T U:String}{x2 x3:Str}{p3 pt:Pos}{kt}(ok:zhx T)(ok2:zhx U)(hg:Gl X "isinstance")(hm:X.mg "isinstance"=none)(hv:bootBuiltins "isinstance"=some (.builtin "isinstance"))(hg2:Gl X x2)(hm2:X.mg x2=none)(hv2:bootBuiltins x2=some (.type T))(hg3:Gl X x3)(hm3:X.mg x3=none)(hv3:bootBuiltins x3=some (.type U))(ha:JE X C e fa)
  (hn:("isinstance" : Str)≠"__name__":=by decide) (hdb:(("isinstance" : Str) == ("__debug__" : Str))=false:=by decide) (hn2:x2≠"__name__":=by decide) (hdb2:(x2 == ("__debug__" : Str))=false:=by decide) (hn3:x3≠"__name__":=by decide) (hdb3:(x3 == ("__debug__" : Str))=false:=by decide)
  (hs:starEach [e,.Tuple [.Name x2 p2,.Name x3 p3] kt pt] X.env=(false,eval e X.env)::starEach [.Tuple [.Name x2 p2,.Name x3 p3] kt pt] X.env:=by rfl) (hs2:starEach [.Tuple [.Name x2 p2,.Name x3 p3] kt pt] X.env=(false,eval (.Tuple [.Name x2 p2,.Name x3 p3] kt pt) X.env)::starEach [] X.env:=by rfl) (hpl:(backTo pos (starEach [.Tuple [.Name x2 p2,.Name x3 p3] kt pt] X.env)).any (·.1)=false:=by rfl)
  (hs3:starEach [.Name x2 p2,.Name x3 p3] X.env=(false,eval (.Name x2 p2) X.env)::starEach [.Name x3 p3] X.env:=by rfl) (hs4:starEach [.Name x3 p3] X.env=(false,eval (.Name x3 p3) X.env)::starEach [] X.env:=by rfl) :
  JE X C (.Call (.Name "isinstance" p) [e,.Tuple [.Name x2 p2,.Name x3 p3] kt pt] [] pos) (zsa T U fa) :=
 PE.weak (zd9 (zmU ok ok2) hg hm hv (zbk ha (zbk (zqL (zbk (ziT (v:=.ty T) hg2 hm2 hv2 rfl hn2 hdb2) (zbk (ziT (v:=.ty U) hg3 hm3 hv3 rfl hn3 hdb3) zcR hs4) hs3)) zcR hs2) hs) hn hdb hs hpl) λY H Q ⟨G,w,Z,r,p⟩=>by refine zfa (κ:=λG H w=>kE X.K C Y Q G H w) zc3 r p λd Z1 v G1 H1 w1 r1 s1 q1 p1=>?_;refine ⟨by show 2<=sizeLine;decide,λa ha=>?_⟩;have gr:ze9 G1 H1 G1 (upd H1 a (.tup [.ty T,.ty U])):=.newH r1.gh ha;exact ⟨d,v,a,rfl,(q1.same r1.gh).same gr.h,SqT.of zan,p1 _ G1 _ w1 gr.step (r1.grow gr) (zbF _)⟩
def gIx:Dt->Dt->R Dt
 |.lst l,.int i=>match atI l i with
  |some d=>.ok d
  |none=>.no
 |.tup l,.int i=>match atI l i with
  |some d=>.ok d
  |none=>.no
 |.scr l,.int i=>match atI l i with
  |some d=>.ok (.int d)
  |none=>.no
 |_,_=>.no
theorem zsc{α β:Type}{f:α->β}{l:List α}{i:Int}{d:α}(ed:atI l i=some d):atI (l.map f) i=some (f d):=by
 unfold atI at ed ⊢;rw[List.length_map];cases q:ixN l.length i with
 |none=>rw[q] at ed;cases ed
 |some j =>
  rw[q] at ed;simp only[Option.bind_some] at ed ⊢;rw[List.getElem?_map,ed];rfl
theorem ztP{K:W.Frag}:Op2 K (λx y H Q=>rIxL K x y H Q\/rIxT K x y H Q) gIx:=λG H x y dx dy z Q gh hx hy e k=>by
 unfold gIx at e;split at e
 ·split at e
  ·rename_i d ed;cases e;obtain ⟨a,vs,rfl,h1,h2⟩:=zbi hx;obtain ⟨v,e1,e2⟩:=zhM h2 ed;exact .inl ⟨a,vs,_,v,rfl,zay hy,SqL.of (gh _ _ h1),e1,k v G H (.refl gh) e2⟩
  ·cases e
 ·split at e
  ·rename_i d ed;cases e;obtain ⟨a,vs,rfl,h1,h2⟩:=zb5 hx;obtain ⟨v,e1,e2⟩:=zhM h2 ed;exact .inr ⟨a,vs,_,v,rfl,zay hy,za8 gh h1,e1,k v G H (.refl gh) e2⟩
  ·cases e
 ·split at e
  ·rename_i d ed;cases e;obtain ⟨a,rfl,h1⟩:=zk4 hx;exact .inl ⟨a,_,_,.int d,rfl,zay hy,gh.seq h1,zsc ed,k _ G H (.refl gh) (zaD _)⟩
  ·cases e
 ·cases e
theorem zsv:zgt gIx:=λx y n h=>by unfold gIx at h;split at h <;> first|cases h|(split at h <;> cases h)
theorem zaO{a b:Expr}{fa fb:De}(ha:JE X C a fa)(hb:JE X C b fb)(hs:zk7 b:=by exact λ_ _=>rfl):JE X C (.Subscript a b pos) (dOp gIx fa fb) :=
 PE.weak (ztr (zna.or zsQ) ha hb hs) λY H Q h=>ziP ztP zsv h
end
theorem Rel.mutate{K:W.Frag}{C:Cn}{Y:L2.St}{G H:Hp}{w:Wn}{Z:Ev}{i:Nat}{ds ds':List Dt}{a:Addr}{vs':List V}(r:Rel K C G w Z Y H)(hi:Z[i]? = some (some (.own ds)))(hv:Y[i]? = some (some (.ref a)))(hw:w a=some i)(h':za1 K G ds' vs') :
  Rel K C G w (Z.set i (some (.own ds'))) Y (upd H a (.lst vs'))/\zbB G H w G (upd H a (.lst vs')) w:=by
 have ga:G a=none:=r.wg a (by rw[hw];simp);have st:zbB G H w G (upd H a (.lst vs')) w:=by
  refine ⟨.refl _,λb o e=>.inl (by rw[e];simp),λb o e z=>?_,λ_ e=>.inl e,λb e=>?_⟩
  ·have:b≠a:=λq=>by subst q;rw[hw] at z;cases z
   rw[zaj this];exact e
  ·by_cases hb:b=a
   ·subst hb;rw[zan] at e;cases e
   ·rw[zaj hb] at e;exact e
 refine ⟨⟨λb o e=>?_,r.wg,λb e=>?_,by simpa using r.len,λj b e=>?_,r.en.trans st,r.pin⟩,st⟩
 ·rw[zaj (zak e ga)];exact r.gh b o e
 ·by_cases hb:b=a
  ·subst hb;rw[zan];simp
  ·rw[zaj hb];exact r.wh b e
 ·by_cases hj:j=i
  ·subst hj;rw[List.getElem?_set_self (List.getElem?_eq_some_iff.mp hi).1] at e;cases e;exact ⟨_,hv,a,vs',rfl,hw,zan,h'⟩
  ·rw[List.getElem?_set_ne (Ne.symm hj)] at e;obtain ⟨v',h1,h2⟩:=r.sl j b e;refine ⟨v',h1,h2.grow (.refl _) λb' o e1 e2=>⟨?_,e1⟩⟩;have:b'≠a:=λz=>by subst z;rw[hw] at e1;exact hj (waB e1).symm
   rw[zaj this];exact e2
section
variable{X:Cx}{C:Cn}{e:Expr}{fa:De}{pos ps apos:Pos}{x:Str}
theorem zef{K:W.Frag}{Y:L2.St}{G H:Hp}{w:Wn}{Z:Ev}{i:Nat}{ds:List Dt}(r:Rel K C G w Z Y H)(e:Z[i]? = some (some (.own ds))):∃ a vs,Y[i]? = some (some (.ref a))/\w a=some i/\H a=some (.lst vs)/\za1 K G ds vs:=by obtain ⟨v,h1,a,vs,rfl,h2,h3,h4⟩:=r.sl i _ e;exact ⟨a,vs,h1,h2,h3,h4⟩
def zhm(i:Nat)(fa:De):De:=λZ=>match Z[i]? with
 |some (some (.own _))=>(fa Z).bind λa=>match a.2[i]? with
  |some (some (.own ds))=>if ds.length<16777216 then .ok (.non,a.2.set i (some (.own (ds++[a.1])))) else .no
  |_=>.no
 |_=>.no
theorem zeH:sizeLine=16777216:=by decide
theorem zo0(i:Nat)(ha:JE X C e fa)(hN:X.N[i]? = some x:=by rfl)(hv:Vis X.env.scope x:=by exact xwV)(hd:(x == ("__debug__" : Str))=false:=by decide)(hcd:(x == ("__classdict__" : Str))=false:=by decide)
  (hbase:attributeBase (.Name x ps) "append" X.env (eval (.Name x ps) X.env)=eval (.Name x ps) X.env:=by rfl)
  (hfew:((backTo pos (starEach [e] X.env)).all (λx=>!x.1) && (backToKw pos (keywordEach [] X.env)).all (λx=>x.1.isSome) && decide ([e].length+([]:List Keyword).length+(if ([]:List Keyword).isEmpty then 0 else 1)<30))=true:=by rfl)
  (hline:(apos.endLine == pos.line)=true:=by rfl) (hs:starEach [e] X.env=(false,eval e X.env)::starEach [] X.env:=by rfl) (hplain:(backTo pos (starEach [] X.env)).any (·.1)=false:=by rfl) :
  JE X C (.Call (.Attribute (.Name x ps) "append" apos) [e] [] pos) (zhm i fa) :=
 PE.weak (zp6 PySem.F.plainAttrs_list PySem.F.slot_list_append PySem.F.type_list_append zhb (zcb hN hv hd hcd) (zbk ha zcR hs) hbase hfew hline hs hplain) λY H Q ⟨G,w,Z,r,p⟩=>by
  unfold zhm at p;split at p
  ·rename_i ds0 e0;obtain ⟨a,vs,h1,h2,h3,h4⟩:=zef r e0;refine ⟨.ref a,h1,.inl ⟨rfl,vs,SqL.of h3⟩,?_⟩;refine zfa (κ:=λG H w=>kE X.K C Y Q G H w) zc3 r p λd Z1 v G1 H1 w1 r1 s1 q1 p1=>?_;dsimp only at p1;split at p1
   ·rename_i ds e1;obtain ⟨a',vs',k1,k2,k3,k4⟩:=zef r1 e1;rw[h1] at k1;cases k1;split at p1
    ·rename_i hl;obtain ⟨r',s'⟩:=r1.mutate e1 h1 k2 (k4.append (za1.cons q1 za1.nil));exact ⟨a,vs',v,rfl,rfl,k3,by rw[<- k4.length,zeH];exact hl,p1 _ _ _ _ s' r' (by unfold Rep;rfl)⟩
    ·exact p1.elim
   ·exact p1.elim
  ·exact p.elim
def zqk(ds:List Dt)(k:Int):Option (Dt×List Dt):=if zcO k=true then match ixN ds.length k with
  |some j=>match ds[j]? with
   |some d=>some (d,ds.eraseIdx j)
   |none=>none
  |none=>none
 else none
def zhE(i:Nat)(fa:De):De:=λZ=>match Z[i]? with
 |some (some (.own _))=>(fa Z).bind λa=>match a.2[i]?,a.1 with
  |some (some (.own ds)),.int k=>match zqk ds k with
   |some z=>.ok (z.1,a.2.set i (some (.own z.2)))
   |none=>.no
  |_,_=>.no
 |_=>.no
theorem zpe(i:Nat)(ha:JE X C e fa)(hN:X.N[i]? = some x:=by rfl)(hv:Vis X.env.scope x:=by exact xwV)(hd:(x == ("__debug__" : Str))=false:=by decide)(hcd:(x == ("__classdict__" : Str))=false:=by decide)
  (hbase:attributeBase (.Name x ps) "pop" X.env (eval (.Name x ps) X.env)=eval (.Name x ps) X.env:=by rfl)
  (hfew:((backTo pos (starEach [e] X.env)).all (λx=>!x.1) && (backToKw pos (keywordEach [] X.env)).all (λx=>x.1.isSome) && decide ([e].length+([]:List Keyword).length+(if ([]:List Keyword).isEmpty then 0 else 1)<30))=true:=by rfl)
  (hline:(apos.endLine == pos.line)=true:=by rfl) (hs:starEach [e] X.env=(false,eval e X.env)::starEach [] X.env:=by rfl) (hplain:(backTo pos (starEach [] X.env)).any (·.1)=false:=by rfl) :
  JE X C (.Call (.Attribute (.Name x ps) "pop" apos) [e] [] pos) (zhE i fa) :=
 PE.weak (zp6 PySem.F.plainAttrs_list PySem.F.slot_list_pop PySem.F.type_list_pop zoF (zcb hN hv hd hcd) (zbk ha zcR hs) hbase hfew hline hs hplain) λY H Q ⟨G,w,Z,r,p⟩=>by
  unfold zhE at p;split at p
  ·rename_i ds0 e0;obtain ⟨a,vs,h1,h2,h3,h4⟩:=zef r e0;refine ⟨.ref a,h1,.inl ⟨rfl,vs,SqL.of h3⟩,?_⟩;refine zfa (κ:=λG H w=>kE X.K C Y Q G H w) zc3 r p λd Z1 v G1 H1 w1 r1 s1 q1 p1=>?_;dsimp only at p1;split at p1
   ·rename_i ds k e1;obtain ⟨a',vs',k1,k2,k3,k4⟩:=zef r1 e1;rw[h1] at k1;cases k1;split at p1
    ·rename_i z ez;unfold zqk at ez;split at ez
     ·rename_i hb;split at ez
      ·rename_i j ej;split at ez
       ·rename_i d ed;cases ez;obtain ⟨j1,j2,j3,j4⟩:=zld ej;obtain ⟨y,y1,y2⟩:=k4.get ed;obtain ⟨r',s'⟩:=r1.mutate e1 h1 k2 (k4.eraseIdx j);have hl:=k4.length;obtain ⟨b1,b2⟩:=zcV hb;exact ⟨a,vs',k,j,y,rfl,by rw[zay q1],k3,xwl,xwl,by rw[<- hl];exact j1,y1,p1 _ _ _ _ s' r' y2⟩
       ·cases ez
      ·cases ez
     ·cases ez
    ·exact p1.elim
   ·exact p1.elim
  ·exact p.elim
end
theorem zrW{X:Cx}{pS:List (Addr×Obj)}{Y:L2.St}{H:Hp}{s:Shared}{a:Addr}{xs:List V}(I:L2.Inv X pS Y H s)(h:zhJ X.K H a xs):∃(its:List Value)(n:Nat),zba xs its/\s.heap.get? a=some { cls:=.type "tuple",data:=.seq its.toArray n }/\xs.length<=sizeLine:=by
 rcases h with h|⟨its,n,h1,h2,h3⟩
 ·obtain ⟨z,its,r,n,e⟩:=(show zc2 X.prog X.w H s.heap a (.tup xs) from I.hok a _ h)
  exact ⟨its,n,r,e,z⟩
 ·refine ⟨its.toList,n,h3,by simpa using I.kIn a _ h1,?_⟩;have:=h3.length;simp only[Array.length_toList] at this;lia
def ztL(K:W.Frag):V->List V->Hp->VK->Prop:=λx vs H Q=>∃ l b xs zs,x=.ref l/\vs=[.ref b]/\H l=some (.lst xs)/\zhJ K H b zs/\xs.length+zs.length<=sizeLine/\Q .non (upd H l (.lst (xs++zs)))
section
variable{X:Cx}
theorem zmn:MtM X "list.extend" (ztL X.K):=by
 intro pS s Y H x vs v us Q I rx rv h;obtain ⟨l,b,xs,zs,rfl,rfl,hH,hB,hz,q⟩:=h;cases rx;obtain ⟨u,rfl,ru⟩:=zba.one rv;cases ru;obtain ⟨z,its,n,r,hl,e⟩:=I.lstM hH;obtain ⟨its2,n2,r2,e2,z2⟩:=zrW I hB;have hl2:=r2.length;have hsz:its.toArray.size+its2.toArray.size<=sizeLine:=by rw[List.size_toArray,List.size_toArray];lia
 have hlong:¬ (!its.toArray.isEmpty && Builtin.List.listTooLong (its.toArray.size+its2.toArray.size))=true:=by rw[zhN hsz,Bool.and_false];exact Bool.false_ne_true
 refine PySem.call_meets F.slot_list_extend ⟨_,e,rfl⟩ F.entry_list_extend (F.args_list_extend_2 _ _)
  (AutoSeq1.list_extend_list_tuple_0 l its.toArray n b its2.toArray n2 hlong (by rw[List.size_toArray];lia) xwl) ⟨e,e2,?_⟩
 refine ⟨.non,_,I.lset (its':=its++its2) hH e xws (r.append r2) ?_,rfl,q⟩;rw[List.length_append];lia
theorem MtM.or{id:String}{r r':V->List V->Hp->VK->Prop}(h:MtM X id r)(h':MtM X id r'):MtM X id (λx xs H Q=>r x xs H Q\/r' x xs H Q):=by
 intro pS s Y H x xs v us Q I rx rs q;rcases q with q|q
 ·exact h pS s Y H x xs v us Q I rx rs q
 ·exact h' pS s Y H x xs v us Q I rx rs q
variable{C:Cn}{e:Expr}{fa fb:De}{pos ps apos:Pos}{x:Str}
def zrf:Dt->Option (List Dt)
 |.lst l=>some l
 |.tup l=>some l
 |_=>none
def zki(i:Nat)(fa:De):De:=λZ=>match Z[i]? with
 |some (some (.own _))=>(fa Z).bind λa=>match a.2[i]?,zrf a.1 with
  |some (some (.own ds)),some l=>if ds.length+l.length<=16777216 then .ok (.non,a.2.set i (some (.own (ds++l)))) else .no
  |_,_=>.no
 |_=>.no
theorem zkC(i:Nat)(ha:JE X C e fa)(hN:X.N[i]? = some x:=by rfl)(hv:Vis X.env.scope x:=by exact xwV)(hd:(x == ("__debug__" : Str))=false:=by decide)(hcd:(x == ("__classdict__" : Str))=false:=by decide)
  (hbase:attributeBase (.Name x ps) "extend" X.env (eval (.Name x ps) X.env)=eval (.Name x ps) X.env:=by rfl)
  (hfew:((backTo pos (starEach [e] X.env)).all (λx=>!x.1) && (backToKw pos (keywordEach [] X.env)).all (λx=>x.1.isSome) && decide ([e].length+([]:List Keyword).length+(if ([]:List Keyword).isEmpty then 0 else 1)<30))=true:=by rfl)
  (hline:(apos.endLine == pos.line)=true:=by rfl) (hs:starEach [e] X.env=(false,eval e X.env)::starEach [] X.env:=by rfl) (hplain:(backTo pos (starEach [] X.env)).any (·.1)=false:=by rfl) :
  JE X C (.Call (.Attribute (.Name x ps) "extend" apos) [e] [] pos) (zki i fa) :=
 PE.weak (zp6 PySem.F.plainAttrs_list PySem.F.slot_list_extend PySem.F.type_list_extend (MtM.or znn zmn) (zcb hN hv hd hcd) (zbk ha zcR hs) hbase hfew hline hs hplain) λY H Q ⟨G,w,Z,r,p⟩=>by
  unfold zki at p;split at p
  ·rename_i ds0 e0;obtain ⟨a,vs,h1,h2,h3,h4⟩:=zef r e0;refine ⟨.ref a,h1,.inl ⟨rfl,vs,SqL.of h3⟩,?_⟩;refine zfa (κ:=λG H w=>kE X.K C Y Q G H w) zc3 r p λd Z1 v G1 H1 w1 r1 s1 q1 p1=>?_;dsimp only at p1;split at p1
   ·rename_i ds l e1 el;obtain ⟨a',vs',k1,k2,k3,k4⟩:=zef r1 e1;rw[h1] at k1;cases k1;split at p1
    ·rename_i hl;cases d with
     |lst l' =>
      cases el;obtain ⟨b,us,rfl,b1,b2⟩:=zbi q1;obtain ⟨r',s'⟩:=r1.mutate e1 h1 k2 (k4.append b2);exact .inl ⟨a,b,vs',us,rfl,rfl,k3,r1.gh _ _ b1,by rw[<- k4.length,<- b2.length,zeH];exact hl,p1 _ _ _ _ s' r' (by unfold Rep;rfl)⟩
     |tup l' =>
      cases el;obtain ⟨b,us,rfl,b1,b2⟩:=ze4 q1;obtain ⟨r',s'⟩:=r1.mutate e1 h1 k2 (k4.append b2);exact .inr ⟨a,b,vs',us,rfl,rfl,k3,b1.same r1.gh,by rw[<- k4.length,<- b2.length,zeH];exact hl,p1 _ _ _ _ s' r' (by unfold Rep;rfl)⟩
     |_=>cases el
    ·exact p1.elim
   ·exact p1.elim
  ·exact p.elim
def zm8(i:Nat):De:=λZ=>match Z[i]? with
 |some (some (.own ds))=>.ok (.int ds.length,Z)
 |_=>.no
theorem zs2(i:Nat){p:Pos}(hg:Gl X "len")(hm:X.mg "len"=none)(hN:X.N[i]? = some x:=by rfl)(hv:Vis X.env.scope x:=by exact xwV)(hd:(x == ("__debug__" : Str))=false:=by decide)(hcd:(x == ("__classdict__" : Str))=false:=by decide)
  (hs:starEach [.Name x ps] X.env=(false,eval (.Name x ps) X.env)::starEach [] X.env:=by rfl) (hpl:(backTo pos (starEach [] X.env)).any (·.1)=false:=by rfl):JE X C (.Call (.Name "len" p) [.Name x ps] [] pos) (zm8 i) :=
 PE.weak (zd9 zfW hg hm PySem.boot_len (zbk (zcb hN hv hd hcd) zcR hs) xwd xwd hs hpl) λY H Q ⟨G,w,Z,r,p⟩=>by
  unfold zm8 at p;split at p
  ·rename_i ds e0;obtain ⟨a,vs,h1,h2,h3,h4⟩:=zef r e0;exact ⟨.ref a,h1,a,vs,rfl,.inl (SqL.of h3),by rw[<- h4.length];exact p _ G H w (.refl _ _ _) r (zaD _)⟩
  ·exact p.elim
def zsI(neg:Bool)(i:Nat)(fb:De):De:=λZ=>match Z[i]? with
 |some (some (.own _))=>(fb Z).bind λb=>match b.2[i]? with
  |some (some (.own ds))=>(gEq neg (.lst ds) b.1).bind λz=>.ok (z,b.2)
  |_=>.no
 |_=>.no
theorem zpA{neg:Bool}{i:Nat}{Y:L2.St}{H:Hp}{Q:VK}(h:tE X.K C (zsI neg i fb) Y H Q):tOp (zu3 X.K neg) (zu6 i) (tE X.K C fb) Y H Q:=by
 obtain ⟨G,w,Z,r,p⟩:=h;unfold zsI at p;split at p
 ·rename_i ds0 e0;obtain ⟨a,vs,h1,h2,h3,h4⟩:=zef r e0;refine ⟨.ref a,h1,?_⟩;refine zfa (κ:=λG H w=>kE X.K C Y Q G H w) zc3 r p λd Z1 v G1 H1 w1 r1 s1 q1 p1=>?_;dsimp only at p1;split at p1
  ·rename_i ds e1;obtain ⟨a',vs',k1,k2,k3,k4⟩:=zef r1 e1;rw[h1] at k1;cases k1;unfold gEq at p1;split at p1
   ·rename_i hk;rw[Bool.and_eq_true] at hk;exact ⟨.lst ds,d,by unfold Rep;exact ⟨a,vs',rfl,k3,k4.same r1.gh⟩,q1.same r1.gh,hk.1,hk.2,p1 _ G1 H1 w1 (.refl _ _ _) r1 (zbF _)⟩
   ·exact p1.elim
  ·exact p1.elim
 ·exact p.elim
variable{b:Expr}
theorem ztv(i:Nat)(hu:X.A.units+64<cLine)(hb:JE X C b fb)(hN:X.N[i]? = some x:=by rfl)(hv:Vis X.env.scope x:=by exact xwV)(hd:(x == ("__debug__" : Str))=false:=by decide)(hcd:(x == ("__classdict__" : Str))=false:=by decide) :
  JT X C (.Compare (.Name x ps) [.NotEq] [b] pos) (dTB (zsI true i fb)):=PT.weak (zod (zra hu) (zcb hN hv hd hcd) hb (zdY _)) λY H Q h=>zpA (ziJ h)
def zoi(i:Nat)(fv fk:De):DS:=λZ=>(fv Z).bind λv=>match v.2[i]? with
 |some (some (.own _))=>(fk v.2).bind λk=>match k.2[i]?,k.1 with
  |some (some (.own ds)),.int n=>match ixN ds.length n with
   |some j=>.ok (.nx,k.2.set i (some (.own (ds.set j v.1))))
   |none=>.no
  |_,_=>.no
 |_=>.no
theorem zmQ(i:Nat){k:Expr}{fk:De}{tp:Pos}(hv:JE X C e fa)(hk:JE X C k fk)(hN:X.N[i]? = some x:=by rfl)(hvi:Vis X.env.scope x:=by exact xwV)(hd:(x == ("__debug__" : Str))=false:=by decide)(hcd:(x == ("__classdict__" : Str))=false:=by decide)
  (ha:∀ v,assign (.Subscript (.Name x ps) k tp) X.env v=(do
   let ov <- holding [v] (eval (.Name x ps) X.env);let iv <- holding [v,ov] (eval k X.env)
   standAt tp
   holding [v,ov,iv] (setItem ov iv v)
   release [v,ov,iv] []):=by intro _;rfl)
  (hs:swapsWithSole [.Subscript (.Name x ps) k tp] e pos.line X.env=pure false:=by rfl) (hw:swappedStores [.Subscript (.Name x ps) k tp] e X.env=pure none:=by rfl)
  (h1:(assignEach [.Subscript (.Name x ps) k tp] X.env).map (·.2)=[assign (.Subscript (.Name x ps) k tp) X.env]:=by rfl):JS X C (.Assign [.Subscript (.Name x ps) k tp] e pos) (zoi i fa fk) :=
 PS.weak (zqI hv (ztH (zcb hN hvi hd hcd) hk zpm ha) hs hw h1) λD Y H ⟨G,w,Z,r,p⟩=>by
  refine zfa (κ:=λG H w=>kS X.K C D G H w) zdK r p λd Z1 v G1 H1 w1 r1 s1 q1 p1=>?_;dsimp only at p1;split at p1
  ·rename_i ds0 e0;obtain ⟨a,vs,k1,k2,k3,k4⟩:=zef r1 e0;refine ⟨.ref a,k1,?_⟩;refine zfa (κ:=λG H w=>kS X.K C D G H w) zdK r1 p1 λd2 Z2 v2 G2 H2 w2 r2 s2 q2 p2=>?_;dsimp only at p2;split at p2
   ·rename_i ds n e2;obtain ⟨a',vs',m1,m2,m3,m4⟩:=zef r2 e2;rw[k1] at m1;cases m1;split at p2
    ·rename_i j ej;obtain ⟨r',s'⟩:=r2.mutate e2 k1 m2 (za1.set (q1.same s2.g) j m4);exact ⟨a,vs',n,j,rfl,zay q2,m3,by rw[<- m4.length];exact ej,p2 _ _ _ _ s' r'⟩
    ·exact waP p2
   ·exact waP p2
  ·exact waP p1
end
theorem zew{env:Env}:∀(names:List (Str×NameKind))(cs:List (Str×Addr)),(∀ y∈names,y.2=.free->∃ c,env.cells.lookup y.1=some c)->(∀ x c,cs.lookup x=some c->env.cells.lookup x=some c) ->
  ∃ cl,(forIn names cs λ(y:Str×NameKind) (r:List (Str×Addr))=>(if (y.2 == NameKind.free)=true then do let a <- cellOf env y.1;pure (ForInStep.yield ((y.1,a)::r)) else pure (ForInStep.yield r):Sem (ForInStep (List (Str×Addr)))))=pure cl /\
   (∀ x c,cl.lookup x=some c->env.cells.lookup x=some c)/\(∀ x c,cs.lookup x=some c->∃ c',cl.lookup x=some c')/\∀ y∈names,y.2=.free->∃ c,cl.lookup y.1=some c
 |[],cs,_,h2=>⟨cs,rfl,h2,λx c e=>⟨c,e⟩,λy hy=>by cases hy⟩
 | (n,k)::r,cs,h1,h2=>by
  rw[List.forIn_cons];by_cases hk:k=.free
  ·subst hk;obtain ⟨c,hc⟩:=h1 (n,.free) wau rfl;obtain ⟨cl,e1,e2,e3,e4⟩:=zew r ((n,c)::cs) (λy hy=>h1 y (wah _ hy)) (λx c' e=>by
    rw[List.lookup_cons] at e;cases hx:x == n with
    |true=>rw[hx] at e;simp only[Option.some.injEq] at e;subst e;rw[beq_iff_eq.mp hx];exact hc
    |false=>rw[hx] at e;exact h2 x c' e)
   refine ⟨cl,?_,e2,λx c' e=>?_,λy hy hf=>?_⟩
   ·simp only[beq_self_eq_true,if_true];have:cellOf env n=pure c:=by unfold cellOf;rw[hc]
    rw[this];exact e1
   ·refine (e3 x (if x == n then c else c') ?_);rw[List.lookup_cons];cases hx:x == n with
    |true=>rfl
    |false=>exact e
   ·rcases wap.mp hy with rfl|hy
    ·exact e3 n c (by simp[List.lookup_cons])
    ·exact e4 y hy hf
  ·obtain ⟨cl,e1,e2,e3,e4⟩:=zew r cs (λy hy=>h1 y (wah _ hy)) h2;refine ⟨cl,?_,e2,e3,λy hy hf=>?_⟩
   ·have:(k == NameKind.free)=false:=by simpa using hk
    simp only[this,Bool.false_eq_true,if_false];exact e1
   ·rcases wap.mp hy with rfl|hy
    ·exact absurd hf hk
    ·exact e4 y hy hf
theorem zdp{scope:Scope}{env:Env}(h:∀ y∈scope.names,y.2=.free->∃ c,env.cells.lookup y.1=some c):∃ cl,closureFor scope env=pure cl/\(∀ x c,cl.lookup x=some c->env.cells.lookup x=some c)/\∀ y∈scope.names,y.2=.free->∃ c,cl.lookup y.1=some c:=by obtain ⟨cl,e1,e2,_,e4⟩:=zew (env:=env) scope.names [] h (λx c e=>by simp at e);refine ⟨cl,?_,e2,e4⟩;unfold closureFor;exact (congrArg (λz:Sem (List (Str×Addr))=>z >>= λcs=>pure cs) e1).trans rfl
section
variable{prog:Program}{w:World}{A:Around}{R:Result->Shared->Prop}{s:Shared}
theorem zjH{elt target iter:Expr}{ifs:List Expr}{scope:Scope}{pos:Pos}{it acc:Value}{env:Env}(I:Nat->Shared->Prop)
  (turn:∀ n s,I n s->wpAny (model prog w) A (pyNext it) (λr s₁=>match r with
   |none=>R (.ok .next) s₁
   |some v=>wpAny (model prog w) A (letOwnedTupleGo target it v) (λ_ s₁'=>wpAny (model prog w) A (assign target env v) (λ_ s₂ =>
     wpAny (model prog w) A (forIn ifs true λc r=>if r=true then do let ok <- isTrue c env (eval c env);pure (ForInStep.yield ok) else pure (ForInStep.yield r)) (λok s₃ =>
      if ok=true then wpAny (model prog w) A (eval elt env) (λx s₄ =>
       wpAny (model prog w) A (call (.builtin "list.append") [acc,x]) (λ_ s₅=>∃ m,m<n/\I m s₅) (λ_ _=>False) s₄) (λ_ _=>False) s₃
      else ∃ m,m<n/\I m s₃) (λ_ _=>False) s₂) (λ_ _=>False) s₁') (λ_ _=>False) s₁) (λ_ _=>False) s)
  (n:Nat) (h:I n s) :
  codeAny (model prog w) A (.compLoop (.ListComp elt [⟨target,iter,ifs,0⟩] scope pos) 0 it acc env) R s:=by
 refine codeAny_loop rfl I (λn s hI=>?_) n h;show wpAny _ A ((compTurn (.ListComp elt [⟨target,iter,ifs,0⟩] scope pos) 0 it acc env).onRaise (λx=>do noteFrame x env;theTreesLotGoes x)) _ _ s;refine wpAny_noted ?_;rw[compTurn_list];refine wab (wpAny_standAt (wab (wpAny_mono (turn n s hI) (λr s₁ h₁=>?_) λ_ _ h'=>h'.elim)));cases r with
 |none=>exact wad h₁
 |some v =>
  refine wab (wpAny_mono h₁ (λ_ s₁' h₁'=>?_) λ_ _ h'=>h'.elim);refine wab (wpAny_mono h₁' (λ_ s₂ h₂=>wab (wpAny_mono h₂ (λok s₃ h₃=>?_) λ_ _ h'=>h'.elim)) λ_ _ h'=>h'.elim);cases ok with
  |false=>exact wad ⟨rfl,h₃⟩
  |true =>
   exact wab (wab (wpAny_mono h₃ (λx s₄ h₄=>wab (wpAny_mono h₄ (λ_ s₅ h₅=>wad (wad ⟨rfl,h₅⟩)) λ_ _ h'=>h'.elim)) λ_ _ h'=>h'.elim))
end
def zdq(X:Cx)(N':List Str)(scope:Scope)(cl:List (Str×Addr))(L:Addr)(s:Shared)(H:Hp)(fp:List Addr):Cx where
 prog:=X.prog
 w:=X.w
 K:=X.K
 mg:=X.mg
 base:=X.base
 A:=X.A
 N:=N'
 s₀:=s
 H₀:=H
 env:=compEnvC scope cl L X.env
 outer:=X.stack
 stack:=X.stack
 ex:=fp
 fn:=λ_=>false
 calm:=X.calm
 pn:=[]
 xe:=λ_ _=>False
def zm7(C:Cn)(n:Nat)(G H:Hp)(w:Wn)(Y:L2.St):Cn:=⟨G,H,w,List.range n,Y,λ_=>False,C.xv,false⟩
def zgC(N N':List Str)(names:List (Str×NameKind))(m:Nat):Bool:=decide (N'.length=N.length+m) && (List.range N.length).all λi=>match N'[i]? with
 |some x=>match names.lookup x with
  |some .free=>N[i]? == some x
  |some .local=>false
  |some .cell=>false
  |_=>true
 |none=>false
theorem zcj{env:Env}{x:Str}:∀{names:List (Str×NameKind)},(names.map λ(n,k)=>if (k == NameKind.free && env.scope.kind == .function && env.kindOf n == some .cell) then (n,NameKind.cell) else (n,k)).lookup x=(names.lookup x).map λk=>if (k == NameKind.free && env.scope.kind == .function && env.kindOf x == some .cell)=true then .cell else k
 |[]=>rfl
 | (n,k)::r=>by
  have ih:=zcj (env:=env) (x:=x) (names:=r);show List.lookup x ((if (k == NameKind.free && env.scope.kind == .function && env.kindOf n == some .cell)=true then (n,NameKind.cell) else (n,k))::_)=_;cases hx:x == n with
  |true =>
   have e:=beq_iff_eq.mp hx;subst e;simp only[List.lookup_cons,beq_self_eq_true,Option.map_some];split <;> simp[List.lookup_cons]
  |false =>
   simp only[List.lookup_cons,hx];split
   ·simp only[List.lookup_cons,hx];exact ih
   ·simp only[List.lookup_cons,hx];exact ih
theorem zbh{α β:Type} [BEq α] [LawfulBEq α] {x:α} {b:β}:∀{l:List (α×β)},l.lookup x=some b->(x,b)∈l
 |[],h=>by simp at h
 | (n,k)::r,h=>by
  rw[List.lookup_cons] at h;cases hx:x == n with
  |true=>rw[hx] at h;simp at h;subst h;rw[beq_iff_eq.mp hx];exact wau
  |false=>rw[hx] at h;exact wah _ (zbh h)
theorem zgx{scope:Scope}{env:Env}{x:Str}(h:Vis (relabel scope env) x):scope.names.lookup x=some .local\/scope.names.lookup x=some .cell\/scope.names.lookup x=some .free:=by
 have e:(relabel scope env).names.lookup x=_:=zcj (env:=env) (x:=x) (names:=scope.names);unfold Vis at h;rw[e] at h;cases q:scope.names.lookup x with
 |none=>rw[q] at h;simp at h
 |some k =>
  rw[q] at h;cases k <;> simp_all
section
variable{X:Cx}{C:Cn}
theorem zoy{pS:List (Addr×Obj)}{Y:L2.St}{H:Hp}{s:Shared}{N':List Str}{scope:Scope}{cl:List (Str×Addr)}{m:Nat}{fp:List Addr}{h₁:Heap}{tk:Nat}{mm:Str->Option Value}(I:L2.Inv X pS Y H s)(hf:∀ b∈fp,ziR X pS H b)(ho:∀ b∈fp,∃ o,s.heap.get? b=some o)
  (hb:zgC X.N N' scope.names m=true) (hkind:scope.kind=.function) (hcell:∀ y∈scope.names,y.2≠.cell) (hfr:∀ y∈scope.names,y.2=.free->X.env.kindOf y.1=some .cell\/X.env.kindOf y.1=some .free)
  (hcl:∀ x c,cl.lookup x=some c->X.env.cells.lookup x=some c) (hcf:∀ y∈scope.names,y.2=.free->∃ c,cl.lookup y.1=some c)
  (hns:h₁.Ns s.heap.objs.size mm) (hk:∀ b o,s.heap.get? b=some o->h₁.get? b=some o) :
  L2.Inv (zdq X N' scope cl s.heap.objs.size s H fp) [] (Y++List.replicate m none) H { s with heap:=h₁,toks:=tk }:=by
 have hb1:N'.length=X.N.length+m:=by unfold zgC at hb;rw[Bool.and_eq_true] at hb;exact of_decide_eq_true hb.1
 have hb2:∀ i x,i<X.N.length->N'[i]? = some x->Vis (relabel scope X.env) x->X.N[i]? = some x/\scope.names.lookup x=some .free:=λi x hi e v=>by
  unfold zgC at hb;rw[Bool.and_eq_true,List.all_eq_true] at hb;have q:=hb.2 i (List.mem_range.mpr hi);simp only[e] at q;rcases zgx v with z|z|z
  ·simp[z] at q
  ·simp[z] at q
  ·simp[z] at q;exact ⟨q,z⟩
 have cellK:∀ c v,s.heap.IsCell c v->h₁.IsCell c v:=λc v ⟨o,e1,e2⟩=>⟨o,hk c o e1,e2⟩
 refine ⟨⟨I.ok.mod,hkind,I.ok.glob,I.ok.blt,wal _,λx y c h1 h2=>I.ok.inj x y c (hcl x c h1) (hcl y c h2),λx hx=>?_,λx c h _=>absurd h (by simp[zdq]),I.ok.hd,I.ok.frames,.inl rfl,λb hb=>⟨?_,λx c e=>(hf b hb).2.2.2.2.1 x c (hcl x c e)⟩,I.bs,waO I.ok.bsz I.sz,λb o e hb=>?_,λb hb z=>?_,I.stack,I.stkFree⟩,
  rfl,I.bare,Un.kept hk,⟨mm,hns,λi x v e1 e2 e3=>?_⟩,λx c e=>?_,I.hok.fresh (wal _),λx c e=>I.freeC x c (hcl x c e),λp hp=>absurd hp (by simp[zdq]),I.hok.kept hk,?_⟩
 ·
  have e:(relabel scope X.env).names.lookup x=_:=zcj (env:=X.env) (x:=x) (names:=scope.names);have hx':Vis (relabel scope X.env) x:=hx.elim (λz=>.inr (.inl z)) λz=>.inr (.inr z);rcases zgx hx' with z|z|z
  ·rw[z] at e;have hx2:(relabel scope X.env).names.lookup x=some .cell\/(relabel scope X.env).names.lookup x=some .free:=hx;rw[e] at hx2;simp at hx2
  ·exact absurd rfl (hcell _ (zbh z))
  ·exact hcf _ (zbh z) rfl
 ·intro z;obtain ⟨o,e⟩:=ho b hb;exact absurd (wai e) (by rw[z];exact waM _)
 ·rcases (hf b hb).2.2.2.1 with z|z
  ·exact I.ok.noex b o e z
  ·exact absurd (was (wai e) (waO I.ok.bsz z)) (waM _)
 ·rcases wap.mp (I.stkSub b z) with z|z
  ·exact (hf b hb).2.1 z
  ·exact (hf b hb).2.2.1 z
 ·have hi:i<X.N.length:=by
   by_cases hi:i<X.N.length
   ·exact hi
   ·rw[List.getElem?_append_right (by rw[I.len];lia),List.getElem?_replicate] at e2;split at e2 <;> cases e2
  rw[List.getElem?_append_left (by rw[I.len];exact hi)] at e2;obtain ⟨q1,q2⟩:=hb2 i x hi e1 e3;have hm:=zbh q2;obtain ⟨m0,hn0,hl0⟩:=I.loc;have kc:=hfr _ hm rfl;obtain ⟨u,ru,lk⟩:=hl0 i x v q1 e2 (kc.elim (λz=>.inr (.inl z)) λz=>.inr (.inr z));refine ⟨u,ru,.inr ⟨?_,?_⟩⟩
  ·have e:(relabel scope X.env).names.lookup x=_:=zcj (env:=X.env) (x:=x) (names:=scope.names);show (relabel scope X.env).names.lookup x=some .cell\/(relabel scope X.env).names.lookup x=some .free;rw[e,q2];simp only[Option.map_some];split
   ·exact .inl rfl
   ·exact .inr rfl
  ·obtain ⟨c,hc⟩:=hcf _ hm rfl;refine ⟨c,hc,?_⟩;rcases lk with ⟨z,_⟩|⟨_,c',e',ic⟩
   ·rcases kc with y|y <;> (rw[y] at z;cases z)
   ·rw[hcl _ _ hc] at e';cases e';exact cellK _ _ ic
 ·obtain ⟨v,ic⟩:=I.cell x c (hcl x c e);exact ⟨v,cellK _ _ ic⟩
 ·show _=N'.length;rw[List.length_append,List.length_replicate,I.len,hb1]
theorem zmY{pS:List (Addr×Obj)}{Y Y':L2.St}{H H':Hp}{s s':Shared}{N':List Str}{scope:Scope}{cl:List (Str×Addr)}{fp:List Addr}{L:Addr}{h':Heap}{ps:List (Addr×Obj)}(I:L2.Inv X pS Y H s)(hf:∀ b∈fp,ziR X pS H b)(hL:s.heap.objs.size<=L)
  (J:L2.Inv (zdq X N' scope cl L s H fp) ps Y' H' s') (hs:Heap.SameBut L s'.heap h'):L2.Inv X pS Y H' { s' with heap:=h' }:=by
 have hne:∀ b o,s.heap.get? b=some o->b≠L:=λb o e z=>by subst z;exact absurd (was (wai e) hL) (waM _)
 have hfree:H' L=none:=J.free;have un:Un (frs X.stack) fp H H' s.heap s'.heap:=J.base;refine I.call' (s':={ s' with heap:=h' }) (ch:=fp) J.os ⟨λb o e n h1 h2=>?_,λb o e n h1 h2=>?_,un.free,λb o e h2=>?_,un.tups,un.frzs,un.tbls⟩ (λb o e=>?_) J.bare λb hb=>⟨(hf b hb).2.2.2.1,(hf b hb).2.1,(hf b hb).2.2.2.2.1,(hf b hb).2.2.2.2.2⟩
 ·exact (hs.2 b (hne b o e)).trans (un.keep b o e n h1 h2)
 ·obtain ⟨sl,q⟩:=un.slot b o e n h1 h2;exact ⟨sl,(hs.2 b (hne b o e)).trans q⟩
 ·obtain ⟨o',q⟩:=un.there b o e h2;exact ⟨o',(hs.2 b (hne b o e)).trans q⟩
 ·refine (J.hok b o e).stay (λc v hc q=>(hs.2 c ?_).trans q) (λ_ q=>q) λ_ _ q=>q;intro z;subst z;rcases hc with z|z
  ·subst z;rw[hfree] at e;cases e
  ·rw[hfree] at z;cases z
end
def zbx(g:DG)(ft:DT)(fe:De):List Dt->Ev->R (List Dt×Ev)
 |[],Z=>.ok ([],Z)
 |d::r,Z=>(g d Z).bind λZ1=>(ft Z1).bind λt=>if t.1=true then (fe t.2).bind λy=>(zbx g ft fe r y.2).bind λz=>.ok (y.1::z.1,z.2) else zbx g ft fe r t.2
def za9(fi:DA)(g:DG)(ft:DT)(fe:De)(m:Nat):DN:=λZ=>(fi Z).bind λa=>if fits a.1=true then match zbx g ft fe a.1 (a.2++List.replicate m none) with
  |.ok z=>.ok (z.1,z.2.take a.2.length)
  |_=>.no
 else .no
theorem zgm{α β:Type}{r:R α}{f:α->R β}{b:β}(h:r.bind f=.ok b):∃ a,r=.ok a/\f a=.ok b:=by
 cases r with
 |ok a=>exact ⟨a,rfl,h⟩
 |er n=>cases h
 |no=>cases h
def JTs(X:Cx)(C:Cn)(ifs:List Expr)(ft:DT):Prop :=
 ∀(pS:List (Addr×Obj))(s:Shared)(Y:L2.St)(H:Hp)(Q:Bool->Hp->Prop),L2.Inv X pS Y H s->tT X.K C ft Y H Q ->
  wpAny (model X.prog X.w) X.A (forIn ifs true λc r=>if r=true then do let ok <- isTrue c X.env (eval c X.env);pure (ForInStep.yield ok) else pure (ForInStep.yield r)) (TP X pS Y Q) X.xe s
def dTT:DT:=λZ=>.ok (true,Z)
abbrev Hce(scope:Scope):Prop:=∀ y∈scope.names,y.2≠.cell
abbrev Hfr(X:Cx)(scope:Scope):Prop:=∀ y∈scope.names,y.2=.free->X.env.kindOf y.1=some .cell\/X.env.kindOf y.1=some .free
abbrev Hnm(scope:Scope):Prop:=∀ y∈scope.names,y.2=.local->scope.names.lookup y.1=some .local
abbrev Hbk(X:Cx)(C:Cn)(N':List Str)(scope:Scope)(tg:Expr)(ifs:List Expr)(elt:Expr)(g:DG)(ft:DT)(fe:De):Prop:=∀ cl L s H fp G H' w Y,JG (zdq X N' scope cl L s H fp) (zm7 C X.N.length G H' w Y) tg g/\JTs (zdq X N' scope cl L s H fp) (zm7 C X.N.length G H' w Y) ifs ft/\JE (zdq X N' scope cl L s H fp) (zm7 C X.N.length G H' w Y) elt fe
abbrev nL(s2:Shared):Heap:=s2.heap.push { cls:=.type "list",dict:=none,data:=.seq ([]:List Value).toArray }
def PTs(X:Cx)(ifs:List Expr)(t:TT):Prop :=
 ∀(pS:List (Addr×Obj))(s:Shared)(Y:L2.St)(H:Hp)(Q:Bool->Hp->Prop),L2.Inv X pS Y H s->t Y H Q ->
  wpAny (model X.prog X.w) X.A (forIn ifs true λc r=>if r=true then do let ok <- isTrue c X.env (eval c X.env);pure (ForInStep.yield ok) else pure (ForInStep.yield r)) (TP X pS Y Q) X.xe s
section
variable{X:Cx}{C:Cn}
theorem zdl:JTs X C [] dTT:=λpS s Y H Q I ⟨G,w,Z,r,p⟩=>wpAny_tests_nil ⟨H,I,p G H w (.refl _ _ _) r⟩
theorem zfc{c:Expr}{ft:DT}(h:JT X C c ft):JTs X C [c] ft:=λpS s Y H Q I t=>wpAny_tests_one (h pS s Y H Q I t)
theorem Rel.upd_new{K:W.Frag}{Y:L2.St}{G H:Hp}{w:Wn}{Z:Ev}{p:Addr}{o:HO}(r:Rel K C G w Z Y H)(hg:G p=none)(hw:w p=none)(h0:C.H₀ p=none):Rel K C G w Z Y (upd H p o):=by
 refine ⟨λb u e=>?_,r.wg,λb e=>?_,r.len,λi b e=>?_,⟨r.en.g,r.en.fr,λb u e z=>?_,r.en.w,λb e=>?_⟩,r.pin⟩
 ·rw[zaj (zak e hg)];exact r.gh b u e
 ·by_cases hb:b=p
  ·subst hb;rw[zan];simp
  ·rw[zaj hb];exact r.wh b e
 ·obtain ⟨v,h1,h2⟩:=r.sl i b e;refine ⟨v,h1,h2.grow (.refl _) λa u e1 e2=>⟨?_,e1⟩⟩;have:a≠p:=λz=>by subst z;rw[hw] at e1;cases e1
  rw[zaj this];exact e2
 ·rw[zaj (zak e h0)];exact r.en.h b u e z
 ·by_cases hb:b=p
  ·subst hb;exact h0
  ·rw[zaj hb] at e;exact r.en.k b e
theorem zbB.keep{G H G' H':Hp}{w w':Wn}{p:Addr}{o:HO}(s:zbB G H w G' H' w')(hg:G p=none)(hw:w p=none)(hp:H p=some o):G' p=none/\w' p=none/\H' p=some o:=by
 refine ⟨?_,?_,s.h p o hp hw⟩
 ·cases q:G' p with
  |none=>rfl
  |some u =>
   rcases s.fr p u q with z|z|z
   ·exact absurd hg z
   ·rw[hp] at z;cases z
   ·exact absurd hw z
 ·cases q:w' p with
  |none=>rfl
  |some k =>
   rcases s.w p (by rw[q];simp) with z|z
   ·exact absurd hw z
   ·rw[hp] at z;cases z
structure zoT(X:Cx)(pS:List (Addr×Obj))(H:Hp)(L:Addr)(s:Shared):Prop where
 fr:H L=none
 nl:L≠X.env.locals
 nw:L∈X.ex\/X.s₀.heap.objs.size<=L
 nc:∀ x c,X.env.cells.lookup x=some c->c≠L
 np:∀ p∈X.pn++pS,p.1≠L
 ns:∃ m,s.heap.Ns L m
theorem zlL{tg iter elt:Expr}{ifs:List Expr}{scope:Scope}{pos:Pos}{N':List Str}{m n:Nat}{tgt:TG}{tts:TT}{te:TE}(hc:X.calm=true)(hb:zgC X.N N' scope.names m=true)
  (hkind:scope.kind=.function) (hcell:Hce scope) (hfr:Hfr X scope)
  {pS:List (Addr×Obj)} {Y:L2.St} {s2:Shared} {cl:List (Str×Addr)} {RR:Value->Addr->Result->Shared->Prop} {E:Value->Shared->Prop}
  (hblk:∀ L s H fp,L2.Inv X pS Y H s->(∀ b∈fp,ziR X pS H b)->s.heap.objs.size<=L->PG (zdq X N' scope cl L s H fp) tg tgt/\PTs (zdq X N' scope cl L s H fp) ifs tts/\PE (zdq X N' scope cl L s H fp) elt te)
  (hcl:∀ x c,cl.lookup x=some c->X.env.cells.lookup x=some c) (hcf:∀ y∈scope.names,y.2=.free->∃ c,cl.lookup y.1=some c)
  {it:Addr} {fp:List Addr} {tn:Nat->Heap->Prop} {J:It} {H2:Hp} (I2:L2.Inv X pS Y H2 s2) (T:zpg X.prog X.w X.K tg J fp it tn) (st2:tn 0 s2.heap) (f2:∀ b∈fp,ziR X pS H2 b)
  (W:Addr->Nat->L2.St->Hp->List V->Prop) (w0:∀ D,H2 D=none->W D 0 (Y++List.replicate m none) (upd H2 D (.lst [])) [])
  (hstep:∀ D i Y' H' vs,H2 D=none->W D i Y' H' vs->H' D=some (.lst vs)->i<n->J.go i H'/\∀ x H7,J.yld i H' x H7->tgt x Y' H7 λY8 H8=>tts Y8 H8 λb H9=>if b=true then te Y8 H9 λv H10=>H10 D=some (.lst vs)/\vs.length<sizeLine/\W D (i+1) Y8 (upd H10 D (.lst (vs++[v]))) (vs++[v]) else H9 D=some (.lst vs)/\W D (i+1) Y8 H9 vs)
  (hstop:∀ D Y' H' vs,W D n Y' H' vs->J.stop n H')
  (fin:∀(D L:Addr)(s':Shared)(vs:List V)(Y':L2.St)(H':Hp),L2.Inv X pS Y H' s'->zoT X pS H' L s'->H2 D=none->H' D=some (.lst vs)->Y'.length=X.N.length+m->W D n Y' H' vs->RR (.ref D) L (.ok .next) s') :
  wpAny (model X.prog X.w) X.A (newList []) (λacc s₃=>wpAny (model X.prog X.w) X.A (newFunctionEnv scope X.env.globals cl [] X.env.qual none .none (some X.env)) (λcenv s₄ =>
   codeAny (model X.prog X.w) X.A (.compStart (.ListComp elt [⟨tg,iter,ifs,0⟩] scope pos) 0 (.ref it) acc { cenv with scope:=relabel scope X.env }) (RR acc cenv.locals) s₄) E s₃) E s2:=by
 have hD:H2 s2.heap.objs.size=none:=I2.hok.fresh (wal _);refine wpAny_newObj_type (wpAny_newFunctionEnv hcell (by intro y hy;simp at hy) (λh₁ hns₁ hsb₁=>?_) hkind);dsimp only at hns₁ hsb₁ ⊢;have I3:L2.Inv X pS Y (upd H2 s2.heap.objs.size (.lst [])) { s2 with heap:=nL s2 } :=
  I2.laid (t':=s2.toks) (λb u e=>waa _ e) (wal _) ⟨Nat.zero_le _,[],0,.nil,waj _ rfl⟩
 have hob:∀ b∈fp,∃ o,s2.heap.get? b=some o:=λb hb=>let ⟨o,e,_⟩:=T.obj 0 _ st2 b hb;⟨o,e⟩;have hbD:∀ b∈fp,b≠s2.heap.objs.size:=λb hb z=>by obtain ⟨o,e⟩:=hob b hb;exact absurd (wai e) (by rw[z];exact waM _)
 have f3:∀ b∈fp,ziR X pS (upd H2 s2.heap.objs.size (.lst [])) b:=λb hb=>⟨by rw[zaj (hbD b hb)];exact (f2 b hb).1,(f2 b hb).2⟩
 have hk3:∀ b o,(nL s2).get? b=some o->h₁.get? b=some o:=λb o e =>
  (hsb₁.2 b (waN (wai e))).trans (waa _ e)
 have J4:=zoy (N':=N') (scope:=scope) (cl:=cl) (m:=m) (fp:=fp) (tk:=s2.toks+([]:List (Str×Value)).length) I3 f3 (λb hb=>by obtain ⟨o,e⟩:=hob b hb;exact ⟨o,waa _ e⟩) hb hkind hcell hfr hcl hcf hns₁ hk3;have st4:tn 0 h₁:=T.keep _ _ _ st2 λb hb o e=>hk3 b o (waa _ e);generalize hX':zdq X N' scope cl (nL s2).objs.size { s2 with heap:=nL s2 } (upd H2 s2.heap.objs.size (.lst [])) fp=X' at J4;have eP:X'.prog=X.prog:=by rw[<- hX'];rfl
 have eW:X'.w=X.w:=by rw[<- hX'];rfl
 have eK:X'.K=X.K:=by rw[<- hX'];rfl
 have eA:X'.A=X.A:=by rw[<- hX'];rfl
 have eC:X'.calm=true:=by rw[<- hX'];exact hc
 have eE:X'.xe=λ_ _=>False:=by rw[<- hX'];rfl
 have ePn:X'.pn=[]:=by rw[<- hX'];rfl
 have eN:X'.N.length=X.N.length+m:=by rw[<- hX'];show N'.length=_;unfold zgC at hb;rw[Bool.and_eq_true] at hb;exact of_decide_eq_true hb.1
 have eEx:X'.ex=fp:=by rw[<- hX'];rfl
 have hlenσ:Y.length=X.N.length:=I2.len;obtain ⟨hg,hts,he⟩:=hblk (nL s2).objs.size { s2 with heap:=nL s2 } (upd H2 s2.heap.objs.size (.lst [])) fp I3 f3 (wal _);rw[hX'] at hg hts he;have stat:∀{H':Hp},(∀ b∈fp,H' b=none)->∀ b∈fp,ziR X' [] H' b:=λhn b hb=>by have q:=J4.ok.exf b (by rw[eEx];exact hb);exact ⟨hn b hb,q.1,J4.ok.exfs b (by rw[eEx];exact hb),.inl (by rw[eEx];exact hb),q.2,λp hp=>by rw[ePn] at hp;simp at hp⟩
 have loop:∀ s₃:Shared,s₃={ s2 with heap:=h₁,toks:=s2.toks+([]:List (Str×Value)).length } ->
   codeAny (model X.prog X.w) X.A (.compLoop (.ListComp elt [⟨tg,iter,ifs,0⟩] scope pos) 0 (.ref it) (.ref s2.heap.objs.size) X'.env) (RR (.ref s2.heap.objs.size) (nL s2).objs.size) s₃:=by
  rintro s₃ rfl;refine zjH (λk s'=>∃ i Y' H' vs,L2.Inv X' [] Y' H' s'/\tn i s'.heap/\(∀ b∈fp,H' b=none)/\k=n-i/\i<=n/\H' s2.heap.objs.size=some (.lst vs)/\W s2.heap.objs.size i Y' H' vs) ?_ n
   ⟨0,Y++List.replicate m none,_,[],J4,st4,λb hb=>(f3 b hb).1,xws,Nat.zero_le _,zan,w0 _ hD⟩
  rintro k s' ⟨i,Y',H',vs,J5,st5,fr5,rfl,hil,hd5,q5⟩;by_cases hlt:i<n
  ·obtain ⟨go,yl⟩:=hstep _ i Y' H' vs hD q5 hd5 hlt;have hIt:=T.item X' eP eW eK eC i [] s' Y' H' (λ_ _=>False) J5 (stat fr5) st5 go;rw[eA] at hIt;refine thn hIt λrr s6 ⟨u,hr,h6⟩=>?_;subst hr;refine thn h6 λ_ s7 ⟨x,H7,J7,rx7,y7,st7,fr7⟩=>?_;have q7:=yl x H7 y7;have J7':=J7.pinned (stat fr7) (T.obj _ _ st7);have hG:=hg ([]++zf4 fp s7.heap) s7 Y' H7 x u _ J7' rx7 q7;rw[eP,eW,eA,eE] at hG;refine thn hG λ_ s8 ⟨Y8,H8,J8,q8⟩=>?_;have hT:=hts ([]++zf4 fp s7.heap) s8 Y8 H8 _ J8 q8;rw[eP,eW,eA,eE] at hT;refine thn hT λok s9 ⟨H9,J9,q9⟩=>?_;have after:∀{σa:L2.St}{Ha:Hp}{sa:Shared},L2.Inv X' ([]++zf4 fp s7.heap) σa Ha sa->tn (i+1) sa.heap/\∀ b∈fp,Ha b=none:=λ{σa Ha sa} Ja =>
    ⟨T.keep _ _ _ st7 λb hb o e=>(Ja.pin (b,o) (waA _ (waA _ (ze6 hb e)))).1,λb hb=>by obtain ⟨o,e,_⟩:=T.obj _ _ st7 b hb;exact (Ja.pin (b,o) (waA _ (waA _ (ze6 hb e)))).2.1⟩
   cases ok with
   |false =>
    rw[if_neg Bool.false_ne_true];rw[if_neg Bool.false_ne_true] at q9;obtain ⟨k1,k2⟩:=after J9;exact ⟨n-(i+1),xwl,i+1,Y8,H9,vs,J9.unpinned,k1,k2,rfl,hlt,q9.1,q9.2⟩
   |true =>
    rw[if_pos rfl];rw[if_pos rfl] at q9;have hEl:=he ([]++zf4 fp s7.heap) s9 Y8 H9 _ J9 q9;rw[eP,eW,eA,eE] at hEl;refine thn hEl λxv s10 ⟨vy,H10,J10,ry,q10⟩=>?_;have hAp:=zhb (X:=X') ([]++zf4 fp s7.heap) s10 Y8 H10 (.ref s2.heap.objs.size) [vy] (.ref s2.heap.objs.size) [xv] (λv H11=>H11=upd H10 s2.heap.objs.size (.lst (vs++[vy]))) J10 rfl (.cons ry .nil)
     ⟨s2.heap.objs.size,vs,vy,rfl,rfl,q10.1,q10.2.1,rfl⟩
    rw[eP,eW,eA,eE] at hAp;refine thn hAp λ_ s11 ⟨v11,H11,J11,_,e11⟩=>?_;subst e11;obtain ⟨k1,k2⟩:=after J11;exact ⟨n-(i+1),xwl,i+1,Y8,_,vs++[vy],J11.unpinned,k1,k2,rfl,hlt,zan,q10.2.2⟩
  ·have e:i=n:=by lia
   subst e;have hDn:=T.done X' eP eW eK eC i [] s' Y' H' (λ_ _=>False) J5 (stat fr5) st5 (hstop _ _ _ _ q5);rw[eA] at hDn;refine thn hDn λrr s6 ⟨hr,J6⟩=>?_;subst hr;have hl6:Y'.length=X.N.length+m:=by rw[J6.len,eN]
   obtain ⟨m6,hn6,_⟩:=id J6.loc;have eL:X'.env.locals=(nL s2).objs.size:=by rw[<- hX'];rfl
   rw[eL] at hn6;have frL:H' (nL s2).objs.size=none:=by rw[<- eL];exact J6.free
   rw[<- hX'] at J6;have IX:L2.Inv X pS Y H' s6:=zmY (h':=s6.heap) I3 f3 (wal _) J6 ⟨rfl,λ_ _=>rfl⟩;have hLs:∀ b o,(nL s2).get? b=some o->(nL s2).objs.size≠b:=λb o e z=>absurd (wai e) (by rw[z];exact waM _);have lo:zoT X pS H' (nL s2).objs.size s6:=by
    refine ⟨frL,λz=>?_,.inr I3.sz,λx c e z=>?_,λp hp z=>?_,m6,hn6⟩
    ·exact absurd I3.lt (by rw[<- z];exact waM _)
    ·obtain ⟨v,q⟩:=I3.cell x c e;exact absurd q.lt (by rw[z];exact waM _)
    ·exact hLs p.1 p.2 (I3.pin p hp).1 z.symm
   exact fin _ _ s6 vs Y' H' IX lo hD hd5 hl6 q5
 have envEq:X'.env=compEnvC scope cl (nL s2).objs.size X.env:=by rw[<- hX'];rfl
 rw[envEq] at loop;exact codeAny_compStart_list (loop _ rfl) (T.self X.A 0 _ _ _ st4 (loop _ rfl))
theorem zpV{tg iter elt:Expr}{ifs:List Expr}{scope:Scope}{pos:Pos}{N':List Str}{m:Nat}{g:DG}{ft:DT}{fe:De}(hc:X.calm=true)(hb:zgC X.N N' scope.names m=true)
  (hkind:scope.kind=.function) (hcell:Hce scope) (hfr:Hfr X scope)
  (hblk:Hbk X C N' scope tg ifs elt g ft fe)
  {pS:List (Addr×Obj)} {Y:L2.St} {s2:Shared} {cl:List (Str×Addr)} {RR:Value->Addr->Result->Shared->Prop} {E:Value->Shared->Prop}
  (hcl:∀ x c,cl.lookup x=some c->X.env.cells.lookup x=some c) (hcf:∀ y∈scope.names,y.2=.free->∃ c,cl.lookup y.1=some c)
  {it:Addr} {fp:List Addr} {tn:Nat->Heap->Prop} {J:It} {H2:Hp} (I2:L2.Inv X pS Y H2 s2) (T:zpg X.prog X.w X.K tg J fp it tn) (st2:tn 0 s2.heap) (f2:∀ b∈fp,ziR X pS H2 b)
  {ds zs:List Dt} {Z1 ρf:Ev} {G1:Hp} {w1:Wn} (r1:Rel X.K C G1 w1 Z1 Y H2) (Ko:Ev->Prop) (k0:Ko (Z1++List.replicate m none)) (hko:∀ d Z Z3 b Z4,Ko Z->g d Z=.ok Z3->ft Z3=.ok (b,Z4)->Ko Z4/\∀ y Z5,fe Z4=.ok (y,Z5)->Ko Z5)
  (it1:∀ i Z' G' w' Y' H',Rel X.K (zm7 C X.N.length G1 H2 w1 (Y++List.replicate m none)) G' w' Z' Y' H'->Ko Z'->(∀ d,ds[i]? = some d->J.go i H'/\∀ x H7,J.yld i H' x H7->∃ G7,ze9 G' H' G7 H7/\Rep X.K G7 d x)/\(ds.length<=i->J.stop i H')) (hfi:fits ds=true) (ec:zbx g ft fe ds (Z1++List.replicate m none)=.ok (zs,ρf))
  (fin:∀(D L:Addr)(s':Shared)(vs:List V)(G' H':Hp)(w':Wn),L2.Inv X pS Y H' s'->zoT X pS H' L s'->zbB G1 H2 w1 G' H' w'->Rel X.K C G' w' (ρf.take Z1.length) Y H'->H2 D=none->H' D=some (.lst vs)->G' D=none->w' D=none->za1 X.K G' zs vs->RR (.ref D) L (.ok .next) s') :
  wpAny (model X.prog X.w) X.A (newList []) (λacc s₃=>wpAny (model X.prog X.w) X.A (newFunctionEnv scope X.env.globals cl [] X.env.qual none .none (some X.env)) (λcenv s₄ =>
   codeAny (model X.prog X.w) X.A (.compStart (.ListComp elt [⟨tg,iter,ifs,0⟩] scope pos) 0 (.ref it) acc { cenv with scope:=relabel scope X.env }) (RR acc cenv.locals) s₄) E s₃) E s2:=by
 generalize hC':zm7 C X.N.length G1 H2 w1 (Y++List.replicate m none)=C' at it1;have c0:C'.H₀=H2:=by rw[<- hC'];rfl
 have hlenσ:Y.length=X.N.length:=I2.len;refine zlL (iter:=iter) (pos:=pos) (n:=ds.length) (tgt:=tG X.K C' g) (tts:=tT X.K C' ft) (te:=tE X.K C' fe) hc hb hkind hcell hfr (λL s H fp _ _ _=>by
  obtain ⟨a1,a2,a3⟩:=hblk cl L s H fp G1 H2 w1 (Y++List.replicate m none);rw[hC'] at a1 a2 a3;exact ⟨a1,a2,a3⟩) hcl hcf I2 T st2 f2
  (λD i Y' H' vs=>∃ Z' G' w' ac,Rel X.K C' G' w' Z' Y' H'/\G' D=none/\w' D=none/\za1 X.K G' ac vs/\ac.length<=i/\Ko Z'/\∃ z,zbx g ft fe (ds.drop i) Z'=.ok z/\ac++z.1=zs/\z.2 = ρf) (λD hD=>?_) (λD i Y' H' vs hD ⟨Z',G',w',ac,r5,gd5,wd5,q5,hac,ko,z,ez,ez1,ez2⟩ hd5 hlt=>?_) (λD Y' H' vs ⟨Z',G',w',ac,r5,_,_,_,_,ko,_⟩=>(it1 _ _ _ _ _ _ r5 ko).2 (wal _)) λD L s' vs Y' H' IX lo hD hd5 hl6 ⟨Z',G',w',ac,r5,gd5,wd5,q5,hac,_,z,ez,ez1,ez2⟩=>?_
 ·have w0:w1 D=none:=by
   cases q:w1 D with
   |none=>rfl
   |some k=>exact absurd hD (r1.wh _ (by rw[q];simp))
  have base:Rel X.K C' G1 w1 (Z1++List.replicate m none) (Y++List.replicate m none) H2:=by
   refine ⟨r1.gh,r1.wg,r1.wh,by simp[r1.len],λi b e=>?_,by rw[<- hC'];exact .refl _ _ _,λi _=>by rw[<- hC'];rfl⟩;have hi':i < Z1.length:=by
    by_cases hi':i < Z1.length
    ·exact hi'
    ·rw[List.getElem?_append_right xwl,List.getElem?_replicate] at e;split at e <;> cases e
   rw[List.getElem?_append_left hi'] at e;obtain ⟨v,h1,h2⟩:=r1.sl i b e;exact ⟨v,by rw[List.getElem?_append_left (by rw[<- r1.len];exact hi')];exact h1,h2⟩
  exact ⟨Z1++List.replicate m none,G1,w1,[],base.upd_new (r1.gh.free hD) w0 (by rw[c0];exact hD),r1.gh.free hD,w0,za1.nil,Nat.zero_le _,k0,(zs,ρf),by simpa using ec,xws,rfl⟩
 ·have ed:ds.drop i=ds[i]::ds.drop (i+1):=List.drop_eq_getElem_cons hlt;obtain ⟨go,yl⟩:=(it1 i _ _ _ _ _ r5 ko).1 ds[i] (by simp[hlt]);refine ⟨go,λx H7 y7=>?_⟩;obtain ⟨G7,gr,rep7⟩:=yl x H7 y7;have keep7:=(gr.step (w:=w')).keep gd5 wd5 hd5;rw[ed] at ez;unfold zbx at ez;obtain ⟨Z3,e3,ez⟩:=zgm ez;obtain ⟨t4,e4,ez⟩:=zgm ez;obtain ⟨b4,Z4⟩:=t4;obtain ⟨ko4,ko5⟩:=hko _ _ _ _ _ ko e3 e4;refine ⟨G7,w',Z',ds[i],r5.grow gr,rep7,?_⟩;rw[e3];intro Y8 G8 H8 w8 s8s r8;have keep8:=s8s.keep keep7.1 keep7.2.1 keep7.2.2;refine ⟨G8,w8,Z3,r8,?_⟩;rw[e4];intro G9 H9 w9 s9s r9;have keep9:=s9s.keep keep8.1 keep8.2.1 keep8.2.2;have sg9:=(gr.g.trans s8s.g).trans s9s.g;cases b4 with
  |false =>
   show (if false=true then _ else _);rw[if_neg Bool.false_ne_true];simp only[Bool.false_eq_true,if_false] at ez;exact ⟨keep9.2.2,Z4,G9,w9,ac,r9,keep9.1,keep9.2.1,q5.same sg9,xwl,ko4,z,ez,ez1,ez2⟩
  |true =>
   show (if true=true then _ else _);rw[if_pos rfl];simp only[if_true] at ez;obtain ⟨⟨yd,Z10⟩,e10,ez⟩:=zgm ez;obtain ⟨z',ez',ez3⟩:=zgm ez;refine ⟨G9,w9,Z4,r9,?_⟩;rw[e10];intro v G10 H10 w10 s10s r10 q10;have keep10:=s10s.keep keep9.1 keep9.2.1 keep9.2.2;cases ez3;refine ⟨keep10.2.2,?_,Z10,G10,w10,ac++[yd],r10.upd_new keep10.1 keep10.2.1 (by rw[c0];exact hD),keep10.1,keep10.2.1,(q5.same (sg9.trans s10s.g)).append (za1.cons q10 za1.nil),by simp;lia,ko5 _ _ e10,z',ez',by rw[<- ez1];simp,ez2⟩;have:=q5.length;have:=zia hfi;lia
 ·simp only[List.drop_length] at ez;unfold zbx at ez;cases ez;simp only[List.append_nil] at ez1;subst ez1;subst ez2;have cG:C'.G₀=G1:=by rw[<- hC'];rfl
  have cw:C'.w₀=w1:=by rw[<- hC'];rfl
  have en':zbB G1 H2 w1 G' H' w':=by have:=r5.en;rw[cG,c0,cw] at this;exact this
  have hρlen:Z'.length=X.N.length+m:=by rw[r5.len,hl6]
  refine fin _ _ s' vs G' H' w' IX lo en' ⟨r5.gh,r5.wg,r5.wh,?_,λi b e=>?_,r1.en.trans en',r1.pin⟩ hD hd5 gd5 wd5 q5
  ·rw[List.length_take,hρlen,r1.len,hlenσ];lia
  ·have hi':i < Z1.length:=by
    by_cases hi':i < Z1.length
    ·exact hi'
    ·rw[List.getElem?_eq_none (by rw[List.length_take];lia)] at e;cases e
   rw[List.getElem?_take_of_lt hi'] at e;obtain ⟨v,h1,h2⟩:=r5.sl i b e;refine ⟨v,?_,h2⟩;have hpi:=r5.pin i (by rw[<- hC'];exact List.mem_range.mpr (by rw[<- hlenσ,<- r1.len];exact hi'));rw[h1] at hpi;rw[<- hC'] at hpi;have hpi':some (some v)=(Y++List.replicate m none)[i]? := hpi;rw[List.getElem?_append_left (by rw[<- r1.len];exact hi')] at hpi';exact hpi'.symm
theorem zkr{tg iter elt:Expr}{ifs:List Expr}{scope:Scope}{pos:Pos}{N':List Str}{m:Nat}{g:DG}{ft:DT}{fe:De}(hc:X.calm=true)(hb:zgC X.N N' scope.names m=true)
  (hkind:scope.kind=.function) (hcell:Hce scope) (hfr:Hfr X scope)
  (hblk:Hbk X C N' scope tg ifs elt g ft fe)
  {pS:List (Addr×Obj)} {Y:L2.St} {s2:Shared} {cl:List (Str×Addr)} {RR:Value->Addr->Result->Shared->Prop} {E:Value->Shared->Prop}
  (hcl:∀ x c,cl.lookup x=some c->X.env.cells.lookup x=some c) (hcf:∀ y∈scope.names,y.2=.free->∃ c,cl.lookup y.1=some c)
  {it:Addr} {fp:List Addr} {tn:Nat->Heap->Prop} {J:It} {H2:Hp} (I2:L2.Inv X pS Y H2 s2) (T:zpg X.prog X.w X.K tg J fp it tn) (st2:tn 0 s2.heap) (f2:∀ b∈fp,ziR X pS H2 b)
  {ds zs:List Dt} {Z1 ρf:Ev} {G1:Hp} {w1:Wn} (r1:Rel X.K C G1 w1 Z1 Y H2) (it1:zoD X.K J G1 ds) (hfi:fits ds=true) (ec:zbx g ft fe ds (Z1++List.replicate m none)=.ok (zs,ρf))
  (fin:∀(D L:Addr)(s':Shared)(vs:List V)(G' H':Hp)(w':Wn),L2.Inv X pS Y H' s'->zoT X pS H' L s'->zbB G1 H2 w1 G' H' w'->Rel X.K C G' w' (ρf.take Z1.length) Y H'->H2 D=none->H' D=some (.lst vs)->G' D=none->w' D=none->za1 X.K G' zs vs->RR (.ref D) L (.ok .next) s') :
  wpAny (model X.prog X.w) X.A (newList []) (λacc s₃=>wpAny (model X.prog X.w) X.A (newFunctionEnv scope X.env.globals cl [] X.env.qual none .none (some X.env)) (λcenv s₄ =>
   codeAny (model X.prog X.w) X.A (.compStart (.ListComp elt [⟨tg,iter,ifs,0⟩] scope pos) 0 (.ref it) acc { cenv with scope:=relabel scope X.env }) (RR acc cenv.locals) s₄) E s₃) E s2 :=
 zpV hc hb hkind hcell hfr hblk hcl hcf I2 T st2 f2 r1 (λ_=>True) trivial (λ_ _ _ _ _ _ _ _=>⟨trivial,λ_ _ _=>trivial⟩) (λi Z' G' w' Y' H' r _=>it1 i G' H' r.en.g r.gh) hfi ec fin
theorem zbE{tg iter elt:Expr}{ifs:List Expr}{scope:Scope}{pos:Pos}{N':List Str}{m:Nat}{fi:DA}{g:DG}{ft:DT}{fe:De}(hi:JI X C tg iter fi)(hc:X.calm=true)(hb:zgC X.N N' scope.names m=true)
  (hkind:scope.kind=.function) (hcell:Hce scope) (hfr:Hfr X scope) (hnames:Hnm scope)
  (hblk:Hbk X C N' scope tg ifs elt g ft fe)
  (hs:∀ x,foldedSetIterable iter X.env x=pure x:=by intro _;rfl):JN X C (.ListComp elt [⟨tg,iter,ifs,0⟩] scope pos) (za9 fi g ft fe m):=by
 intro pS s Y H Q I ⟨G,w,Z,r,p⟩;rw[eval_ListComp];obtain ⟨cl,hclos,hcl,hcf⟩:=zdp (scope:=scope) (env:=X.env) λy hy hf=>I.ok.has y.1 (hfr y hy hf);refine wpAny_comprehension_free (use:=none) rfl hs hclos hkind hnames ?_;refine thn (hi pS s Y H (λJ H2=>∃ ds Z1 G1 w1 zs ρf,Rel X.K C G1 w1 Z1 Y H2/\zoD X.K J G1 ds/\fits ds=true/\zbx g ft fe ds (Z1++List.replicate m none)=.ok (zs,ρf)/\kN X.K C Y Q G1 H2 w1 (zs,ρf.take Z1.length)) I ?_) λv s1 h1=>thn h1 λitv s2 h2=>?_
 ·refine zuD (κ:=λG H w=>kN X.K C Y Q G H w) zil r p λds Z1 J G1 H1 w1 r1 st1 it1 p1=>?_;dsimp only at p1;split at p1
  ·rename_i hfi;split at p1
   ·rename_i z ez;exact ⟨ds,Z1,G1,w1,z.1,z.2,r1,it1,hfi,ez,p1⟩
   ·exact p1.elim
  ·exact p1.elim
 obtain ⟨it,fp,tn,J,H2,rfl,I2,T,st2,f2,ds,Z1,G1,w1,zs,ρf,r1,it1,hfi,ec,kk⟩:=h2;refine zkr (RR:=λacc C=>compPost (model X.prog X.w) X.A X.xe none (EP X pS Y Q) acc C) hc hb hkind hcell hfr hblk hcl hcf I2 T st2 f2 r1 it1 hfi ec λD L s' vs G' H' w' I' lo st rel h0 h1 h2 h3 q=>?_;obtain ⟨mm,hn⟩:=lo.ns;refine ⟨mm,hn,λh' hsb=>⟨.ref D,H',?_,rfl,kk D vs G' H' w' st rel h0 h1 h2 h3 q⟩⟩;exact I'.turned (t':=s'.toks) (λb o hb e=>(hsb.2 b hb).trans e) lo.fr lo.nl lo.nw lo.nc lo.np
theorem zqr{tg iter elt:Expr}{ifs:List Expr}{scope:Scope}{pos spos:Pos}{N':List Str}{m i:Nat}{x:Str}{px:Pos}{fi:DA}{g:DG}{ft:DT}{fe:De}{fs:List Dt×Ev->R (Fl×Ev)}(hi:JI X C tg iter fi)(hc:X.calm=true)(hb:zgC X.N N' scope.names m=true)
  (hkind:scope.kind=.function) (hcell:Hce scope) (hfr:Hfr X scope) (hnames:Hnm scope)
  (hblk:Hbk X C N' scope tg ifs elt g ft fe)
  (hN:X.N.Nodup) (hix:X.N[i]? = some x) (hx:Loc X.env.scope x) (hsw:swapsWith (.ListComp elt [⟨tg,iter,ifs,0⟩] scope pos) (some (.Name x px)) spos.line X.env=pure true) (hf:X.fn x=true\/X.env.scope.names.lookup x=some .local)
  (hfs:∀(D:zq7)(G1 H2 G' H':Hp)(w1 w':Wn)(Y:L2.St)(p:Addr)(zs:List Dt)(vs:List V)(ρf:Ev),zcz C.ex (kS X.K C D G1 H2 w1) (fs (zs,ρf))->zbB G1 H2 w1 G' H' w'->Rel X.K C G' w' ρf Y H'->H2 p=none->H' p=some (.lst vs)->G' p=none->w' p=none->za1 X.K G' zs vs->C.H₀ p=none->D.nx (Y.set i (some (.ref p))) H')
  (hs:∀ x,foldedSetIterable iter X.env x=pure x:=by intro _;rfl):JS X C (.Assign [.Name x px] (.ListComp elt [⟨tg,iter,ifs,0⟩] scope pos) spos) (λZ=>(za9 fi g ft fe m Z).bind fs):=by
 intro pS s Y H D I ⟨G,w,Z,r,p⟩;obtain ⟨cl,hclos,hcl,hcf⟩:=zdp (scope:=scope) (env:=X.env) λy hy hf=>I.ok.has y.1 (hfr y hy hf);rw[exec_Assign_Name_used _ _ _ _ hsw];refine wab (wpAny_standAt (wab ?_));show wpAny _ X.A (do let _ <- comprehension (.ListComp elt [⟨tg,iter,ifs,0⟩] scope pos) scope X.env _ (newList []) false (eval iter X.env) (some (assign (.Name x px) X.env))) _ _ s;refine wab (wpAny_mono (wpAny_comprehension_free (use:=some (assign (.Name x px) X.env)) (Q:=λ_ s'=>SP X pS D .next s') rfl hs hclos hkind hnames ?_) (λ_ s' hq=>wad (wad hq)) λ_ _ e=>e);refine thn (hi pS s Y H (λJ H2=>∃ ds Z1 G1 w1 zs ρf,Rel X.K C G1 w1 Z1 Y H2/\zoD X.K J G1 ds/\fits ds=true/\zbx g ft fe ds (Z1++List.replicate m none)=.ok (zs,ρf)/\zcz C.ex (kS X.K C D G1 H2 w1) (fs (zs,ρf.take Z1.length))) I ?_) λv s1 h1=>thn h1 λitv s2 h2=>?_
 ·have p':zcz C.ex (kS X.K C D G H w) ((fi Z).bind λa=>((if fits a.1=true then match zbx g ft fe a.1 (a.2++List.replicate m none) with
   |.ok z=>.ok (z.1,z.2.take a.2.length)
   |_=>.no
   else .no:R (List Dt×Ev))).bind fs):=by
   rw[<- R.bind_assoc];exact p
  refine zuD (κ:=λG H w=>kS X.K C D G H w) zdK r p' λds Z1 J G1 H1 w1 r1 st1 it1 p1=>?_;dsimp only at p1;split at p1
  ·rename_i hfi;split at p1
   ·rename_i z ez;exact ⟨ds,Z1,G1,w1,z.1,z.2,r1,it1,hfi,ez,p1⟩
   ·exact waP p1
  ·exact waP p1
 obtain ⟨it,fp,tn,J,H2,rfl,I2,T,st2,f2,ds,Z1,G1,w1,zs,ρf,r1,it1,hfi,ec,kk⟩:=h2;refine zkr (RR:=λacc C=>compPost (model X.prog X.w) X.A X.xe (some (assign (.Name x px) X.env)) (λ_ s'=>SP X pS D .next s') acc C) hc hb hkind hcell hfr hblk hcl hcf I2 T st2 f2 r1 it1 hfi ec λDa L s' vs G' H' w' I' lo st rel h0 h1 h2 h3 q=>?_;show wpAny _ X.A (assign (.Name x px) X.env (.ref Da)) _ _ _;refine wpAny_assign_Name (zkf I' hN hix hx (v:=.ref Da) rfl (λs'' I'' hch=>?_) hf);obtain ⟨mm,hn⟩:=lo.ns;obtain ⟨a,sb,ha⟩:=hch;have hLa:L≠a:=by
  rcases ha with z|z
  ·rw[z];exact lo.nl
  ·exact λy=>lo.nc x a z y.symm
 refine ⟨mm,hn.sameBut sb hLa,λh' hsb=>⟨Y.set i (some (.ref Da)),H',?_,hfs D G1 H2 G' H' w1 w' Y Da zs vs _ kk st rel h0 h1 h2 h3 q (r1.en.k Da h0)⟩⟩;exact I''.turned (t':=s''.toks) (λb o hb e=>(hsb.2 b hb).trans e) lo.fr lo.nl lo.nw lo.nc lo.np
theorem zmC{tg iter elt:Expr}{ifs:List Expr}{scope:Scope}{pos spos:Pos}{N':List Str}{m i:Nat}{x:Str}{px:Pos}{fi:DA}{g:DG}{ft:DT}{fe:De}(hN:X.N.Nodup)(hix:X.N[i]? = some x)(hx:Loc X.env.scope x)(hp:i∉C.pp)(hi:JI X C tg iter fi)(hc:X.calm=true)(hb:zgC X.N N' scope.names m=true)
  (hkind:scope.kind=.function) (hcell:Hce scope) (hfr:Hfr X scope) (hnames:Hnm scope)
  (hblk:Hbk X C N' scope tg ifs elt g ft fe)
  (hsw:swapsWith (.ListComp elt [⟨tg,iter,ifs,0⟩] scope pos) (some (.Name x px)) spos.line X.env=pure true:=by rfl) (hf:X.fn x=true\/X.env.scope.names.lookup x=some .local:=by exact xwA)
  (hs:∀ x,foldedSetIterable iter X.env x=pure x:=by intro _;rfl):JS X C (.Assign [.Name x px] (.ListComp elt [⟨tg,iter,ifs,0⟩] scope pos) spos) (zbd i (dFz (za9 fi g ft fe m))):=by
 have h:=zqr (fs:=λa=>if i<a.2.length then .ok (.nx,a.2.set i (some (.val (.lst a.1)))) else .no) hi hc hb hkind hcell hfr hnames hblk hN hix hx hsw hf (λD G1 H2 G' H' w1 w' Y p zs vs ρf po st rel h0 h1 h2 h3 q h4=>?_) hs
 ·refine PS.weak h λD Y H t=>?_;obtain ⟨G,w,Z,r,p⟩:=t;refine ⟨G,w,Z,r,?_⟩;unfold zbd dFz at p;rw[R.bind_assoc] at p;exact p
 ·by_cases hl:i < ρf.length
  ·simp only[hl,if_true] at po;obtain ⟨r',s'⟩:=rel.know h1 h2 h3 H2 G1 w1 st h0 (.inl h4);have sg:zbU G' (upd G' p (.lst vs)):=λb u e=>by rw[zaj (zak e h2)];exact e
   exact po _ _ _ _ s' (r'.setVal hl hp (by unfold Rep;exact ⟨p,vs,rfl,zan,q.same sg⟩))
  ·simp only[hl,if_false] at po;exact waP po
end
section
variable{X:Cx}{C:Cn}{a b c e:Expr}{fa fb fc:De}{pos:Pos}
theorem zhy{r r':R2}{g g':Dt->Dt->R Dt}{Y:L2.St}{H:Hp}{Q:VK}(h2:Op2 X.K r g)(he:zgt g)(h2':Op2 X.K r' g')(he':zgt g')(h:tE X.K C (zdE g g' fa fb fc) Y H Q):zn8 r r' (tE X.K C fa) (tE X.K C fb) (tE X.K C fc) Y H Q:=by
 obtain ⟨G,w,Z,rr,p⟩:=h;refine zfa (κ:=λG H w=>kE X.K C Y Q G H w) zc3 rr p λd Z1 v G1 H1 w1 r1 s1 q1 p1=>?_;refine zfa (κ:=λG H w=>kE X.K C Y Q G H w) zc3 r1 p1 λd2 Z2 v2 G2 H2 w2 r2 s2 q2 p2=>?_;dsimp only at p2;cases e:g d d2 with
 |ok z =>
  simp only[e,R.bind_ok] at p2;refine h2 G2 H2 v v2 d d2 z _ r2.gh (q1.same s2.g) q2 e λv3 G3 H3 gr q3=>?_;have p3:=zcz.step (κ:=λG H w=>kE X.K C Y Q G H w) zc3 gr.step (w1:=w2) p2;have r3:=r2.grow gr;cases z with
  |bl k =>
   refine ⟨k,zdb q3,?_⟩;cases k with
   |false=>exact iteF (p3 _ G3 H3 w2 (.refl _ _ _) r3 (zbF _))
   |true =>
    refine iteT ?_;refine zfa (κ:=λG H w=>kE X.K C Y Q G H w) zc3 r3 p3 λd4 Z4 v4 G4 H4 w4 r4 s4 q4 p4=>?_;dsimp only at p4;cases e':g' d2 d4 with
    |ok z' =>
     simp only[e',R.bind_ok] at p4;exact h2' G4 H4 v2 v4 d2 d4 z' Q r4.gh ((q2.same gr.g).same s4.g) q4 e' λv5 G5 H5 gr5 q5=>p4 v5 G5 H5 w4 gr5.step (r4.grow gr5) q5
    |er n=>exact absurd e' (he' _ _ _)
    |no=>simp only[e',R.bind_no] at p4;exact p4.elim
  |_=>exact waP p3
 |er n=>exact absurd e (he _ _ _)
 |no=>simp only[e,R.bind_no] at p2;exact p2.elim
theorem zl8{op op':CmpOp}{r r':R2}{g g':Dt->Dt->R Dt}(ho:OpR X (compareOp op) r)(h2:Op2 X.K r g)(hn:zgt g)(ho':OpR X (compareOp op') r')(h2':Op2 X.K r' g')(hn':zgt g')(ha:JE X C a fa)(hb:JE X C b fb)(hc:JE X C c fc)
  (hm:lastMarks [op,op'] [b,c]=false:=by with_unfolding_all rfl):JE X C (.Compare a [op,op'] [b,c] pos) (zdE g g' fa fb fc):=PE.weak (zpo ho ho' ha hb hc hm) λY H Q h=>zhy h2 hn h2' hn' h
theorem zqf{op op':CmpOp}{r r':R2}{g g':Dt->Dt->R Dt}(ho:OpR X (compareOp op) r)(h2:Op2 X.K r g)(hn:zgt g)(ho':OpR X (compareOp op') r')(h2':Op2 X.K r' g')(hn':zgt g')(ha:JE X C a fa)(hb:JE X C b fb)(hc:JE X C c fc)
  (hm:lastMarks [op,op'] [b,c]=false:=by with_unfolding_all rfl):JT X C (.Compare a [op,op'] [b,c] pos) (dTB (zdE g g' fa fb fc)):=PT.weak (zpc ho ho' ha hb hc hm) λY H Q h=>zhy h2 hn h2' hn' (ziJ h)
def kO(K:W.Frag)(C:Cn)(Y:L2.St)(Q:Option Int->Hp->Prop)(G H:Hp)(w:Wn)(a:Option Int×Ev):Prop :=
 ∀ G' H' w',zbB G H w G' H' w'->Rel K C G' w' a.2 Y H'->Q a.1 H'
abbrev DO:=Ev->R (Option Int×Ev)
def tOd(K:W.Frag)(C:Cn)(f:DO):TO:=λY H Q=>∃ G w Z,Rel K C G w Z Y H/\zcz C.ex (kO K C Y Q G H w) (f Z)
abbrev JO(X:Cx)(C:Cn)(e:Option Expr)(f:DO):Prop:=PO X e (tOd X.K C f)
theorem PO.weak{e:Option Expr}{t t':TO}(h:PO X e t)(k:∀ Y H Q,t' Y H Q->t Y H Q):PO X e t':=λpS s Y H Q I q=>h pS s Y H Q I (k Y H Q q)
def dO0:DO:=λZ=>.ok (none,Z)
def dO1(fa:De):DO:=λZ=>(fa Z).bind λa=>match a.1 with
 |.int i=>.ok (some i,a.2)
 |_=>.no
theorem zuQ{K:W.Frag}{Y:L2.St}{Q:Option Int->Hp->Prop}:Stp (λG H w=>kO K C Y Q G H w):=λ_ _ _ _ _ _ _ s k G' H' w' s'=>k G' H' w' (s.trans s')
theorem zeq:JO X C none dO0:=PO.weak zsy λY H Q ⟨G,w,Z,r,p⟩=>p G H w (.refl _ _ _) r
theorem zem(h:JE X C a fa):JO X C (some a) (dO1 fa):=PO.weak (zs6 h) λY H Q ⟨G,w,Z,r,p⟩=>by
 refine zfa (κ:=λG H w=>kO X.K C Y Q G H w) zuQ r p λd Z1 v G1 H1 w1 r1 s1 q1 p1=>?_;cases d with
 |int i=>exact ⟨i,zay q1,p1 G1 H1 w1 (.refl _ _ _) r1⟩
 |_=>exact p1.elim
theorem seqO{K:W.Frag}{Y:L2.St}{α:Type}{κ:zpx α}(st:Stp κ){G H:Hp}{w:Wn}{Z:Ev}{fa:DO}{g:Option Int×Ev->R α}{Q:Option Int->Hp->Prop}(r:Rel K C G w Z Y H)(p:zcz C.ex (κ G H w) ((fa Z).bind g))
  (k:∀ o Z1 G1 H1 w1,Rel K C G1 w1 Z1 Y H1->zbB G H w G1 H1 w1->zcz C.ex (κ G1 H1 w1) (g (o,Z1))->Q o H1):tOd K C fa Y H Q:=by
 refine ⟨G,w,Z,r,?_⟩;cases e:fa Z with
 |ok a =>
  rw[e] at p;intro G' H' w' s' r';exact k a.1 a.2 G' H' w' r' s' (zcz.step st s' p)
 |er n=>rw[e] at p;exact p
 |no=>rw[e] at p;exact p
def ziX{α:Type}(xs:List α)(lo hi:Option Int):List α:=(xs.drop (HT.sIx xs.length 0 lo)).take (HT.sIx xs.length xs.length hi-HT.sIx xs.length 0 lo)
theorem zpf{K:W.Frag}{G:Hp}{ds:List Dt}{vs:List V}(h:za1 K G ds vs)(lo hi:Option Int):za1 K G (ziX ds lo hi) (zpn vs lo hi):=by unfold ziX zpn;rw[<- h.length];exact (h.drop _).take _
theorem zfE{K:W.Frag}{Y:L2.St}{G H:Hp}{w:Wn}{Z:Ev}{p:Addr}(r:Rel K C G w Z Y H)(hp:H p=none):w p=none:=by
 cases z:w p with
 |none=>rfl
 |some k=>exact absurd hp (r.wh p (by rw[z];simp))
end
structure Dfn(nw:Bool)(P:Program)(w:World)(K:W.Frag)(mg:Str->Option Value)(base:Heap)(CX:CXT)(xv:Nat->Value)(k:Nat)(x:Str)(ks:List Bool)(F:FD):Prop where
 ex:∃(f:Addr)(fd:FuncData)(ps:List Str),zgI P w K mg base CX k f fd ps (zpb nw K xv ks F)/\mg x=some (.ref f)/\W.keepIn K (.ref f)=true/\zfw K fd ps []/\∀ bs,F bs≠.no->zbG bs=ks
theorem Dfn.mono{nw:Bool}{P:Program}{w:World}{K:W.Frag}{mg:Str->Option Value}{base:Heap}{CX:CXT}{xv:Nat->Value}{k k':Nat}{x:Str}{ks:List Bool}{F:FD}(D:Dfn nw P w K mg base CX xv k x ks F)(h:k<=k'):Dfn nw P w K mg base CX xv k' x ks F:=by obtain ⟨f,fd,ps,h1,h2⟩:=D.ex;exact ⟨f,fd,ps,h1.mono h,h2⟩
section
variable{X:Cx}{C:Cn}{CX:CXT}{k k':Nat}{ks:List Bool}{Fd:FD}{x:Str}{p pos:Pos}{e:Expr}{es:List Expr}{far:DAr}
theorem za5(D:Dfn false X.prog X.w X.K X.mg X.base CX C.xv k x ks Fd)(hr:zd5 k' X.A)(hk:k<=k')(hx:zcC CX X (EXc C))(ha:JAr X C (e::es) far)(hg:Gl X x:=by rfl)(hdb:(x == ("__debug__" : Str))=false:=by decide)(he:starEach (e::es) X.env=(false,eval e X.env)::starEach es X.env:=by rfl)
  (hpl:(backTo pos (starEach es X.env)).any (·.1)=false:=by rfl):JE X C (.Call (.Name x p) (e::es) [] pos) (zad Fd far):=by
 obtain ⟨f,fd,ps,h1,h2,h3,h4,h5⟩:=D.ex;exact zrA h1 (hr.mono hk) hg h2 h3 h4 hx h5 ha hdb he hpl
end
section
variable{X:Cx}{C:Cn}{CX:CXT}{k k':Nat}{ks:List Bool}{Fd:FD}{x:Str}{p pos:Pos}{e:Expr}{es:List Expr}{far:DAr}
theorem zuJ(D:Dfn true X.prog X.w X.K X.mg X.base CX C.xv k x ks Fd)(hr:zd5 k' X.A)(hk:k<=k')(hx:zcC CX X (EXc C))(ha:JAr X C (e::es) far)(hg:Gl X x:=by rfl)(hdb:(x == ("__debug__" : Str))=false:=by decide)(he:starEach (e::es) X.env=(false,eval e X.env)::starEach es X.env:=by rfl)
  (hpl:(backTo pos (starEach es X.env)).any (·.1)=false:=by rfl):JN X C (.Call (.Name x p) (e::es) [] pos) (zgc Fd far):=by
 obtain ⟨f,fd,ps,h1,h2,h3,h4,h5⟩:=D.ex;exact zs0 h1 (hr.mono hk) hg h2 h3 h4 hx h5 ha hdb he hpl
end
def dNo:DS:=λ_=>.no
theorem zqh{X:Cx}{C:Cn}{st:Stmt}:JS X C st dNo:=λ_ _ _ _ _ _ ⟨_,_,_,_,p⟩=>p.elim
section
variable{X:Cx}{C:Cn}{a b c e:Expr}{fa fb fc:De}{pos:Pos}
def zgp(fa fb:De):DN:=λZ=>(fa Z).bind λa=>(fb a.2).bind λb=>match a.1,b.1 with
 |.lst x,.lst y=>if x.length+y.length<=16777216 then .ok (x++y,b.2) else .no
 |_,_=>.no
theorem zg1(ha:JE X C a fa)(hb:JE X C b fb):JN X C (.BinOp a .Add b pos) (zgp fa fb):=PE.weak (zs3 ztV ha hb) λY H Q ⟨G,w,Z,r,p⟩=>by
 refine zfa (κ:=λG H w=>kN X.K C Y Q G H w) zil r p λd Z1 v G1 H1 w1 r1 s1 q1 p1=>?_;refine zfa (κ:=λG H w=>kN X.K C Y Q G H w) zil r1 p1 λd2 Z2 v2 G2 H2 w2 r2 s2 q2 p2=>?_;dsimp only at p2;split at p2
 ·rename_i x y;split at p2
  ·rename_i hl;obtain ⟨ad,vs,rfl,h1,h2⟩:=zbi (q1.same s2.g);obtain ⟨bd,us,rfl,h3,h4⟩:=zbi q2;refine ⟨ad,bd,vs,us,rfl,rfl,r2.gh _ _ h1,r2.gh _ _ h3,by rw[<- h2.length,<- h4.length,zeH];exact hl,λp hp=>?_⟩;have gr:ze9 G2 H2 G2 (upd H2 p (.lst (vs++us))):=.newH r2.gh hp;exact p2 p _ G2 _ w2 gr.step (r2.grow gr) hp zan (r2.gh.free hp) (zfE r2 hp) (h2.append h4)
  ·exact p2.elim
 ·exact p2.elim
def dRep(fa fb:De):DN:=λZ=>(fa Z).bind λa=>(fb a.2).bind λb=>match a.1,b.1 with
 |.lst x,.int k=>if zcO k=true/\x.length * k.toNat<=16777216 then .ok ((List.replicate k.toNat x).flatten,b.2) else .no
 |_,_=>.no
theorem zlv{K:W.Frag}{G:Hp}{ds:List Dt}{vs:List V}(h:za1 K G ds vs):∀ k:Nat,za1 K G (List.replicate k ds).flatten (List.replicate k vs).flatten
 |0=>by simpa using za1.nil
 |k+1=>by rw[List.replicate_succ,List.replicate_succ,List.flatten_cons,List.flatten_cons];exact h.append (zlv h k)
theorem zsO(ha:JE X C a fa)(hb:JE X C b fb):JN X C (.BinOp a .Mult b pos) (dRep fa fb):=PE.weak (zs3 ztu ha hb) λY H Q ⟨G,w,Z,r,p⟩=>by
 refine zfa (κ:=λG H w=>kN X.K C Y Q G H w) zil r p λd Z1 v G1 H1 w1 r1 s1 q1 p1=>?_;refine zfa (κ:=λG H w=>kN X.K C Y Q G H w) zil r1 p1 λd2 Z2 v2 G2 H2 w2 r2 s2 q2 p2=>?_;dsimp only at p2;split at p2
 ·rename_i x k;split at p2
  ·rename_i hl;obtain ⟨ad,vs,rfl,h1,h2⟩:=zbi (q1.same s2.g);obtain ⟨b1,b2⟩:=zcV hl.1;refine ⟨ad,k,vs,rfl,zay q2,r2.gh _ _ h1,xwl,xwl,by rw[<- h2.length,zeH];exact hl.2,λp hp=>?_⟩;have gr:ze9 G2 H2 G2 (upd H2 p (.lst (List.replicate k.toNat vs).flatten)):=.newH r2.gh hp;exact p2 p _ G2 _ w2 gr.step (r2.grow gr) hp zan (r2.gh.free hp) (zfE r2 hp) (zlv h2 k.toNat)
  ·exact p2.elim
 ·exact p2.elim
def zuG(ta:TA):TE:=λY H Q=>ta Y H λvs H1=>∃ j:Int,vs=[.int j]/\∀ p,H1 p=none->Q (.ref p) (upd H1 p (.rng 0 j))
theorem ztt{p:Pos}{ta:TA}(hg:Gl X "range")(hm:X.mg "range"=none)(ha:PA X [e] ta)(hs:starEach [e] X.env=[(false,eval e X.env)]:=by rfl):PE X (.Call (.Name "range" p) [e] [] pos) (zuG ta):=by intro pS s Y H Q I h;refine PyProof.Rows.Call_ (zfn I hg hm PyProof.Rows.boot_range (PyProof.Rows.callWith_type1 (thn (ha pos pS s Y H _ I h) λus s1 ⟨vs,H1,I1,r1,q1⟩=>?_) hs rfl));obtain ⟨j,e1,q⟩:=q1;subst e1;obtain ⟨u,rfl,t,rfl⟩:=zhQ r1;exact call_range_1 ⟨.ref s1.heap.objs.size,_,I1.laid (o:=.rng 0 j) (λb u e=>waa _ e) (wal _) ⟨_,_,_,waj _ rfl⟩,rfl,q _ (I1.hok.fresh (wal _))⟩
theorem zh8{lo:Int}:∀(n:Nat)(acc:List Value),acc.length=n->(∀(j:Nat) v,acc[j]? = some v->∃ t,v=Value.int (lo+j) t)->zba ((List.range n).map λk=>V.int (lo+(k:Nat))) acc
 |0,[],_,_=>.nil
 |0,_::_,h,_=>by simp at h
 |n+1,[],h,_=>by simp at h
 |n+1,v::r,h,hv=>by
  rw[List.range_succ_eq_map,List.map_cons,List.map_map];obtain ⟨t,ht⟩:=hv 0 v rfl;refine .cons ⟨t,by simpa using ht⟩ ?_;have:=zh8 (lo:=lo+1) n r (by simpa using h) λj v' e=>by obtain ⟨t',ht'⟩:=hv (j+1) v' (by simpa using e);refine ⟨t',ht'.trans ?_⟩;congr 1;lia
  have e:(λk=>V.int (lo+1+(k:Nat)))=((λk:Nat=>V.int (lo+(k:Nat))) ∘ Nat.succ):=by funext k;show V.int _=V.int _;congr 1;simp only[Nat.succ_eq_add_one];lia
  rw[e] at this;exact this
theorem zib(hc:X.calm=true):zcN X (.type "list") (λxs H Q=>∃(p:Addr)(j:Int),xs=[.ref p]/\H p=some (.rng 0 j)/\0<=j/\j<=16777216/\∀ l,H l=none->Q (.ref l) (upd H l (.lst ((List.range j.toNat).map λk=>V.int (0+(k:Nat)))))):=by
 intro pS s Y H xs us Q I r h;obtain ⟨p,j,rfl,hp,j0,j1,q⟩:=h;obtain ⟨u,rfl,ru⟩:=zhQ r;cases ru;obtain ⟨t,u,v,e⟩:=(show zc2 X.prog X.w H s.heap p (.rng 0 j) from I.hok p _ hp)
 refine call_list_range (n:=j.toNat) (I.ok.hd hc) e (small_one xwl xwl xwl xwl) (by rw[rangeSize_one];split <;> lia) xwl λh' tk acc' c' hk hS hacc=>?_;refine ⟨.ref s.heap.objs.size,_,I.laid (t':=tk) hk (wal _) (o:=.lst ((List.range j.toNat).map λk=>V.int (0+(k:Nat)))) ⟨?_,acc'.toList,c',?_,by simpa using hS⟩,rfl,q _ (I.hok.fresh (wal _))⟩
 ·rw[List.length_map,List.length_range,zeH];lia
 ·refine zh8 j.toNat acc'.toList (by rw[Array.length_toList];exact hacc.1) λi v' ev=>?_;obtain ⟨t',ht'⟩:=hacc.2 i v' (by simpa using ev);exact ⟨t',by rw[ht',Int.mul_one]⟩
def zm0(fa:De):DN:=λZ=>(fa Z).bind λa=>match a.1 with
 |.int j=>if 0<=j/\j<=16777216 then .ok (zaX 0 j.toNat,a.2) else .no
 |_=>.no
theorem zh0{K:W.Frag}{G:Hp}{lo:Int}:∀(l:List Nat),za1 K G (l.map λk=>.int (lo+(k:Nat))) (l.map λk=>V.int (lo+(k:Nat)))
 |[]=>za1.nil
 |k::r=>za1.cons (zaD _) (zh0 r)
theorem zsw{p1 p2 pos2:Pos}(hc:X.calm=true)(hg:Gl X "list")(hm:X.mg "list"=none)(hg2:Gl X "range")(hm2:X.mg "range"=none)(ha:JE X C e fa)(hs:starEach [e] X.env=[(false,eval e X.env)]:=by rfl)
  (hs2:starEach [.Call (.Name "range" p2) [e] [] pos2] X.env=(false,eval (.Call (.Name "range" p2) [e] [] pos2) X.env)::starEach [] X.env:=by rfl) (hpl:(backTo pos (starEach [] X.env)).any (·.1)=false:=by rfl) :
  JN X C (.Call (.Name "list" p1) [.Call (.Name "range" p2) [e] [] pos2] [] pos) (zm0 fa) :=
 PE.weak (zgE (zib hc) hg hm PyProof.Rows.boot_list (zbk (ztt hg2 hm2 (zac ha zaq (by rw[hs];rfl)) hs) zcR hs2) xwd xwd hs2 hpl) λY H Q ⟨G,w,Z,r,p⟩=>by
  unfold zm0 at p;refine ⟨G,w,Z,r,?_⟩;unfold dA dA0;cases e:fa Z with
  |ok x =>
   obtain ⟨d,Z1⟩:=x;rw[e] at p;intro vs G1 H1 w1 s1 r1 q;obtain ⟨v,t,rfl,q1,q2⟩:=q.cons_inv;rw[q2.nil_inv];have p1:=zcz.step (κ:=λG H w=>kN X.K C Y Q G H w) zil s1 p;cases d with
   |int j =>
    refine ⟨j,by rw[zay q1],λp hp=>?_⟩;have p1:zcz C.ex (kN X.K C Y Q G1 H1 w1) (if 0<=j/\j<=16777216 then .ok (zaX 0 j.toNat,Z1) else .no):=p1;by_cases hj:0<=j/\j<=16777216
    ·rw[if_pos hj] at p1;refine ⟨p,j,rfl,zan,hj.1,hj.2,λl hl=>?_⟩;have gr:ze9 G1 H1 G1 (upd H1 p (.rng 0 j)):=.newH r1.gh hp;have r2:=r1.grow gr;have gr2:ze9 G1 (upd H1 p (.rng 0 j)) G1 (upd (upd H1 p (.rng 0 j)) l (.lst ((List.range j.toNat).map λk=>V.int (0+(k:Nat))))):=.newH r2.gh hl;have hl1:H1 l=none:=gr.h.free hl;exact p1 l _ G1 _ w1 (gr.step.trans gr2.step) (r2.grow gr2) hl1 zan (r1.gh.free hl1) (zfE r1 hl1) (zh0 _)
    ·rw[if_neg hj] at p1;exact p1.elim
   |_=>exact waP p1
  |er n=>rw[e] at p;exact p
  |no=>rw[e] at p;exact p
end
section
variable{X:Cx}{C:Cn}{a b c e:Expr}{fa fb fc:De}{pos:Pos}
theorem zsf:OpR X (compareOp .IsNot) (λx y H Q=>∃ c d,x=.bl c/\y=.bl d/\Q (.bl (c != d)) H):=by intro pS s Y H x y v u Q I rx ry h;obtain ⟨c,d,rfl,rfl,q⟩:=h;cases rx;cases ry;exact PyProof.Rows.isnot_bool (zuy I q rfl)
def zpD(neg:Bool):Dt->Dt->R Dt
 |.bl b,.bl k=>.ok (.bl (if neg then b != k else b == k))
 |_,_=>.no
theorem zqq(neg:Bool):zgt (zpD neg):=λx y n h=>by unfold zpD at h;split at h <;> cases h
theorem zoH{K:W.Frag}:Op2 K (λx y H Q=>∃ c d,x=.bl c/\y=.bl d/\Q (.bl (c != d)) H) (zpD true):=λG H x y dx dy z Q gh hx hy e k=>by
 unfold zpD at e;split at e
 ·cases e;exact ⟨_,_,zdb hx,zdb hy,k _ G H (.refl gh) (zbF _)⟩
 ·cases e
theorem zrQ(ha:JE X C a fa)(hb:JE X C b fb):JT X C (.Compare a [.IsNot] [b] pos) (dTB (dOp (zpD true) fa fb)):=zhc zsf zoH (zqq _) ha hb (zdY _)
def zrP(a:Int):List Int->List Int
 |[]=>[a]
 |b::r=>if a<=b then a::b::r else b::zrP a r
def zeV:List Int->List Int
 |[]=>[]
 |a::r=>zrP a (zeV r)
theorem zgL(a:Int):∀ l:List Int,(zrP a l).Perm (a::l)
 |[]=>.refl _
 |b::r=>by
  unfold zrP;split
  ·exact .refl _
  ·exact ((zgL a r).cons b).trans (.swap a b r)
theorem zfA:∀ l:List Int,(zeV l).Perm l
 |[]=>.refl _
 |a::r=>(zgL a _).trans ((zfA r).cons a)
theorem zlE(a:Int):∀ l:List Int,l.Pairwise (· <= ·)->(zrP a l).Pairwise (· <= ·)
 |[],_=>by simp[zrP]
 |b::r,h=>by
  unfold zrP;rw[List.pairwise_cons] at h;split
  ·rename_i z;refine List.pairwise_cons.mpr ⟨λx hx=>?_,List.pairwise_cons.mpr h⟩;rcases wap.mp hx with rfl|hx
   ·exact z
   ·exact Int.le_trans z (h.1 x hx)
  ·rename_i z;refine List.pairwise_cons.mpr ⟨λx hx=>?_,zlE a r h.2⟩;rcases wap.mp ((zgL a r).mem_iff.mp hx) with rfl|hx
   ·lia
   ·exact h.1 x hx
theorem zjE:∀ l:List Int,(zeV l).Pairwise (· <= ·)
 |[]=>.nil
 |a::r=>zlE a _ (zjE r)
theorem intsAre_of:∀{ns:List Int}{us:List Value},zba (ns.map V.int) us->PyProof.Rows.IntsAre us ns
 |[],_,.nil=>.nil
 |n::ns,_,.cons ⟨t,h⟩ r=>by subst h;exact .cons n t (intsAre_of r)
theorem zes:∀{ns:List Int}{us:List Value},PyProof.Rows.IntsAre us ns->zba (ns.map V.int) us
 |_,_,.nil=>.nil
 |_,_,.cons n t h=>.cons ⟨t,rfl⟩ (zes h)
theorem zm3:zcN X (.builtin "sorted") (λxs H Q=>∃(p:Addr)(ns:List Int),xs=[.ref p]/\SqL X.K H p (ns.map V.int)/\ns.length<64/\∀ l,H l=none->Q (.ref l) (upd H l (.lst ((zeV ns).map V.int)))):=by
 intro pS s Y H xs us Q I r h;obtain ⟨p,ns,rfl,hq,hl,q⟩:=h;obtain ⟨u,rfl,ru⟩:=zhQ r;cases ru;obtain ⟨its,rv,pl,hz⟩:=I.list hq;have hlen:its.length=ns.length:=by rw[<- rv.length];simp
 refine PyProof.Rows.sorted_ints pl.isList (intsAre_of rv) xwl λout ns' a1 a2 a3=>?_;have e:ns'=zeV ns:=W.lks_uniq (a2.trans (zfA ns).symm) a3 (zjE ns);subst e;obtain ⟨c,hc⟩:=PyProof.Rows.sortedAll_at s.heap its out;refine ⟨.ref (s.heap.objs.size+1),_,I.laid (t':=s.toks) (λb o=>PyProof.Rows.sortedAll_old) (Nat.le_succ _) (o:=.lst ((zeV ns).map V.int)) ⟨?_,out.toList,c,zes a1,?_⟩,rfl,q _ (I.hok.fresh (Nat.le_succ _))⟩
 ·rw[List.length_map,(zfA ns).length_eq,zeH];lia
 ·simpa using hc
def zcS:List Dt->R (List Dt)
 |[.lst l]=>match ziY l with
  |some ns=>if ns.length<64 then .ok ((zeV ns).map .int) else .no
  |none=>.no
 |_=>.no
theorem zgO{K:W.Frag}{G:Hp}:∀(ns:List Int),za1 K G (ns.map .int) (ns.map V.int)
 |[]=>za1.nil
 |n::r=>za1.cons (zaD n) (zgO r)
theorem zpH{K:W.Frag}:FnN K (λxs H Q=>∃(p:Addr)(ns:List Int),xs=[.ref p]/\SqL K H p (ns.map V.int)/\ns.length<64/\∀ l,H l=none->Q (.ref l) (upd H l (.lst ((zeV ns).map V.int)))) zcS:=λG H vs ds z Q gh hr e k=>by
 unfold zcS at e;split at e
 ·split at e
  ·rename_i ns en;split at e
   ·rename_i hl;obtain ⟨v,rfl,h1⟩:=zge hr;obtain ⟨a,us,rfl,h2,h3⟩:=zbi h1;cases e;rw[zgF h3 en] at h2;exact ⟨a,ns,rfl,SqL.of (gh _ _ h2),hl,λl hl=>k l _ hl (zgO _)⟩
   ·cases e
  ·cases e
 ·cases e
theorem zpQ:zlk zcS:=λx n h=>by
 unfold zcS at h;split at h
 ·split at h
  ·split at h <;> cases h
  ·cases h
 ·cases h
theorem zlO{x:Expr}{p:Pos}(hg:Gl X "sorted")(hm:X.mg "sorted"=none)(ha:JE X C x fa)(hs:starEach [x] X.env=(false,eval x X.env)::starEach [] X.env:=by rfl)(hpl:(backTo pos (starEach [] X.env)).any (·.1)=false:=by rfl) :
  JN X C (.Call (.Name "sorted" p) [x] [] pos) (ze8 zcS (dA fa dA0)) :=
 zpp zpH zpQ zm3 hg hm PyProof.Rows.boot_sorted (zac ha zaq hs) xwd xwd hs hpl
end
section
variable{prog:Program}{w:World}{A:Around}{E:Value->Shared->Prop}{s:Shared}
theorem bnd:type_of% @wpAny_bind:=@wpAny_bind
theorem zlC{it t:Addr}{i:Nat}{its:Array Value}{x:Value}{Q:Value->Shared->Prop}(k1:s.heap.IsTupleIter it t i)(k2:s.heap.IsTuple t its)(kx:its[i]? = some x)
  (kQ:∀ h',h'.IsTupleIter it t (i+1)->Heap.SameBut it s.heap h'->Q x { s with heap:=h' }):wpAny (model prog w) A (Builtin.SmallTypes.nextOf (.ref it)) Q E s:=by
 obtain ⟨o,e1,e2,e3⟩:=id k1;obtain ⟨o',e4,_,n',e5⟩:=k2;unfold Builtin.SmallTypes.nextOf;refine bnd (wpAny_callSpecial?_slot (name:=Str.ofString "__next__") k1.typeIs F.slot_tuple_iterator_next (wpAny_call_entry F.slot_tuple_iterator_next k1.typeIs F.entry_tuple_iterator_next ?_ (F.args_tuple_iterator_next_1 _)));show wpAny _ _ (field (.ref it) 0 >>= _) _ _ _;refine bnd (wpAny_field e1 e3 (x:=.ref t) rfl ?_);show wpAny _ _ (if (Value.ref t == Value.none)=true then _ else _) _ _ _;have nn:¬ ((Value.ref t == Value.none)=true):=Bool.false_ne_true;rw[if_neg nn];show wpAny _ _ (field (.ref it) 1 >>= _) _ _ _;refine bnd (wpAny_field e1 e3 (x:=.int i 0) rfl ?_);show wpAny _ _ (seqItems? (.ref t) >>= _) _ _ _;refine bnd (wpAny_seqItems e4 e5 ?_);simp only[Int.toNat_natCast,kx];refine bnd (wpAny_setField e1 e3 xws (wad ⟨x,rfl,wad (kQ _ ⟨_,Heap.get?_update_self _ e1 (Obj.isFreed_of_fields (Obj.data_mapFields e3 _)),(Obj.cls_mapFields ..).trans e2,?_⟩ (Heap.SameBut.update ..))⟩));rw[Obj.data_mapFields e3];simp[rawInt]
theorem zr8{it t:Addr}{i:Nat}{its:Array Value}{Q:Value->Shared->Prop}(hh:A.handled=none)(k1:s.heap.IsTupleIter it t i)(k2:s.heap.IsTuple t its)(kx:its[i]? = none)
  (kE:∀ h' e,Heap.ExtBut it s.heap h'->(∃ o,h'.get? e=some o/\o.cls=.type "StopIteration")->E (.ref e) { s with heap:=h' }):wpAny (model prog w) A (Builtin.SmallTypes.nextOf (.ref it)) Q E s:=by
 obtain ⟨o,e1,e2,e3⟩:=id k1;obtain ⟨o',e4,_,n',e5⟩:=k2;unfold Builtin.SmallTypes.nextOf;refine bnd (wpAny_callSpecial?_slot (name:=Str.ofString "__next__") k1.typeIs F.slot_tuple_iterator_next (wpAny_call_entry F.slot_tuple_iterator_next k1.typeIs F.entry_tuple_iterator_next ?_ (F.args_tuple_iterator_next_1 _)));show wpAny _ _ (field (.ref it) 0 >>= _) _ _ _;refine bnd (wpAny_field e1 e3 (x:=.ref t) rfl ?_);show wpAny _ _ (if (Value.ref t == Value.none)=true then _ else _) _ _ _;have nn:¬ ((Value.ref t == Value.none)=true):=Bool.false_ne_true;rw[if_neg nn];show wpAny _ _ (field (.ref it) 1 >>= _) _ _ _;refine bnd (wpAny_field e1 e3 (x:=.int i 0) rfl ?_);show wpAny _ _ (seqItems? (.ref t) >>= _) _ _ _;refine bnd (wpAny_seqItems e4 e5 ?_);simp only[Int.toNat_natCast,kx];refine bnd (wpAny_rule (wab (wpAny_setField e1 e3 xws ?_)));show wpAny _ _ (newExc (.type "StopIteration") [] >>= _) _ _ _;refine bnd ?_;simp only[newExc,newTuple];refine bnd (wpAny_newObj_type ?_ (by size_fits));refine (wab (m:=firstArgMember _ _)) (wpAny_of_eq (a:=Value.none) (by first|rfl|(simp only[firstArgMember];rfl)) ?_);refine wpAny_newObj_type ?_ (by size_fits);simp only[raiseNew];refine bnd (wpAny_handled ?_)
 first|rw[show A.in1.handled=none from hh]|rw[hh]
 refine bnd (wad (wpAny_throw ?_));exact kE _ _ (((Heap.SameBut.update ..).extBut.push _).push _) ⟨_,waj _ rfl,rfl⟩
structure Zp(h:Heap)(z TI TO i1 i2 l1 l2:Addr)(f0:Value)(k:Nat):Prop where
 z:IsZip h z TI TO f0
 ti:IsPair h TI (.ref i1) (.ref i2)
 to:∃ a b,IsPair h TO a b
 a1:h.IsTupleIter i1 l1 k
 a2:h.IsTupleIter i2 l2 k
structure ZpD(z TI TO i1 i2:Addr):Prop where
 d1:TI≠z
 d2:TO≠z
 d3:i1≠z
 d4:i2≠z
 d5:TI≠TO
 d6:TI≠i1
 d7:TI≠i2
 d8:TO≠i1
 d9:TO≠i2
 d0:i1≠i2
theorem Zp.keep{h h':Heap}{z TI TO i1 i2 l1 l2:Addr}{f0:Value}{k:Nat}(p:Zp h z TI TO i1 i2 l1 l2 f0 k)(e:∀ b∈[z,TI,TO,i1,i2],∀ o,h.get? b=some o->h'.get? b=some o):Zp h' z TI TO i1 i2 l1 l2 f0 k :=
 ⟨e z xws _ p.z,e TI xws _ p.ti,let ⟨a,b,q⟩:=p.to;⟨a,b,e TO xws _ q⟩,p.a1.at λo q=>e i1 xws o q,p.a2.at λo q=>e i2 xws o q⟩
variable{z TI TO i1 i2 l1 l2:Addr}{k:Nat}{xs ys:Array Value}
theorem zkZ{x y:Value}{Q:Value->Shared->Prop}(D:ZpD z TI TO i1 i2)(p:Zp s.heap z TI TO i1 i2 l1 l2 .none k)(q1:s.heap.IsTuple l1 xs)(q2:s.heap.IsTuple l2 ys)(n1:∀ b∈[z,TI,TO,i1,i2],b≠l1)(n2:∀ b∈[z,TI,TO,i1,i2],b≠l2)
  (hx:xs[k]? = some x) (hy:ys[k]? = some y)
  (hQ:∀ h',Zp h' z TI TO i1 i2 l1 l2 (rawInt s.heap.objs.size) (k+1)->h'.get? s.heap.objs.size=some { cls:=.type "tuple",data:=.seq #[x,y] }->(∀ c o,c≠z->c≠TO->c≠i1->c≠i2->s.heap.get? c=some o->h'.get? c=some o)->Q (.ref s.heap.objs.size) { s with heap:=h' }) :
  wpAny (model prog w) A (Builtin.«zip.__next__» ⟨[.ref z],[]⟩) (λfin s'=>∃ v,fin=.done (.ret v)/\Q v s') E s:=by
 obtain ⟨pz,pti,⟨oa,ob,pto⟩,pa1,pa2⟩:=p;show wpAny _ _ (field (.ref z) 2 >>= _) _ _ _;refine bnd (wpAny_field pz rfl (x:=.bool false) rfl ?_);show wpAny _ _ (field (.ref z) 3 >>= _) _ _ _;refine bnd (wpAny_field pz rfl (x:=.ref TI) rfl ?_);refine bnd (wpAny_seqItems pti rfl ?_);show wpAny _ _ (Builtin.SmallTypes.ownedTupleIsFree (.ref z) >>= _) _ _ _;refine bnd ?_;unfold Builtin.SmallTypes.ownedTupleIsFree;refine bnd (wpAny_field pz rfl (x:=.none) rfl (wad ?_));simp only[if_true];refine bnd (wpAny_rule ?_);refine bnd (wpAny_field pz rfl (x:=.ref TO) rfl ?_);refine bnd (wpAny_setField_rec pz xws λg1 pz1 sb1=>?_);have pz1:IsZip g1 z TI TO .ellipsis:=pz1;refine bnd ?_;simp only[List.zipIdx_cons,List.zipIdx_nil,List.forIn_cons,List.forIn_nil];refine bnd (wab (wpAny_onRaise ?_));show wpAny _ _ (Builtin.SmallTypes.nextOf (.ref i1) >>= _) _ _ _;refine bnd (zlC (pa1.extBut sb1.extBut D.d3) (q1.extBut sb1.extBut (Ne.symm (n1 z xws))) hx λg2 pa1' sb2=>wad ?_);have t2:IsPair g2 TO oa ob:=sb2.extBut _ _ D.d8 (sb1.extBut _ _ D.d2 pto);refine bnd (wpAny_seqItems t2 rfl ?_);refine bnd (wpAny_updateSeq_pair t2 λg3 t3 sb3=>?_);have t3:IsPair g3 TO x ob:=t3;refine bnd (wpAny_letGo (wad ?_));refine bnd (wab (wpAny_onRaise ?_));show wpAny _ _ (Builtin.SmallTypes.nextOf (.ref i2) >>= _) _ _ _;refine bnd (zlC (((pa2.extBut sb1.extBut D.d4).extBut sb2.extBut D.d0.symm).extBut sb3.extBut D.d9.symm)
  (((q2.extBut sb1.extBut (Ne.symm (n2 z xws))).extBut sb2.extBut (Ne.symm (n2 i1 xws))).extBut sb3.extBut (Ne.symm (n2 TO xws))) hy λg4 pa2' sb4=>wad ?_)
 have t4:IsPair g4 TO x ob:=sb4.extBut _ _ D.d9 t3;refine bnd (wpAny_seqItems t4 rfl ?_);refine bnd (wpAny_updateSeq_pair t4 λg5 t5 sb5=>?_);have t5:IsPair g5 TO x y:=t5;refine bnd (wpAny_letGo (wad (wad ?_)));refine bnd (wpAny_seqItems t5 rfl ?_);refine bnd (wpAny_newTuple ?_);have sz:g5.objs.size=s.heap.objs.size:=by rw[sb5.1,sb4.1,sb3.1,sb2.1,sb1.1]
 have z5:IsZip g5 z TI TO .ellipsis:=sb5.extBut _ _ D.d2.symm (sb4.extBut _ _ D.d4.symm (sb3.extBut _ _ D.d2.symm (sb2.extBut _ _ D.d3.symm pz1)));have k5:∀ c o,c≠z->c≠TO->c≠i1->c≠i2->s.heap.get? c=some o->g5.get? c=some o:=λc o c1 c2 c3 c4 e =>
  sb5.extBut _ _ c2 (sb4.extBut _ _ c4 (sb3.extBut _ _ c2 (sb2.extBut _ _ c3 (sb1.extBut _ _ c1 e))))
 have p1:g5.IsTupleIter i1 l1 (k+1):=((pa1'.extBut sb3.extBut D.d8.symm).extBut sb4.extBut D.d0).extBut sb5.extBut D.d8.symm;have p2:g5.IsTupleIter i2 l2 (k+1):=pa2'.extBut sb5.extBut D.d9.symm;have ltz:z<g5.objs.size:=wai z5;show wpAny _ _ (Builtin.SmallTypes.ownedTupleHandOut (.ref z) (.ref g5.objs.size) >>= _) _ _ _;refine bnd ?_;unfold Builtin.SmallTypes.ownedTupleHandOut;have z6:IsZip (g5.push { cls:=.type "tuple",data:=.seq #[x,y] }) z TI TO .ellipsis:=waa _ z5;refine bnd (wpAny_setField_rec z6 xws λg7 z7 sb7=>?_);have z7:IsZip g7 z TI TO (rawInt g5.objs.size):=z7;refine wpAny_setField_rec z7 xws λg8 z8 sb8=>?_;have z8:IsZip g8 z TI TO (rawInt g5.objs.size):=z8;have up:∀ c o,c≠z->g5.get? c=some o->g8.get? c=some o:=λc o c1 e=>sb8.extBut _ _ c1 (sb7.extBut _ _ c1 (waa _ e));have t8:g8.get? g5.objs.size=some { cls:=.type "tuple",data:=.seq #[x,y] }:=sb8.extBut _ _ (Nat.ne_of_gt ltz) (sb7.extBut _ _ (Nat.ne_of_gt ltz) (waj _ rfl));rw[sz] at z8 t8;refine wad ⟨_,rfl,?_⟩;show Q (.ref g5.objs.size) _;rw[sz];exact hQ g8 ⟨z8,up _ _ D.d1 (k5 _ _ D.d1 D.d5 D.d6 D.d7 pti),⟨x,y,up _ _ D.d2 t5⟩,p1.at λo e=>up _ o D.d3 e,p2.at λo e=>up _ o D.d4 e⟩ t8 λc o c1 c2 c3 c4 e=>up c o c1 (k5 c o c1 c2 c3 c4 e)
theorem zmu{Q:PySem.Fin->Shared->Prop}(hh:A.handled=none)(D:ZpD z TI TO i1 i2)(p:Zp s.heap z TI TO i1 i2 l1 l2 .none k)(q1:s.heap.IsTuple l1 xs)(n1:∀ b∈[z,TI,TO,i1,i2],b≠l1)
  (hx:xs[k]? = none)
  (hE:∀ h' e,(∀ c o,c≠z->c≠TO->c≠i1->c≠i2->s.heap.get? c=some o->h'.get? c=some o)->(∃ o,h'.get? e=some o/\o.cls=.type "StopIteration")->E (.ref e) { s with heap:=h' }) :
  wpAny (model prog w) A (Builtin.«zip.__next__» ⟨[.ref z],[]⟩) Q E s:=by
 obtain ⟨pz,pti,⟨oa,ob,pto⟩,pa1,pa2⟩:=p;show wpAny _ _ (field (.ref z) 2 >>= _) _ _ _;refine bnd (wpAny_field pz rfl (x:=.bool false) rfl ?_);show wpAny _ _ (field (.ref z) 3 >>= _) _ _ _;refine bnd (wpAny_field pz rfl (x:=.ref TI) rfl ?_);refine bnd (wpAny_seqItems pti rfl ?_);show wpAny _ _ (Builtin.SmallTypes.ownedTupleIsFree (.ref z) >>= _) _ _ _;refine bnd ?_;unfold Builtin.SmallTypes.ownedTupleIsFree;refine bnd (wpAny_field pz rfl (x:=.none) rfl (wad ?_));simp only[if_true];refine bnd (wpAny_rule ?_);refine bnd (wpAny_field pz rfl (x:=.ref TO) rfl ?_);refine bnd (wpAny_setField_rec pz xws λg1 pz1 sb1=>?_);have pz1:IsZip g1 z TI TO .ellipsis:=pz1;refine bnd ?_;simp only[List.zipIdx_cons,List.zipIdx_nil,List.forIn_cons,List.forIn_nil];refine bnd (wab (wpAny_onRaise ?_));show wpAny _ _ (Builtin.SmallTypes.nextOf (.ref i1) >>= _) _ _ _;refine bnd (zr8 hh (pa1.extBut sb1.extBut D.d3) (q1.extBut sb1.extBut (Ne.symm (n1 z xws))) hx λg2 e sb2 he=>?_);obtain ⟨oe,e1,e2⟩:=he;have z2:IsZip g2 z TI TO .ellipsis:=sb2 _ _ D.d3.symm pz1;have ez:e≠z:=λq=>by subst q;rw[z2] at e1;cases e1;simp at e2
 exact wpAny_setField_rec z2 xws λg3 _ sb3=>hE g3 e (λc o c1 _ c3 _ q=>sb3.extBut _ _ c1 (sb2 _ _ c3 (sb1.extBut _ _ c1 q))) ⟨oe,sb3.extBut _ _ ez e1,e2⟩
end
section
variable{X:Cx}{pS:List (Addr×Obj)}{Y:L2.St}{H:Hp}{s:Shared}
theorem zrF{a b:Addr}{xs:List V}(I:L2.Inv X pS Y H s)(hf:ziR X pS H b)(hs:SqT X.K H a xs):b≠a:=by
 rintro rfl;rcases hs with (h|⟨o,h⟩)|⟨o,its,n,h,_⟩
 ·rw[hf.1] at h;cases h
 ·rw[hf.1] at h;cases h
 ·have hb:=I.mod.kin b o h;rcases hf.2.2.2.1 with z|z
  ·exact I.ok.noex b o hb z
  ·exact absurd (was (wai hb) (waO I.ok.bsz z)) (waM _)
theorem zgv{fp:List Addr}{h':Heap}{o:HO}{a:Addr}{t':Nat}(I:L2.Inv X pS Y H s)(hf:∀ b∈fp,ziR X pS H b)(k:∀ b ob,b∉fp->s.heap.get? b=some ob->h'.get? b=some ob)(hp:s.heap.objs.size<=a)(ht:∀ b ob,s.heap.get? b=some ob->∃ ob',h'.get? b=some ob')
  (new:zc2 X.prog X.w (upd H a o) h' a o):L2.Inv X pS Y (upd H a o) { s with heap:=h',toks:=t' }:=by
 have hn:=I.hok.fresh hp;have nf:∀ b u,H b=some u->b∉fp:=λb u e z=>by rw[(hf b z).1] at e;cases e
 refine I.call (g':=s.gens) (d':=s.drawn) (ch:=fp) ⟨λb u q _ _ hx=>k b u hx q,λb u q _ _ hx=>⟨u.slots,k b u hx q⟩,λb u q n _=>?_,λb u q hx=>⟨u,k b u hx q⟩,λb xs q=>?_,λb u xs q=>?_,λb ps q=>⟨#[],?_⟩⟩ (λb u e=>?_) I.bare
  λb hb=>⟨(hf b hb).2.2.2.1,(hf b hb).2.1,(hf b hb).2.2.2.2.1,(hf b hb).2.2.2.2.2⟩
 ·rw[zaj (Nat.ne_of_lt (Nat.lt_of_lt_of_le (Heap.lt_size q) hp))];exact n
 ·rw[zaj (zak q hn)];exact q
 ·rw[zaj (zak q hn)];exact q
 ·rw[zaj (zak q hn),q];simp
 ·by_cases hb:b=a
  ·subst hb;rw[zan] at e;cases e;exact new
  ·rw[zaj hb] at e;refine (I.hok b u e).stay (λc v hc q=>k c v ?_ q) (λc q=>by rw[zaj (zak q hn)];exact q) λc xs q=>by rw[zaj (zak q hn)];exact q
   rcases hc with z|z
   ·rw[z];exact nf b u e
   ·exact nf c _ z
theorem zgX{fp:List Addr}{h':Heap}{t':Nat}(I:L2.Inv X pS Y H s)(hf:∀ b∈fp,ziR X pS H b)(k:∀ b ob,b∉fp->s.heap.get? b=some ob->h'.get? b=some ob):L2.Inv X pS Y H { s with heap:=h',toks:=t' }:=by
 have nf:∀ b u,H b=some u->b∉fp:=λb u e z=>by rw[(hf b z).1] at e;cases e
 refine I.call (g':=s.gens) (d':=s.drawn) (ch:=fp) ⟨λb u q _ _ hx=>k b u hx q,λb u q _ _ hx=>⟨u.slots,k b u hx q⟩,λb u q n _=>n,λb u q hx=>⟨u,k b u hx q⟩,λb xs q=>q,λb u xs q=>q,λb ps q=>⟨#[],by rw[q];simp⟩⟩ (λb u e=>?_) I.bare
  λb hb=>⟨(hf b hb).2.2.2.1,(hf b hb).2.1,(hf b hb).2.2.2.2.1,(hf b hb).2.2.2.2.2⟩
 refine (I.hok b u e).stay (λc v hc q=>k c v ?_ q) (λ_ q=>q) λ_ _ q=>q;rcases hc with z|z
 ·rw[z];exact nf b u e
 ·exact nf c _ z
end
def Itz(K:W.Frag)(a b:Addr):It :=
 ⟨λi H=>∃ xs ys x y,SqT K H a xs/\SqT K H b ys/\xs[i]? = some x/\ys[i]? = some y,
   λi H v H'=>∃ p x y,v=.ref p/\H p=none/\H'=upd H p (.tup [x,y])/\(∀ xs,SqT K H a xs->xs[i]? = some x)/\∀ ys,SqT K H b ys->ys[i]? = some y,
   λi H=>∃ xs,SqT K H a xs/\xs.length<=i⟩
theorem zpY{P:Program}{w:World}{K:W.Frag}{elts:List Expr}{x1}{ps:Pos}{a b z TI TO i1 i2:Addr}(D:ZpD z TI TO i1 i2):zpg P w K (.Tuple elts x1 ps) (Itz K a b) [z,TI,TO,i1,i2] z (λi h=>Zp h z TI TO i1 i2 a b .none i) where
 mem:=by simp
 obj:=λi h st c hc=>by
  obtain ⟨s1,s2,⟨oa,ob,s3⟩,⟨o4,s4,_,d4⟩,⟨o5,s5,_,d5⟩⟩:=st;simp only[wap,wak,or_false] at hc;rcases hc with rfl|rfl|rfl|rfl|rfl
  ·exact ⟨_,s1,λv q=>by cases q⟩
  ·exact ⟨_,s2,λv q=>by cases q⟩
  ·exact ⟨_,s3,λv q=>by cases q⟩
  ·exact ⟨_,s4,λv q=>by rw[d4] at q;cases q⟩
  ·exact ⟨_,s5,λv q=>by rw[d5] at q;cases q⟩
 keep:=λi h h' st k=>st.keep k
 item:=by
  intro X hP hw hK hc i pS s Y H E I hf st hg;subst hP hw hK;obtain ⟨xs,ys,x,y,q1,q2,hx,hy⟩:=hg;obtain ⟨its,rv,p,hz⟩:=I.tuple q1;obtain ⟨jts,rw',p',hz'⟩:=I.tuple q2;obtain ⟨u,hu,ru⟩:=rv.get hx;obtain ⟨v,hv,rv'⟩:=rw'.get hy;have hT:s.TypeIs (.ref z) "zip":=⟨_,st.z,rfl⟩
  unfold pyNext;refine wab (wpAny_attempt (wpAny_callSpecial?_slot (name:=Str.ofString "__next__") hT F.slot_zip_next (wpAny_call_entry F.slot_zip_next hT F.entry_zip_next
   (zkZ (l1:=a) (l2:=b) (k:=i) (x:=u) (y:=v) D st (show s.heap.IsTuple a its.toArray from p) (show s.heap.IsTuple b jts.toArray from p') (λc hc=>zrF I (hf c hc) q1) (λc hc=>zrF I (hf c hc) q2) (by simpa using hu) (by simpa using hv) λh' st' ht hk=>wad ?_) (F.args_zip_next_1 _))))
  refine ⟨_,rfl,wpAny_letOwnedTupleGo_zip st'.z λh2 hz2 sb=>?_⟩;have hzp:∀ c∈[z,TI,TO,i1,i2],c≠s.heap.objs.size:=λc hc q=>by
   obtain ⟨s1,s2,⟨oa,ob,s3⟩,⟨o4,s4,_⟩,⟨o5,s5,_⟩⟩:=st;simp only[wap,wak,or_false] at hc;subst q;rcases hc with rfl|rfl|rfl|rfl|rfl
   ·exact absurd (wai s1) (waM _)
   ·exact absurd (wai s2) (waM _)
   ·exact absurd (wai s3) (waM _)
   ·exact absurd (wai s4) (waM _)
   ·exact absurd (wai s5) (waM _)
  have st2:Zp h2 z TI TO i1 i2 a b .none (i+1):=by refine ⟨hz2,sb.extBut _ _ D.d1 st'.ti,?_,st'.a1.extBut sb.extBut D.d3,st'.a2.extBut sb.extBut D.d4⟩;obtain ⟨oa,ob,q⟩:=st'.to;exact ⟨oa,ob,sb.extBut _ _ D.d2 q⟩
  have hk2:∀ c ob,c∉[z,TI,TO,i1,i2]->s.heap.get? c=some ob->h2.get? c=some ob:=λc ob nc e=>by simp only[wap,wak,or_false,not_or] at nc;exact sb.extBut _ _ nc.1 (hk c ob nc.1 nc.2.2.1 nc.2.2.2.1 nc.2.2.2.2 e)
  have hth:∀ c ob,s.heap.get? c=some ob->∃ ob',h2.get? c=some ob':=λc ob e=>by
   by_cases nc:c∈[z,TI,TO,i1,i2]
   ·obtain ⟨s1,s2,⟨oa,ob,s3⟩,⟨o4,s4,_⟩,⟨o5,s5,_⟩⟩:=st2;simp only[wap,wak,or_false] at nc;rcases nc with rfl|rfl|rfl|rfl|rfl
    ·exact ⟨_,s1⟩
    ·exact ⟨_,s2⟩
    ·exact ⟨_,s3⟩
    ·exact ⟨_,s4⟩
    ·exact ⟨_,s5⟩
   ·exact ⟨ob,hk2 c ob nc e⟩
  have hnew:h2.get? s.heap.objs.size=some { cls:=.type "tuple",data:=.seq #[u,v] }:=sb.extBut _ _ (Ne.symm (hzp z xws)) ht;have IN:L2.Inv X pS Y (upd H s.heap.objs.size (.tup [x,y])) { s with heap:=h2 }:=zgv (s:=s) (t':=s.toks) (o:=.tup [x,y]) I hf hk2 (wal _) hth ⟨by show 2<=sizeLine;decide,[u,v],.cons ru (.cons rv' .nil),0,hnew⟩;exact ⟨.ref s.heap.objs.size,_,IN,rfl,
   ⟨_,x,y,rfl,I.hok.fresh (wal _),rfl,λzs q=>by rw[I.tuple_inj q q1];exact hx,λzs q=>by rw[I.tuple_inj q q2];exact hy⟩,st2,λc hc=>by rw[zaj (hzp c hc)];exact (hf c hc).1⟩
 done:=by
  intro X hP hw hK hc i pS s Y H E I hf st hg;subst hP hw hK;obtain ⟨xs,q1,hx⟩:=hg;obtain ⟨its,rv,p,hz⟩:=I.tuple q1;have hl:=rv.length;have hT:s.TypeIs (.ref z) "zip":=⟨_,st.z,rfl⟩
  unfold pyNext;refine wab (wpAny_attempt (wpAny_callSpecial?_slot (name:=Str.ofString "__next__") hT F.slot_zip_next (wpAny_call_entry F.slot_zip_next hT F.entry_zip_next
   (zmu (l1:=a) (l2:=b) (k:=i) (xs:=its.toArray) (I.ok.hd hc) D st (show s.heap.IsTuple a its.toArray from p) (λc hc=>zrF I (hf c hc) q1) (by simp;lia) λh' e hk he=>?_) (F.args_zip_next_1 _))))
  obtain ⟨o,ho,hcl⟩:=he;refine wab (wpAny_isInstance (T:="StopIteration") (b:=true) ⟨o,ho,hcl⟩ isSubtype_stop (wad ⟨rfl,?_⟩));refine zgX (t':=s.toks) I hf λc ob nc e=>?_;simp only[wap,wak,or_false,not_or] at nc;exact hk c ob nc.1 nc.2.2.1 nc.2.2.2.1 nc.2.2.2.2 e
 self:=λ_ _ _ _ _ st h=>wpAny_pyIter_zip st.z h
section
variable{prog:Program}{w:World}{A:Around}{E:Value->Shared->Prop}{s:Shared}
abbrev zt1(h:Heap)(a:Addr):Heap:=h.push { cls:=.type "tuple_iterator",data:=.fields #[.ref a,.int 0 0] }
abbrev zt2(h:Heap)(a b:Addr):Heap:=(zt1 h a).push { cls:=.type "tuple_iterator",data:=.fields #[.ref b,.int 0 0] }
abbrev zt3(h:Heap)(a b:Addr):Heap:=(zt2 h a b).push { cls:=.type "tuple",data:=.seq #[.ref h.objs.size,.ref (zt1 h a).objs.size] }
abbrev zt4(h:Heap)(a b:Addr):Heap:=(zt3 h a b).push { cls:=.type "tuple",data:=.seq #[.none,.none] }
abbrev zt5(h:Heap)(a b:Addr):Heap:=(zt4 h a b).push { cls:=.type "zip",data:=.fields #[.none,.bool false,.bool false,.ref (zt2 h a b).objs.size,.ref (zt3 h a b).objs.size] }
theorem ztF(a b:Addr)(xs ys:Array Value):Meets (Builtin.«zip.__new__» ⟨[.type "zip",.ref a,.ref b],[]⟩) (λ_ R s=>s.heap.IsTuple a xs/\s.heap.IsTuple b ys/\R (.ok (.ret (.ref (zt4 s.heap a b).objs.size))) { s with heap:=zt5 s.heap a b }) :=
 .of_wp λprog w A R s h=>by
  obtain ⟨hp,g,d,tk,os⟩:=s;obtain ⟨k1,k2,h⟩:=h;have hsub:=sub_zip;have t1:Heap.IsTuple (Shared.heap ⟨hp,g,d,tk,os⟩) a xs:=k1;have t2:Heap.IsTuple (Shared.heap ⟨hp.push { cls:=.type "tuple_iterator",data:=.fields #[.ref a,.int 0 0] },g,d,tk,os⟩) b ys:=Heap.IsTuple.push k2 _
  wp_walk using wpAny_pyIter_tuple t1,wpAny_pyIter_tuple t2
  exact ⟨_,rfl,h⟩
theorem zr6{a b:Addr}{xs ys:Array Value}{Q:Value->Shared->Prop}(k1:s.heap.IsTuple a xs)(k2:s.heap.IsTuple b ys)
  (h:∀ h',Zp h' (s.heap.objs.size+4) (s.heap.objs.size+2) (s.heap.objs.size+3) s.heap.objs.size (s.heap.objs.size+1) a b .none 0->(∀ c o,s.heap.get? c=some o->h'.get? c=some o)->Q (.ref (s.heap.objs.size+4)) { s with heap:=h' }) :
  wpAny (model prog w) A (call (.type "zip") [.ref a,.ref b]) Q E s:=by
 refine callType_new F.called_zip xwd (F.typeCall_zip_2 _ _) (F.newCall_zip_2 _ _) (λobj=>F.args_object_init_3 obj _ _) F.entry_zip_new (ztF a b xs ys) ⟨k1,k2,?_⟩;have e1:(zt1 s.heap a).objs.size=s.heap.objs.size+1:=Heap.size_push ..;have e2:(zt2 s.heap a b).objs.size=s.heap.objs.size+2:=by rw[Heap.size_push,e1]
 have e3:(zt3 s.heap a b).objs.size=s.heap.objs.size+3:=by rw[Heap.size_push,e2]
 have e4:(zt4 s.heap a b).objs.size=s.heap.objs.size+4:=by rw[Heap.size_push,e3]
 have g5:(zt5 s.heap a b).get? (zt4 s.heap a b).objs.size=some _:=waj _ rfl;have g4:(zt5 s.heap a b).get? (zt3 s.heap a b).objs.size=some _:=waa _ (waj _ rfl);have g3:(zt5 s.heap a b).get? (zt2 s.heap a b).objs.size=some _:=waa _ (waa _ (waj _ rfl));have g2:(zt5 s.heap a b).get? (zt1 s.heap a).objs.size=some _:=waa _ (waa _ (waa _ (waj _ rfl)));have g1:(zt5 s.heap a b).get? s.heap.objs.size=some _:=waa _ (waa _ (waa _ (waa _ (waj _ rfl))));show _/\_;rw[e2,e3,e4] at g5;rw[e1,e2] at g3;rw[e3] at g4;rw[e1] at g2;rw[e4];exact ⟨⟨_,g5,rfl⟩,h _ ⟨g5,g3,⟨_,_,g4⟩,⟨_,g1,rfl,rfl⟩,⟨_,g2,rfl,rfl⟩⟩ λc o q=>waa _ (waa _ (waa _ (waa _ (waa _ q))))⟩
end
theorem ztq(n:Nat):ZpD (n+4) (n+2) (n+3) n (n+1):=by constructor <;> (intro h;have h:(_:Nat)=(_:Nat):=h;lia)
theorem zts{K:W.Frag}{G:Hp}{a b:Addr}{vs us:List V}{ds es:List Dt}(hs:SqT K G a vs)(ht:SqT K G b us)(q:za1 K G ds vs)(q':za1 K G es us)(hl:ds.length=es.length):zoD K (Itz K a b) G ((ds.zip es).map λz=>.tup [z.1,z.2]):=λi G1 H s1 s2=>by
 have h1:=za8 s2 (za8 s1 hs);have h2:=za8 s2 (za8 s1 ht);refine ⟨λd e=>?_,λh=>⟨vs,h1,?_⟩⟩
 ·rw[List.getElem?_map] at e;have hi:i<ds.length:=by
   by_cases hi:i<ds.length
   ·exact hi
   ·rw[List.getElem?_eq_none (by rw[List.length_zip];lia)] at e;cases e
  have z1:ds[i]? = some ds[i]:=by simp[hi]
  have z2:es[i]? = some (es[i]'xwl):=by simp[show i<es.length by lia]
  obtain ⟨v,e1,e2⟩:=q.get z1;obtain ⟨u,e3,e4⟩:=q'.get z2;have ed:d=.tup [ds[i],es[i]'xwl]:=by rw[(List.getElem?_zip_eq_some (z:=(ds[i],es[i]'xwl))).mpr ⟨z1,z2⟩] at e;exact (waB e).symm
  refine ⟨⟨vs,us,v,u,h1,h2,e1,e3⟩,λx H' y=>?_⟩;obtain ⟨p,x',y',rfl,hp,rfl,k1,k2⟩:=y;have kx:=k1 vs h1;have ky:=k2 us h2;rw[e1] at kx;rw[e3] at ky;cases kx;cases ky;have gr:ze9 G1 H (upd G1 p (.tup [v,u])) (upd H p (.tup [v,u])):=.new s2 hp;refine ⟨_,gr,?_⟩;rw[ed];unfold Rep;exact ⟨p,[v,u],rfl,zhJ.of zan,za1.cons ((e2.same s1).same gr.g) (za1.cons ((e4.same s1).same gr.g) za1.nil)⟩
 ·rw[<- q.length];simpa [hl] using h
section
variable{X:Cx}{C:Cn}{elts:List Expr}{x1:Nat}{pt:Pos}{a b:Expr}{fa fb:De}{p pos:Pos}
end
end PV
end
section
namespace PV
open PySem PySem.Spec L2 PyProof.Rows
section
variable{X:Cx}{pS:List (Addr×Obj)}{Y:L2.St}{H:Hp}{s:Shared}
end
theorem zqx{d:Dt}{bs:List B}:∀{Z:Ev}{k:Nat},zfN [.d d] bs k Z = Z
 |[],_=>rfl
 |o::r,k=>by show (match zdw [.d d] k with|some j=>bs[j]?|none=>o)::zfN [.d d] bs (k+1) r=_;rw[zqx (Z:=r)];rfl
section
variable{X:Cx}{C:Cn}{CX:CXT}{k k':Nat}{Fd:FD}{x:Str}{p pf kp pos:Pos}{a:Expr}{fa:De}
end
end PV
end
section
namespace PV
open PySem PySem.Spec L2
theorem zuk:bootBuiltins "len"=some (.builtin "len"):=PySem.boot_len
theorem zsN:bootBuiltins "max"=some (.builtin "max"):=PyProof.Rows.boot_max
theorem zsX:bootBuiltins "min"=some (.builtin "min"):=PyProof.Rows.boot_min
theorem zt6:bootBuiltins "all"=some (.builtin "all"):=PyProof.Rows.boot_all
theorem zbJ:bootBuiltins "isinstance"=some (.builtin "isinstance"):=PyProof.Rows.boot_isinstance
theorem zbw:bootBuiltins "tuple"=some (.type "tuple"):=by decide +kernel
theorem ziy:bootBuiltins "list"=some (.type "list"):=by decide +kernel
theorem zrg:bootBuiltins "int"=some (.type "int"):=by decide +kernel
theorem zit:bootBuiltins "bool"=some (.type "bool"):=by decide +kernel
section
variable{X:Cx}{C:Cn}{a b e:Expr}{fa fb:De}{p pos:Pos}
theorem zdn(hm:X.mg "len"=none)(ha:JE X C e fa)(hg:Gl X "len":=by rfl)(hs:starEach [e] X.env=(false,eval e X.env)::starEach [] X.env:=by rfl)(hpl:(backTo pos (starEach [] X.env)).any (·.1)=false:=by rfl):JE X C (.Call (.Name "len" p) [e] [] pos) (dFn zby (dA fa dA0)) :=
 zgq zta ztp (zfW.or zjF) hg hm zuk (zac ha zaq hs) xwd xwd hs hpl
theorem zsT(hc:X.calm=true)(hm:X.mg "max"=none)(ha:JE X C a fa)(hb:JE X C b fb)(hg:Gl X "max":=by rfl)(hs:starEach [a,b] X.env=(false,eval a X.env)::starEach [b] X.env:=by rfl)(hs2:starEach [b] X.env=(false,eval b X.env)::starEach [] X.env:=by rfl)(hpl:(backTo pos (starEach [b] X.env)).any (·.1)=false:=by rfl):JE X C (.Call (.Name "max" p) [a,b] [] pos) (dFn zic (dA fa (dA fb dA0))) :=
 zgq zsu zr0 (znr hc) hg hm zsN (zac ha (zac hb zaq hs2) hs) xwd xwd hs hpl
theorem zub(hc:X.calm=true)(hm:X.mg "min"=none)(ha:JE X C a fa)(hb:JE X C b fb)(hg:Gl X "min":=by rfl)(hs:starEach [a,b] X.env=(false,eval a X.env)::starEach [b] X.env:=by rfl)(hs2:starEach [b] X.env=(false,eval b X.env)::starEach [] X.env:=by rfl)(hpl:(backTo pos (starEach [b] X.env)).any (·.1)=false:=by rfl):JE X C (.Call (.Name "min" p) [a,b] [] pos) (dFn ziU (dA fa (dA fb dA0))) :=
 zgq zs5 zsx (zo3 hc) hg hm zsX (zac ha (zac hb zaq hs2) hs) xwd xwd hs hpl
theorem zlY(hc:X.calm=true)(hm:X.mg "all"=none)(ha:JE X C e fa)(hg:Gl X "all":=by rfl)(hs:starEach [e] X.env=(false,eval e X.env)::starEach [] X.env:=by rfl)(hpl:(backTo pos (starEach [] X.env)).any (·.1)=false:=by rfl):JE X C (.Call (.Name "all" p) [e] [] pos) (dFn zhk (dA fa dA0)) :=
 zgq zue zsV (zn3 hc) hg hm zt6 (zac ha zaq hs) xwd xwd hs hpl
theorem zeJ(hm:X.mg "tuple"=none)(ha:JE X C e fa)(hg:Gl X "tuple":=by rfl)(hs:starEach [e] X.env=(false,eval e X.env)::starEach [] X.env:=by rfl)(hpl:(backTo pos (starEach [] X.env)).any (·.1)=false:=by rfl):JE X C (.Call (.Name "tuple" p) [e] [] pos) (dFn zbX (dA fa dA0)) :=
 znE zqe zqn zi8 hg hm zbw (zac ha zaq hs) xwd xwd hs hpl
theorem zjY(hm:X.mg "list"=none)(ha:JE X C e fa)(hg:Gl X "list":=by rfl)(hs:starEach [e] X.env=(false,eval e X.env)::starEach [] X.env:=by rfl)(hpl:(backTo pos (starEach [] X.env)).any (·.1)=false:=by rfl):JN X C (.Call (.Name "list" p) [e] [] pos) (ze8 zel (dA fa dA0)) :=
 znh zrm zsn zke hg hm ziy (zac ha zaq hs) xwd xwd hs hpl
end
theorem zoU{nw:Bool}{P:Program}{w:World}{K:W.Frag}{mg:Str->Option Value}{base:Heap}{CX:CXT}{xv:Nat->Value}{k:Nat}{x qual:Str}{st:Stmt}{f:Addr}{fd:FuncData}{ps:List Str}{ks:List Bool}(hl:ps.length=ks.length)(U:Fun K x qual st f fd)(hm:mg x=some (.ref f))(hb:zfw K fd ps []) :
  Dfn nw P w K mg base CX xv k x ks (λ_=>.no) :=
 ⟨f,fd,ps,⟨λvs H Q E ⟨_,_,_,h,_⟩=>h.trans hl.symm,λ_ _ _ _ _ _ _ _ _ _ _ _ _ ⟨_,_,_,_,_,_,h⟩=>waP h⟩,hm,U.kp,hb,λbs h=>absurd rfl h⟩
theorem zfd{k:Nat}{A:Around}(hr:zd5 k A):A.units+64<cLine:=by have:=hr.un;lia
theorem hu65{k:Nat}{A:Around}(hr:zd5 k A):A.units+65<cLine:=by have:=hr.un;lia
theorem zaK{names:List (Str×NameKind)}(h:(names.all λy=>y.2 != .cell)=true):∀ y∈names,y.2≠.cell:=λy hy z=>by rw[List.all_eq_true] at h;have:=h y hy;rw[z] at this;simp at this
theorem zbu{names:List (Str×NameKind)}(h:(names.all λy=>y.2 != .local || (names.lookup y.1 == some .local))=true):∀ y∈names,y.2=.local->names.lookup y.1=some .local:=λy hy z=>by rw[List.all_eq_true] at h;have:=h y hy;rw[z] at this;simpa using this
theorem zaY{names:List (Str×NameKind)}{env:Env}(h:(names.all λy=>y.2 != .free || (env.kindOf y.1 == some .cell || env.kindOf y.1 == some .free))=true):∀ y∈names,y.2=.free->env.kindOf y.1=some .cell\/env.kindOf y.1=some .free:=λy hy z=>by rw[List.all_eq_true] at h;have:=h y hy;rw[z] at this;simpa using this
end PV
end
section
namespace PV
open PySem PySem.Spec L2 PyProof.Rows
theorem zo6{P:Program}{w:World}{H:Hp}{h h':Heap}(x:HOk P w H h)(k:∀ b u o,H b=some u->h.get? b=some o->h'.get? b=some o):HOk P w H h':=λa o e =>
 (x a o e).stay (λb u hb q=>by
  rcases hb with rfl|hb
  ·exact k _ _ _ e q
  ·exact k _ _ _ hb q) (λ_ z=>z) λ_ _ z=>z
theorem zsS{P:Program}{w:World}{H:Hp}{h:Heap}{a:Addr}{o:HO}(x:zc2 P w H h a o):∃ u,h.get? a=some u:=by
 induction o with
 |lst xs=>obtain ⟨_,_,_,_,e⟩:=x;exact ⟨_,e⟩
 |tup xs=>obtain ⟨_,_,_,_,e⟩:=x;exact ⟨_,e⟩
 |dK kvs=>obtain ⟨_,_,_,_,_,_,_,e,_⟩:=x;exact ⟨_,e⟩
 |dT kvs=>obtain ⟨_,_,_,_,_,_,_,e,_⟩:=x;exact ⟨_,e⟩
 |set S n=>obtain ⟨_,_,_,_,e,_⟩:=x;exact ⟨_,e⟩
 |ins C dx fs=>obtain ⟨_,_,_,e,_⟩:=x;exact ⟨_,e⟩
 |own y=>exact x
 |xd fs=>obtain ⟨_,⟨_,_,_,e,_⟩,_⟩:=x;exact ⟨_,e⟩
 |met f y=>exact ⟨_,x⟩
 |rng lo hi=>obtain ⟨_,_,_,e⟩:=x;exact ⟨_,e⟩
 |frz ob u ih=>exact ⟨_,x.1⟩
 |tbl ps=>exact ⟨_,x⟩
 |ext φ => exact x.2.1
def CXf(P:Program)(w:World):CXT:=λouter H s E e s' =>
 ∃(l:Addr)(cls a0:Value)(B:Heap)(H':Hp),e=.ref l/\s'.os=s.os/\AllBare s'.gens/\Un (frs outer) [] H H' s.heap s'.heap/\HOk P w H' s'.heap/\Heap.FlyingW B outer l cls a0 s'.heap /\
  (∀ b o,s.heap.get? b=some o->b∉frs outer->∃ u,B.get? b=some u)/\(∀ b u,H' b=some u->∃ o,B.get? b=some o)/\s.heap.get? l=none/\E cls none H'
def CXm:CXT:=λ_ H s E e s'=>∃(l:Addr)(cls:Value)(args:List Value)(h':Heap),e=.ref l/\s'={ s with heap:=h' }/\Heap.MadeExcOf s.heap h' l cls args/\E cls none H
def CXe(P:Program)(w:World):CXT:=λouter H s E e s'=>CXf P w outer H s E e s'\/CXm outer H s E e s'
theorem CXf.imp{P:Program}{w:World}{outer:List Env}{H:Hp}{s s':Shared}{E E':XK}{e:Value}(h:CXf P w outer H s E e s')(k:∀ u a H',E u a H'->E' u a H'):CXf P w outer H s E' e s':=by obtain ⟨l,cls,a0,B,H',h1,h2,h3,h4,h5,h6,h7,h8,h9,h10⟩:=h;exact ⟨l,cls,a0,B,H',h1,h2,h3,h4,h5,h6,h7,h8,h9,k _ _ _ h10⟩
theorem CXe.none{P:Program}{w:World}{outer:List Env}{H:Hp}{s s':Shared}{e:Value}(h:CXe P w outer H s (λ_ _ _=>False) e s'):False:=by rcases h with ⟨_,_,_,_,_,_,_,_,_,_,_,_,_,_,z⟩|⟨_,_,_,_,_,_,_,z⟩ <;> exact z
theorem zlm{env:Env}{outer:List Env}{L:Addr}(h:env.frame=some L):frs (env::outer)=L::frs outer:=by unfold frs;rw[List.filterMap_cons,h]
theorem zjQ{P:Program}{w:World}{base:Heap}{A:Around}{env:Env}{outer:List Env}{s0 s1 s2:Shared}{H0 H1:Hp}{E E':XK}{e:Value}
  (hf:env.frame=some env.locals) (hfr:A.frames=some (env::outer)) (hL:s0.heap.objs.size<=env.locals) (os1:s1.os=s0.os) (bare1:AllBare s1.gens) (u01:Un (frs outer) [] H0 H1 s0.heap s1.heap) (frf:∀ b∈frs outer,H0 b=none)
  (fun1:s1.heap.FunFrames base (env::outer)) (hok1:HOk P w H1 s1.heap) (fr1:∀ b∈frs (env::outer),H1 b=none) (hx:CXe P w (env::outer) H1 s1 E' e s2) (hE:∀ u a H',E' u a H'->E u a H') {M:Model} {EE:Value->Shared->Prop} :
  wpAny M A (leaving env e) (λ_ s3=>CXf P w outer H0 s0 E e s3) EE s2:=by
 have inS:∀{b:Addr}{o:Obj},s0.heap.get? b=some o->b∉frs outer->b∉frs (env::outer):=λ{b o} e1 h1 h2=>by
  rw[zlm hf] at h2;rcases wap.mp h2 with z|z
  ·have:=wai e1;rw[z] at this;exact absurd (was this hL) (waM _)
  ·exact h1 z
 have newS:∀{b:Addr},s1.heap.get? b=none->s0.heap.get? b=none:=λ{b} e1=>by
  cases q:s0.heap.get? b with
  |none=>rfl
  |some o=>obtain ⟨o',e2⟩:=u01.there b o q xws;rw[e1] at e2;cases e2
 have outS:∀{b:Addr},b∈frs outer->b∈frs (env::outer):=λ{b} h=>by rw[zlm hf];exact wah _ h
 rcases hx with ⟨l,cls,a0,B,H',rfl,os,bare,un,hok,fl,hb1,hb2,hnw,he⟩|⟨l,cls,args,h',rfl,rfl,hm,he⟩
 ·refine wpAny_leaves_onW (base:=B) hfr hf fl λh3 fl3 up=>?_;have at3:∀{b:Addr}{u:Obj},B.get? b=some u->s2.heap.get? b=some u/\h3.get? b=some u:=λ{b u} e=>⟨fl.1 b u e,fl3.1 b u e⟩
  have slot:∀ b o,s0.heap.get? b=some o->b∈frs outer->∃ sl,h3.get? b=some { o with slots:=sl }:=λb o e1 hb=>by obtain ⟨sl1,e2⟩:=u01.slot b o e1 (frf b hb) hb xws;obtain ⟨sl2,e3⟩:=un.slot b _ e2 (u01.free b o e1 (frf b hb) xws) (outS hb) xws;obtain ⟨_,o4,e4,d4⟩:=fl.2.2.1.mem (b:=b) (outS hb);rw[e3] at e4;cases e4;obtain ⟨sl3,e5⟩:=up b _ e3 d4;exact ⟨sl3,e5⟩
  have hb1':∀ b o,s0.heap.get? b=some o->b∉frs outer->∃ u,B.get? b=some u:=λb o e1 hb=>by obtain ⟨o1,e2⟩:=u01.there b o e1 xws;exact hb1 b o1 e2 (inS e1 hb)
  refine ⟨l,cls,a0,B,H',rfl,os.trans os1,bare,⟨λb o e1 n hb _=>?_,λb o e1 n hb _=>slot b o e1 hb,λb o e1 n _=>?_,λb o e1 _=>?_,λb xs q=>un.tups b xs (u01.tups b xs q),λb o u q=>un.frzs b o u (u01.frzs b o u q),λb ps q=>?_⟩,zo6 hok λb u o q1 q2=>?_,fl3,hb1',hb2,newS hnw,hE _ _ _ he⟩
  ·have e2:=u01.keep b o e1 n hb xws;have n2:=u01.free b o e1 n xws;have e3:=un.keep b o e2 n2 (inS e1 hb) xws;obtain ⟨u,hu⟩:=hb1' b o e1 hb;obtain ⟨q1,q2⟩:=at3 hu;rw[e3] at q1;cases q1;exact q2
  ·obtain ⟨o1,e2⟩:=u01.there b o e1 xws;exact un.free b o1 e2 (u01.free b o e1 n xws) xws
  ·by_cases hb:b∈frs outer
   ·obtain ⟨sl,e2⟩:=slot b o e1 hb;exact ⟨_,e2⟩
   ·obtain ⟨u,hu⟩:=hb1' b o e1 hb;exact ⟨u,(at3 hu).2⟩
  ·obtain ⟨m1,e1⟩:=u01.tbls b ps q;obtain ⟨m2,e2⟩:=un.tbls b _ e1;exact ⟨m1++m2,by rw[e2,Array.append_assoc]⟩
  ·obtain ⟨o',ho'⟩:=hb2 b u q1;obtain ⟨z1,z2⟩:=at3 ho';rw[q2] at z1;cases z1;exact z2
 ·
  let fs:=frs (env::outer);have hin:∀ x∈env::outer,∀ a,x.frame=some a->a∈fs:=λx hx a ha=>List.mem_filterMap.mpr ⟨x,hx,ha⟩;refine wpAny_leaves_madeW (base:=W.hideAll s1.heap fs) (h:=s1.heap) hfr hf (λb o q=>W.of_hideAll _ q) (W.funFrames_hide fun1 hin) hm λh3 t fl3 _ _ up=>?_;have at3:∀{b:Addr}{u:Obj},s1.heap.get? b=some u->b∉fs->h3.get? b=some u:=λ{b u} e n=>fl3.1 b u (W.hideAll_get _ e n);have slot:∀ b o,s0.heap.get? b=some o->b∈frs outer->∃ sl,h3.get? b=some { o with slots:=sl }:=λb o e1 hb=>by obtain ⟨sl1,e2⟩:=u01.slot b o e1 (frf b hb) hb xws;obtain ⟨_,o4,e4,d4⟩:=fun1.mem (b:=b) (outS hb);rw[e2] at e4;cases e4;obtain ⟨sl3,e5⟩:=up b _ (hm.keeps _ _ e2) d4;exact ⟨sl3,e5⟩
  have hb1':∀ b o,s0.heap.get? b=some o->b∉frs outer->∃ u,(W.hideAll s1.heap fs).get? b=some u:=λb o e1 hb=>by obtain ⟨o1,e2⟩:=u01.there b o e1 xws;exact ⟨o1,W.hideAll_get _ e2 (inS e1 hb)⟩
  have tr:∀ b u,H1 b=some u->b∉fs:=λb u e z=>by rw[fr1 b z] at e;cases e
  refine ⟨l,cls,.ref t,W.hideAll s1.heap fs,H1,rfl,os1,bare1,⟨λb o e1 n hb _=>at3 (u01.keep b o e1 n hb xws) (inS e1 hb),λb o e1 n hb _=>slot b o e1 hb,λb o e1 n _=>u01.free b o e1 n xws,λb o e1 _=>?_,u01.tups,u01.frzs,u01.tbls⟩,zo6 hok1 λb u o q1 q2=>at3 q2 (tr b u q1),fl3,hb1',λb u q=>?_,newS hm.new,hE _ _ _ he⟩
  ·by_cases hb:b∈frs outer
   ·obtain ⟨sl,e2⟩:=slot b o e1 hb;exact ⟨_,e2⟩
   ·obtain ⟨u,hu⟩:=hb1' b o e1 hb;exact ⟨u,fl3.1 b u hu⟩
  ·obtain ⟨o,ho⟩:=zsS (hok1 b u q);exact ⟨o,W.hideAll_get _ ho (tr b u q)⟩
theorem za4{P:Program}{w:World}{K:W.Frag}{mg:Str->Option Value}{base:Heap}:zqy (CXe P w) P w K mg base:=λN qual scope f cdv A outer s H E E' hk hE pS Y H1 s1 e s2 I hx=>by have I':=I;refine wpAny_mono (zjQ (base:=base) (s0:=s) (H0:=H) (E:=E) rfl I.ok.frames (wal _) I.os I.bare I.base I.ok.frf I.stack I.hok I.stkFree hx hE) (λ_ s3 h=>.inl h) λ_ _ h=>h
def zrh(n:Nat)(f:DA):DS:=λZ=>(f Z).bind λa=>if fits a.1=true then .er n else .no
structure Xcls(K:W.Frag)(C:Addr):Prop where
 ex:∃ bm N nm q bs hdct sn sub ab col dd k0 k1 k2 k3 k5,K.lookup C=some (excClassObj nm q C N bs bm hdct sn sub ab col dd k0 k1 k2 k3 k5 "ValueError.__new__")/\(∀ h:Heap,K.In h->∃ mN,h.Ns N mN/\mN "__init__"=none)/\(∀ h:Heap,K.In h->OwnTail h [.type "ValueError",.type "Exception",.type "BaseException",.type "object"] bm)
section
variable{X:Cx}{C:Cn}{x:Str}{Cc:Addr}{np cpos pos:Pos}{e:Expr}{es:List Expr}{fa:DA}{n:Nat}{P:Program}{w:World}
theorem zp1(hx:zcC (CXe P w) X (EXc C))(hc:X.calm=true)(hcl:Xcls X.K Cc)(hm:X.mg x=some (.ref Cc))(hxv:C.xv n=.ref Cc)(ha:JA X C (e::es) fa)(hg:Gl X x:=by rfl)(hd:(x == ("__debug__" : Str))=false:=by decide)
  (he:starEach (e::es) X.env=(false,eval e X.env)::starEach es X.env:=by rfl) (hpl:(backTo cpos (starEach es X.env)).any (·.1)=false:=by rfl):JS X C (.Raise (some (.Call (.Name x np) (e::es) [] cpos)) none pos) (zrh n fa):=by
 intro pS s Y H D I ⟨G,w1,Z,r,p⟩;obtain ⟨tl,N,nm,q,bs,hdct,sn,sub,ab,col,dd,k0,k1,k2,k3,k5,lk,hN,hT⟩:=hcl.ex;obtain ⟨mN,hNs,hni⟩:=hN _ I.mod.kin;refine wpAny_Raise_call_subT (C:=Cc) (nm:=nm) (q:=q) (N:=N) (bs:=bs) (bm:=tl) (hdct:=hdct) (sn:=sn) (sub:=sub) (ab:=ab) (col:=col) (dd:=dd) (k0:=k0) (k1:=k1) (k2:=k2) (k3:=k3) (k5:=k5)
  F.excBase_ValueError (mN:=mN) ((hT _ I.kIn).hasType F.excBase_ValueError.hasBase) (I.ok.hd hc) (by rw[he];show (false || (backTo cpos (starEach es X.env)).any (·.1))=false;rw[hpl];rfl) hni (zhg I hg hm ⟨rfl,?_⟩ hd)
 suffices hh:wpAny (model X.prog X.w) X.A (spliced (backTo cpos (starEach (e::es) X.env))) (λvs s₂=>([]:List (Str×Value))=[]/\vs.length<=sizeLine/\s₂.heap.get? Cc=some (excClassObj nm q Cc N bs tl hdct sn sub ab col dd k0 k1 k2 k3 k5 "ValueError.__new__")/\s₂.heap.Ns N mN/\OwnTail s₂.heap [.type "ValueError",.type "Exception",.type "BaseException",.type "object"] tl /\
   ∀ h' a,Heap.MadeExcOf s₂.heap h' a (.ref Cc) vs->X.xe (.ref a) { s₂ with heap:=h' }) X.xe s by
  rw[he] at hh ⊢;exact Calls.evalArgs_plain hh
 refine thn (ha cpos pS s Y H (λvs H2=>vs.length<=sizeLine/\EXc C (.ref Cc) none H2) I ?_) λus s2 ⟨vs,H2,I2,rv,hz,hE⟩=>⟨rfl,by rw[<- rv.length];exact hz,I2.kIn _ _ lk,hNs.keeps I2.bk,hT _ I2.kIn,λh' a hm'=>?_⟩
 ·refine ⟨G,w1,Z,r,?_⟩;have p':zcz C.ex (kS X.K C D G H w1) ((fa Z).bind λa=>if fits a.1=true then R.er n else .no):=p;cases ef:fa Z with
  |ok z =>
   rw[ef,R.bind_ok] at p';intro vs G' H' w' st rel q1;by_cases hf:fits z.1=true
   ·rw[if_pos hf] at p';exact ⟨by rw[<- q1.length];exact zia hf,rfl,n,hxv.symm,p',G',w',r.en.trans st⟩
   ·rw[if_neg hf] at p';exact p'.elim
  |er m=>rw[ef] at p';exact p'
  |no=>rw[ef] at p';exact p'.elim
 ·exact hx pS Y H2 s2 (.ref a) _ I2 (.inr ⟨a,.ref Cc,us,h',rfl,rfl,hm',hE⟩)
end
abbrev bmV:List Value:=[.type "ValueError",.type "Exception",.type "BaseException",.type "object"]
structure Xin(K:W.Frag)(D:Addr):Prop where
 exc:W.excIn K D bmV "ValueError.__new__"=true
 ga:W.findIn K (.ref D) "__getattribute__"=some (some (.builtin "BaseException.__getattribute__"))
 gh:W.findIn K (.ref D) "__getattr__"=some none
 gc:W.findIn K (.ref D) "__class__"=some (some (.builtin "object.__class__"))
 mb:W.subIn K (.ref D) (.type "BaseException")=some true
theorem zdX{K:W.Frag}{C:Addr}(q:W.excIn K C bmV "ValueError.__new__"=true):∃ bm N nm qn bs hd sn sub ab col dd k0 k1 k2 k3 k5,
  K.lookup C=some (excClassObj nm qn C N bs bm hd sn sub ab col dd k0 k1 k2 k3 k5 "ValueError.__new__")/\W.tailIn K bmV bm=true/\W.nsOkIn K N=true/\W.nsIn K N "__init__"=some none:=by
 unfold W.excIn at q;split at q
 ·rename_i dd cd sl lk;split at q
  ·rename_i C2 bm k0 k1 k2 k3 mk k5 em es;simp only[wae,beq_iff_eq,Bool.not_eq_true'] at q;obtain ⟨⟨⟨⟨⟨e1,e2⟩,e3⟩,e4⟩,e5⟩,e6⟩:=q;subst e1 e2;obtain ⟨nm,bs,mro,ns,qn,hd,sn,sub,ab,col,del⟩:=cd;obtain ⟨sll⟩:=sl;dsimp only at em es e3 e5 e6;subst em e3 es;exact ⟨bm,ns,nm,qn,bs,hd,sn,sub,ab,col,dd,k0,k1,k2,k3,k5,lk,e4,e5,e6⟩
  ·cases q
 ·cases q
theorem Xin.cls{K:W.Frag}{C:Addr}(x:Xin K C):Xcls K C:=by obtain ⟨bm,N,nm,qn,bs,hd,sn,sub,ab,col,dd,k0,k1,k2,k3,k5,lk,e4,e5,e6⟩:=zdX x.exc;exact ⟨bm,N,nm,qn,bs,hd,sn,sub,ab,col,dd,k0,k1,k2,k3,k5,lk,λh X=>⟨_,.of_isNs (W.isNs_of_in X e5),W.nsMap_none_of_in X e5 e6⟩,λh X=>W.tail_of_in X e4⟩
section
variable{prog:Program}{w:World}{A:Around}{E:Value->Shared->Prop}{hh:Heap}{gg:Array GenState}{dr:Drawn}{tt:Nat}{os:OsState}{l C:Addr}{ob:Obj}{K:W.Frag}
theorem zud{R:Result->Shared->Prop}(x:Xin K C)(X:K.In hh)(hl:hh.get? l=some ob)(hcl:ob.cls=.ref C)(hR:R (.ok (.ret (.ref C))) ⟨hh,gg,dr,tt,os⟩) :
  codeAny (model prog w) A (.call (.builtin "getset_descriptor.__get__") ⟨[.builtin "object.__class__",.ref l,.ref C],[]⟩) R ⟨hh,gg,dr,tt,os⟩:=by
 obtain ⟨bm,N,nm,qn,bs,hd,sn,sub,ab,col,dd,k0,k1,k2,k3,k5,lk,e4,e5,e6⟩:=zdX x.exc;have hCl:=X _ _ lk;have TL:=W.tail_of_in X e4;have ty5:(⟨hh,gg,dr,tt,os⟩ : Shared).TypeIs (.builtin "object.__class__") "getset_descriptor":=F.typeOf_object_class;have inO:(Value.ref C::bm).contains (.type (".".intercalate ("object.__class__".cutAt '.').dropLast))=true:=by rw[F.owner_object_class,List.contains_cons,TL.hasType (b:=true) xwd];rfl
 refine codeAny_call_builtin F.slot_gs_get.plain F.entry_gs_get (F.slot_gs_get.check _ _ _ _ _ _ _ _ ty5 (F.args_gs_get _ _ _) ?_)
 repeat (any_goals (first|(with_reducible refine wpAny_loadPart_at hl ?_;rw[hcl])|(with_reducible refine wpAny_isSubtype_exc hCl ?_;rw[inO])|assumption|wp_step))
 refine ⟨Code.quiet_builtin _ xwD,codeAny_builtin F.entry_object_class ?_⟩
 repeat (any_goals (first|(with_reducible refine wpAny_loadPart_at hl ?_;rw[hcl])|assumption|wp_step))
theorem zpu{tk:Tok}{Q:Fin->Shared->Prop}(x:Xin K C)(X:K.In hh)(hl:hh.get? l=some ob)(hcl:ob.cls=.ref C)(hQ:Q (.done (.ret (.ref C))) ⟨hh,gg,dr,tt,os⟩) :
  wpAny (model prog w) A (Builtin.«object.__getattribute__» ⟨[.ref l,.str "__class__" tk],[]⟩) Q E ⟨hh,gg,dr,tt,os⟩:=by
 have ty5:(⟨hh,gg,dr,tt,os⟩ : Shared).TypeIs (.builtin "object.__class__") "getset_descriptor":=F.typeOf_object_class;have to5:=F.typeOf_object_class;have lk6:=F.slot_gs_get.lookup;have lk7:=F.slot_gs_set.lookup;have L1:=W.looks_findIn (M:=model prog w) X x.gc
 repeat (any_goals (first|(with_reducible refine wpAny_loadPart_at hl ?_;rw[hcl])|(with_reducible refine L1.at ?_)|assumption|wp_step))
 refine zud x X hl hcl ?_
 repeat (any_goals (first|assumption|wp_step))
theorem zmO{M:Model}(hl:hh.get? l=some ob)(hcl:ob.cls=.ref C):W.Looks M hh (typeOf (.ref l)) (.ref C):=hcl ▸ (W.Looks.ld hl).andThen .now
theorem zpy{M:Model}{nameV:Value}{Q:Unit->Shared->Prop}(x:Xin K C)(X:K.In hh)(hl:hh.get? l=some ob)(hcl:ob.cls=.ref C)(hQ:Q () ⟨hh,gg,dr,tt,os⟩) :
  wpAny M A (checkBuiltinCall "BaseException.__getattribute__" ⟨[.ref l,nameV],[]⟩) Q E ⟨hh,gg,dr,tt,os⟩:=by
 have e1:builtinKind "BaseException.__getattribute__"=some .slot:=by decide +kernel
 have e2:splitId "BaseException.__getattribute__"=some ("BaseException","__getattribute__"):=by decide +kernel
 have e3:=F.args_bexc_ga (.ref l) nameV;have e4:W.Looks M hh (isInstance (.ref l) (.type "BaseException")) true:=by unfold isInstance;exact (zmO hl hcl).andThen (W.looks_subIn X x.mb)
 simp only[checkBuiltinCall,e1,e2];refine wab (W.Looks.at e4 ?_)
 repeat (first|exact hQ|wp_step)
theorem zuM{tk:Tok}{Q:Value->Shared->Prop}(x:Xin K C)(X:K.In hh)(hl:hh.get? l=some ob)(hcl:ob.cls=.ref C)(hQ:Q (.ref C) ⟨hh,gg,dr,tt,os⟩) :
  wpAny (model prog w) A (getAttrBy (.ref l) (.str "__class__" tk) false false) Q E ⟨hh,gg,dr,tt,os⟩:=by
 have fb:=F.attrBase_ValueError.ga.bind (.ref l);have n0:(false && onTheHeap (Value.builtin "BaseException.__getattribute__"))=false:=rfl;have n2:(Value.builtin "BaseException.__getattribute__" == Value.builtin "object.__getattribute__")=false:=by decide +kernel
 have n1:(onTheHeap (Value.ref C) && Value.builtin "BaseException.__getattribute__" == Value.builtin "object.__getattribute__")=false:=by rw[n2];rfl
 have L1:=W.looks_findIn (M:=model prog w) X x.ga;have L2:=W.looks_findIn (M:=model prog w) X x.gh
 repeat (any_goals (first|(with_reducible refine wpAny_loadPart_at hl ?_;rw[hcl])|(with_reducible refine W.Looks.at L1 ?_)|(with_reducible refine W.Looks.at L2 ?_)|assumption|wp_step))
 refine codeAny_call_builtin F.attrBase_ValueError.ga.plain F.entry_bexc_ga (zpy x X hl hcl (zpu x X hl hcl ?_))
 repeat (any_goals (first|assumption|wp_step))
theorem zrE{Q:Option Value->Shared->Prop}(x:Xin K C)(X:K.In hh)(hl:hh.get? l=some ob)(hcl:ob.cls=.ref C)(hQ:Q (some (.ref C)) ⟨hh,gg,dr,tt+1,os⟩) :
  wpAny (model prog w) A (getAttr? (.ref l) "__class__") Q E ⟨hh,gg,dr,tt,os⟩:=by
 unfold getAttr? getAttrBy?
 repeat (any_goals (first|(with_reducible apply zuM x X hl hcl)|assumption|wp_step))
end
def XAt(l C:Addr)(h:Heap):Prop:=∃ o vs,h.get? l=some o/\o.cls=.ref C/\o.data=.fields vs
theorem zql{K:W.Frag}{l C:Addr}(x:Xin K C):W.KitX K (.ref l) (.ref C) (XAt l C) where
 ty:=λM h X ⟨o,vs,h1,h2,h3⟩=>zmO h1 h2
 it:=λM h X _=>by obtain ⟨bm,N,nm,qn,bs,hd,sn,sub,ab,col,dd,k0,k1,k2,k3,k5,lk,e4,e5,e6⟩:=zdX x.exc;intro A' Q' E' s' k q;unfold isType loadHead;exact wab (wpAny_loadPart (k _ _ (X _ _ lk)) (wad q))
 ne:=λh tp dd its n sl X htp=>by obtain ⟨bm,N,nm,qn,bs,hd,sn,sub,ab,col,dd',k0,k1,k2,k3,k5,lk,e4,e5,e6⟩:=zdX x.exc;refine Bool.eq_false_iff.mpr λq=>?_;obtain rfl:C=tp:=Value.ref.inj (beq_iff_eq.mp q);have z:=congrArg Obj.cls (waB ((X _ _ lk).symm.trans htp));simp[excClassObj] at z
 ca:=λ{prog w A E Q s} X ⟨o,vs,h1,h2,h3⟩ k=>by obtain ⟨hh,gg,dr,tt,os⟩:=s;exact zrE x X h1 h2 k
def zhr(i:Nat)(C:Addr)(b:Bool):De:=λZ=>match Z[i]? with
 |some (some (.exc C'))=>if C'=C then .ok (.bl b,Z) else .no
 |_=>.no
section
variable{X:Cx}{C:Cn}{i:Nat}{Cc C2:Addr}{b:Bool}{x x2:Str}{p px p2 pos:Pos}
theorem zl2{v2:V}{u2:Value}(hxi:Xin X.K Cc)(hu:∀ u,zca v2 u->u=u2)(hq:W.kitOne X.K (.ref Cc) u2=some b):zcN X (.builtin "isinstance") (λxs H Q=>∃ l,xs=[.ref l,v2]/\H l=some (xHO l Cc)/\Q (.bl b) H):=by intro pS s Y H xs us Q I r h;obtain ⟨l,rfl,hl,q⟩:=h;obtain ⟨u,u',rfl,r1,r2⟩:=zk8 r;cases r1;obtain rfl:=hu u' r2;have ok:zc2 X.prog X.w H s.heap l (xHO l Cc):=I.hok l _ hl;exact W.kia_one (zql hxi) I.kIn ok.1 hq xws λtk=>⟨.bl b,H,I.tok tk,rfl,q⟩
theorem zlJ{Y:L2.St}{H:Hp}{Q:VK}{v2:V}(h:tE X.K C (zhr i Cc b) Y H Q):∃ v,Y[i]? = some (some v)/\∃ l,v=.ref l/\H l=some (xHO l Cc)/\Q (.bl b) H:=by
 obtain ⟨G,w,Z,r,p⟩:=h;unfold zhr at p;split at p
 ·rename_i C' e;split at p
  ·rename_i hC;subst hC;obtain ⟨v,h1,l,h2,h3⟩:=r.sl i _ e;exact ⟨v,h1,l,h2,r.gh _ _ h3,p _ G H w (.refl _ _ _) r (zbF _)⟩
  ·exact p.elim
 ·exact p.elim
theorem zfV(i:Nat)(hxi:Xin X.K Cc)(hq:W.kitOne X.K (.ref Cc) (.ref C2)=some b)(hg:Gl X "isinstance")(hm:X.mg "isinstance"=none)(hg2:Gl X x2)(hm2:X.mg x2=some (.ref C2))(hN:X.N[i]? = some x:=by rfl)(hvs:Vis X.env.scope x:=by exact xwV)
  (hd:(x == ("__debug__" : Str))=false:=by decide) (hcd:(x == ("__classdict__" : Str))=false:=by decide) (hv:bootBuiltins "isinstance"=some (.builtin "isinstance"):=by rfl) (hn:("isinstance" : Str)≠"__name__":=by decide) (hdb:(("isinstance" : Str) == ("__debug__" : Str))=false:=by decide) (hdb2:(x2 == ("__debug__" : Str))=false:=by decide)
  (hs:starEach [.Name x px,.Name x2 p2] X.env=(false,eval (.Name x px) X.env)::starEach [.Name x2 p2] X.env:=by rfl) (hs2:starEach [.Name x2 p2] X.env=(false,eval (.Name x2 p2) X.env)::starEach [] X.env:=by rfl) (hpl:(backTo pos (starEach [.Name x2 p2] X.env)).any (·.1)=false:=by rfl) :
  JE X C (.Call (.Name "isinstance" p) [.Name x px,.Name x2 p2] [] pos) (zhr i Cc b) :=
 PE.weak (zd9 (zl2 (v2:=.ref C2) hxi (λu h=>h) hq) hg hm hv (zbk (zcb hN hvs hd hcd) (zbk (zol (v:=.ref C2) hg2 hm2 rfl hdb2) zcR hs2) hs) hn hdb hs hpl) λY H Q h=>by obtain ⟨v,h1,l,rfl,h2,h3⟩:=zlJ (v2:=.ref C2) h;exact ⟨_,h1,l,rfl,h2,h3⟩
theorem zrU{T:String}(i:Nat)(hxi:Xin X.K Cc)(hq:W.kitOne X.K (.ref Cc) (.type T)=some b)(hg:Gl X "isinstance")(hm:X.mg "isinstance"=none)(hg2:Gl X x2)(hm2:X.mg x2=none)(hv2:bootBuiltins x2=some (.type T))(hN:X.N[i]? = some x:=by rfl)(hvs:Vis X.env.scope x:=by exact xwV)
  (hd:(x == ("__debug__" : Str))=false:=by decide) (hcd:(x == ("__classdict__" : Str))=false:=by decide) (hv:bootBuiltins "isinstance"=some (.builtin "isinstance"):=by rfl) (hn:("isinstance" : Str)≠"__name__":=by decide) (hdb:(("isinstance" : Str) == ("__debug__" : Str))=false:=by decide) (hn2:x2≠"__name__":=by decide) (hdb2:(x2 == ("__debug__" : Str))=false:=by decide)
  (hs:starEach [.Name x px,.Name x2 p2] X.env=(false,eval (.Name x px) X.env)::starEach [.Name x2 p2] X.env:=by rfl) (hs2:starEach [.Name x2 p2] X.env=(false,eval (.Name x2 p2) X.env)::starEach [] X.env:=by rfl) (hpl:(backTo pos (starEach [.Name x2 p2] X.env)).any (·.1)=false:=by rfl) :
  JE X C (.Call (.Name "isinstance" p) [.Name x px,.Name x2 p2] [] pos) (zhr i Cc b) :=
 PE.weak (zd9 (zl2 (v2:=.ty T) hxi (λu h=>h) hq) hg hm hv (zbk (zcb hN hvs hd hcd) (zbk (ziT (v:=.ty T) hg2 hm2 hv2 rfl hn2 hdb2) zcR hs2) hs) hn hdb hs hpl) λY H Q h=>by obtain ⟨v,h1,l,rfl,h2,h3⟩:=zlJ (v2:=.ty T) h;exact ⟨_,h1,l,rfl,h2,h3⟩
end
def zio(XR:Cx)(N:List Str)(scope:Scope)(cl:List (Str×Addr))(qual:Str)(Fa:Addr)(cdv:Value)(s:Shared)(H:Hp)(E:XK):Cx where
 prog:=XR.prog
 w:=XR.w
 K:=XR.K
 mg:=XR.mg
 base:=XR.base
 A:=XR.A.deeper (W.envX qual scope s.heap.objs.size Fa cdv cl)
 N:=N
 s₀:=s
 H₀:=H
 env:=W.envX qual scope s.heap.objs.size Fa cdv cl
 outer:=XR.stack
 stack:=W.envX qual scope s.heap.objs.size Fa cdv cl::XR.stack
 ex:=[]
 fn:=λ_=>false
 calm:=true
 pn:=[]
 xe:=λe s'=>wpAny (model XR.prog XR.w) (XR.A.deeper (W.envX qual scope s.heap.objs.size Fa cdv cl)) (leaving (W.envX qual scope s.heap.objs.size Fa cdv cl) e) (λ_ s''=>CXf XR.prog XR.w XR.stack H s E e s'') (λ_ _=>False) s'
def zpN(names:List (Str×NameKind)):Bool:=names.all λy=>match y.2 with
 |.free=>true
 |.globalImplicit=>true
 |_=>false
theorem zf6{names:List (Str×NameKind)}(h:zpN names=true){x:Str}{k:NameKind}(e:names.lookup x=some k):k=.free\/k=.globalImplicit:=by have q:=List.all_eq_true.mp h (x,k) (zbh e);cases k <;> simp at q <;> simp
structure zhL(N:List Str)(names:List (Str×NameKind))(cl:List (Str×Addr))(Y:L2.St)(H:Hp)(h:Heap):Prop where
 inj:∀ x y c,cl.lookup x=some c->cl.lookup y=some c->x=y
 has:∀ x,names.lookup x=some .free->∃ c,cl.lookup x=some c
 is:∀ x c,cl.lookup x=some c->(∃ v,h.IsCell c v)/\H c=none
 val:∀(i:Nat)(x:Str)(v:V),N[i]? = some x->Y[i]? = some (some v)->names.lookup x=some .free->∃ u c,zca v u/\cl.lookup x=some c/\h.IsCell c (some u)
section
variable{XR:Cx}{pS:List (Addr×Obj)}{σR Y:L2.St}{H:Hp}{s:Shared}{N:List Str}{scope:Scope}{cl:List (Str×Addr)}{qual name:Str}{Fa c':Addr}{params:Arguments}{body:Expr}{pm ctv:Value}{E:XK}
theorem znX{cdv:Value}{h₁:Heap}{tk:Nat}{mm:Str->Option Value}(J:L2.Inv XR pS σR H s)(hc:XR.calm=true)(hk:scope.kind=.function)(ho:zpN scope.names=true)(L:zhL N scope.names cl Y H s.heap)(hl:Y.length=N.length)
  (hns:h₁.Ns s.heap.objs.size mm) (hkp:∀ b o,s.heap.get? b=some o->h₁.get? b=some o):L2.Inv (zio XR N scope cl qual Fa cdv s H E) [] Y H { s with heap:=h₁,toks:=tk }:=by
 have cellK:∀ c v,s.heap.IsCell c v->h₁.IsCell c v:=λc v ⟨o,e1,e2⟩=>⟨o,hkp c o e1,e2⟩
 refine ⟨⟨J.ok.mod,hk,rfl,rfl,wal _,L.inj,λx hx=>?_,λx c h _=>absurd h (by simp[zio]),λ_=>J.ok.hd hc,Around.frames_deeper J.ok.frames,.inr ⟨rfl,rfl⟩,λb hb=>absurd hb (by simp[zio]),J.bs,waO J.ok.bsz J.sz,λb o e z=>absurd z (by simp[zio]),λb z=>absurd z (by simp[zio]),J.stack,J.stkFree⟩,
  rfl,J.bare,Un.kept hkp,⟨mm,hns,λi x v e1 e2 e3=>?_⟩,λx c e=>?_,J.hok.fresh (wal _),λx c e=>(L.is x c e).2,λp hp=>absurd hp (by simp[zio]),J.hok.kept hkp,hl⟩
 ·have hx':scope.names.lookup x=some .cell\/scope.names.lookup x=some .free:=hx;rcases hx' with z|z
  ·rcases zf6 ho z with q|q <;> cases q
  ·exact L.has x z
 ·have e3':scope.names.lookup x=some .local\/scope.names.lookup x=some .cell\/scope.names.lookup x=some .free:=e3;rcases e3' with z|z|z
  ·rcases zf6 ho z with q|q <;> cases q
  ·rcases zf6 ho z with q|q <;> cases q
  ·obtain ⟨u,c,r,hcl,ic⟩:=L.val i x v e1 e2 z;exact ⟨u,r,.inr ⟨.inr z,c,hcl,cellK _ _ ic⟩⟩
 ·obtain ⟨⟨v,ic⟩,_⟩:=L.is x c e;exact ⟨v,cellK _ _ ic⟩
theorem zpL{t:TE}(J:L2.Inv XR pS σR H s)(hc:XR.calm=true)(hroom:XR.A.depth<recursionLimit)(hk:scope.kind=.function)(ho:zpN scope.names=true)(L:zhL N scope.names cl Y H s.heap)(hl:Y.length=N.length)
  (hF:s.heap.get? Fa=some (W.kla_obj name qual params body scope cl pm c' ctv)) (hcd:s.heap.CodeRec (.ref c') qual) (hbind:bindArgs (W.kla_fn name qual params body scope cl pm (.ref c') ctv) ⟨[],[]⟩=pure [])
  (hco:scope.isCoroutine=false) (hgen:scope.isGenerator=false) (hE:PE (zio XR N scope cl qual Fa (.ref c') s H E) body t) (ht:t Y H λ_ _=>False) :
  codeAny (model XR.prog XR.w) XR.A (.call (.ref Fa) ⟨[],[]⟩) (λr s'=>∃ e,r=.error e/\CXf XR.prog XR.w XR.stack H s E e s') s:=by
 have hcell:∀ y∈scope.names,y.2≠.cell:=λy hy z=>by have q:=List.all_eq_true.mp ho y hy;rw[z] at q;simp at q
 refine W.kla_callFunE hroom hF rfl hco hgen rfl hcd ?_;rw[hbind];refine wad (wpAny_newFunctionEnv hcell (by intro y hy;simp at hy) (λh₁ hns hsb=>?_) hk);have hkp:∀ b o,s.heap.get? b=some o->h₁.get? b=some o:=λb o e=>(hsb.2 b (waN (wai e))).trans (waa _ e);refine ⟨J.nolimit.keeps hkp,?_⟩;show codeAny _ _ (.expr body (W.envX qual scope s.heap.objs.size Fa (.ref c') cl)) _ _;refine W.kla_codeExpr (wpAny_mono (hE [] _ Y H (λ_ _=>False) (znX (tk:=s.toks+([]:List (Str×Value)).length) J hc hk ho L hl hns hkp) ht) (λv s' ⟨_,_,_,_,z⟩=>z.elim) λe s' h=>?_);exact wpAny_mono h (λ_ s'' q=>⟨e,rfl,q⟩) λ_ _ z=>z.elim
theorem zma{cdv:Value}{C:Cn}(hE:∀ u a H',EXc C u a H'->E u a H'):zcC (CXe XR.prog XR.w) (zio XR N scope cl qual Fa cdv s H E) (EXc C):=λpS Y H1 s1 e s2 I hx =>
 zjQ (base:=XR.base) (s0:=s) (H0:=H) rfl I.ok.frames (wal _) I.os I.bare I.base I.ok.frf I.stack I.hok I.stkFree hx hE
end
def zcL(Z:Ev):Ev:=Z.map λo=>match o with
 |some (.val d)=>some (.val d)
 |_=>none
theorem zpi{prog:Program}{w:World}{A:Around}{E:Value->Shared->Prop}{s:Shared}{K:W.Frag}{l C Cs:Addr}{Q:Bool->Shared->Prop}(X:K.In s.heap)(hx:XAt l C s.heap)(xs:Xin K Cs)(hsub:W.subIn K (.ref C) (.ref Cs)=some true)(hQ:Q true s) :
  wpAny (model prog w) A (excMatches (.ref l) (.ref Cs)) Q E s:=by
 obtain ⟨hh,gg,dr,tt,os⟩:=s;obtain ⟨ob,vs,h1,h2,h3⟩:=hx;obtain ⟨bm,N,nm,qn,bs,hd,sn,sub,ab,col,dd,k0,k1,k2,k3,k5,lk,e4,e5,e6⟩:=zdX xs.exc;have hCs:=X _ _ lk;have inB:(Value.ref Cs::bm).contains (.type "BaseException")=true:=by rw[List.contains_cons,(W.tail_of_in X e4).hasType (b:=true) xwd];rfl
 have nt:=tc_notTuple;have L1:=W.looks_subIn (M:=model prog w) X hsub;unfold excMatches
 repeat (first|(with_reducible refine wpAny_loadPart_at h1 ?_;rw[h2])|(with_reducible refine W.Looks.at L1 ?_)|with_reducible refine wpAny_loadPart_at hCs ?_|(with_reducible refine wpAny_isSubtype_exc hCs ?_;rw[inB])|wp_step)
 exact hQ
section
variable{X:Cx}{pS:List (Addr×Obj)}{Y:L2.St}{H:Hp}{s:Shared}
theorem zmd{x:Str}{i:Nat}{h':Heap}{tk:Nat}{v:Option Value}(I:L2.Inv X pS Y H s)(hN:X.N.Nodup)(hi:X.N[i]? = some x)
  (hn:∀ m,s.heap.Ns X.env.locals m->h'.Ns X.env.locals (λy=>if y=x then v else m y)) (hs:Heap.SameBut X.env.locals s.heap h'):L2.Inv X pS (Y.set i none) H { s with heap:=h',toks:=tk }:=by
 obtain ⟨m,hm,hl⟩:=id I.loc;have cne:=I.cne;have tr:HOk X.prog X.w H h':=zo6 I.hok λb u o e q=>(hs.2 b λz=>by subst z;rw[I.free] at e;cases e).trans q;refine ⟨I.ok,I.os,I.bare,⟨λb o e n hb hx=>?_,λb o e n hb hx=>?_,I.base.free,λb o e hx=>?_,I.base.tups,I.base.frzs,I.base.tbls⟩,⟨_,hn m hm,λj y v' e1 e2 e3=>?_⟩,λy c e=>?_,I.free,I.freeC,λp hp=>?_,tr,by simpa using I.len⟩
 ·exact (hs.2 b (waN (was (wai e) I.ok.above))).trans (I.base.keep b o e n hb hx)
 ·obtain ⟨sl,e1⟩:=I.base.slot b o e n hb hx;exact ⟨sl,(hs.2 b (waN (was (wai e) I.ok.above))).trans e1⟩
 ·obtain ⟨o',e1⟩:=I.base.there b o e hx;exact ⟨o',(hs.2 b (waN (was (wai e) I.ok.above))).trans e1⟩
 ·by_cases hj:j=i
  ·subst hj;have hlt:j < Y.length:=by rw[I.len];exact (wam.mp hi).1
   rw[List.getElem?_set_self hlt] at e2;cases e2
  ·rw[List.getElem?_set_ne (Ne.symm hj)] at e2;obtain ⟨u',r',q⟩:=hl j y v' e1 e2 e3;refine ⟨u',r',?_⟩;rcases q with ⟨k,e⟩|⟨k,c,e,z⟩
   ·refine .inl ⟨k,?_⟩;have:y≠x:=λe=>hj (zhV hN e1 (e ▸ hi));simp[this,e]
   ·exact .inr ⟨k,c,e,z.sameBut hs (cne y c e)⟩
 ·obtain ⟨w',z⟩:=I.cell y c e;exact ⟨w',z.sameBut hs (cne y c e)⟩
 ·obtain ⟨e,n,ne,nf,d⟩:=I.pin p hp;exact ⟨(hs.2 p.1 ne).trans e,n,ne,nf,d⟩
theorem zh4{s1:Shared}{h:Heap}{l C:Addr}{a0:Value}{B:Heap}{H':Hp}(I:L2.Inv X pS Y H s)(os:s1.os=s.os)(bare:AllBare s1.gens)(un:Un (frs X.stack) [] H H' s.heap s1.heap)(hok:HOk X.prog X.w H' s1.heap)
  (fl:Heap.FlyingW B X.stack l (.ref C) a0 s1.heap) (hb1:∀ b o,s.heap.get? b=some o->b∉frs X.stack->∃ u,B.get? b=some u) (hb2:∀ b u,H' b=some u->∃ o,B.get? b=some o) (hnw:s.heap.get? l=none)
  (fl3:Heap.FlyingW B X.stack l (.ref C) a0 h) (up:s1.heap.UpToSlots h):H' l=none/\L2.Inv X pS Y (upd H' l (xHO l C)) { s1 with heap:=h }:=by
 have hl:H' l=none:=by
  cases q:H' l with
  |none=>rfl
  |some u=>obtain ⟨o,e⟩:=hb2 l u q;rw[fl.2.1] at e;cases e
 have at3:∀{b:Addr}{u:Obj},B.get? b=some u->s1.heap.get? b=some u/\h.get? b=some u:=λ{b u} e=>⟨fl.1 b u e,fl3.1 b u e⟩
 have slot:∀ b o,s.heap.get? b=some o->b∈frs X.stack->∃ sl,h.get? b=some { o with slots:=sl }:=λb o e1 hb=>by obtain ⟨sl2,e3⟩:=un.slot b o e1 (I.stkFree b hb) hb xws;obtain ⟨_,o4,e4,d4⟩:=fl.2.2.1.mem (b:=b) hb;rw[e3] at e4;cases e4;obtain ⟨sl3,e5⟩:=up b _ e3 d4;exact ⟨sl3,e5⟩
 refine ⟨hl,I.call' (s':={ s1 with heap:=h }) (ch:=[]) os ⟨λb o e1 n hb _=>?_,λb o e1 n hb _=>slot b o e1 hb,λb o e1 n _=>?_,λb o e1 _=>?_,λb xs q=>?_,λb o u q=>?_,λb ps q=>?_⟩ (λb u e=>?_) bare λb hb=>absurd hb xws⟩
 ·have e3:=un.keep b o e1 n hb xws;obtain ⟨u,hu⟩:=hb1 b o e1 hb;obtain ⟨q1,q2⟩:=at3 hu;rw[e3] at q1;cases q1;exact q2
 ·rw[zaj (λz=>by subst z;rw[hnw] at e1;cases e1)];exact un.free b o e1 n xws
 ·by_cases hb:b∈frs X.stack
  ·obtain ⟨sl,e2⟩:=slot b o e1 hb;exact ⟨_,e2⟩
  ·obtain ⟨u,hu⟩:=hb1 b o e1 hb;exact ⟨u,(at3 hu).2⟩
 ·have:=un.tups b xs q;rw[zaj (zak this hl)];exact this
 ·have:=un.frzs b o u q;rw[zaj (zak this hl)];exact this
 ·obtain ⟨m,e⟩:=un.tbls b ps q;exact ⟨m,by rw[zaj (zak e hl)];exact e⟩
 ·by_cases hb:b=l
  ·subst hb;rw[zan] at e;cases e;obtain ⟨oe,vs,e1,e2,e3,_⟩:=fl3.first;exact ⟨⟨oe,vs,e1,e2,e3⟩,⟨oe,e1⟩,λh1 h2 ⟨o,ws,q1,q2,q3⟩ k=>⟨o,ws,k o q1,q2,q3⟩⟩
  ·rw[zaj hb] at e;refine (hok b u e).stay (λc o hc q=>?_) (λc z=>?_) λc xs z=>?_
   ·have hcu:∃ u',H' c=some u':=by
     rcases hc with rfl|hc
     ·exact ⟨_,e⟩
     ·exact ⟨_,hc⟩
    obtain ⟨u',hu'⟩:=hcu;obtain ⟨o',ho'⟩:=hb2 c u' hu';obtain ⟨q1,q2⟩:=at3 ho';rw[q] at q1;cases q1;exact q2
   ·rw[zaj (zak z hl)];exact z
   ·rw[zaj (zak z hl)];exact z
end
def znF(X:Cx)(e:Value)(E:Value->Shared->Prop):Cx:={ X with A:=X.A.mark (some e),calm:=false,xe:=E }
theorem zn0{X:Cx}{pS:List (Addr×Obj)}{Y:L2.St}{H:Hp}{s:Shared}{e:Value}{E:Value->Shared->Prop}(I:L2.Inv X pS Y H s):L2.Inv (znF X e E) pS Y H s:=by have ok:=I.ok;exact ⟨⟨ok.mod,ok.kind,ok.glob,ok.blt,ok.above,ok.inj,ok.has,ok.cab,λh=>absurd h (by simp[znF]),ok.frames,ok.stk,ok.exf,ok.bs,ok.bsz,ok.noex,ok.exfs,ok.funs,ok.frf⟩,I.os,I.bare,I.base,I.loc,I.cell,I.free,I.freeC,I.pin,I.hok,I.len⟩
theorem znN{X:Cx}{pS:List (Addr×Obj)}{Y:L2.St}{H:Hp}{s:Shared}{e:Value}{E:Value->Shared->Prop}(hok:X.Ok)(I:L2.Inv (znF X e E) pS Y H s):L2.Inv X pS Y H s :=
 ⟨hok,I.os,I.bare,I.base,I.loc,I.cell,I.free,I.freeC,I.pin,I.hok,I.len⟩
def EL(Cc:Addr)(H:Hp):XK:=λu _ H'=>u=.ref Cc/\zbU H H'
section
variable{X:Cx}{p1 p2 p3 p4 p5 p6 p7 p8 p9:Pos}{Cc Cs Fa:Addr}{H0:Hp}{iF ierr ie:Nat}{xF xerr xe xS:Str}
theorem zos(hc:X.calm=true)(hN:X.N.Nodup)(hst:X.stack=X.env::X.outer)(hfrm:X.env.frame=some X.env.locals)
  (hF:∀ pS Y H s,L2.Inv X pS Y H s->zbU H0 H->codeAny (model X.prog X.w) X.A (.call (.ref Fa) ⟨[],[]⟩) (λr s'=>∃ e,r=.error e/\CXf X.prog X.w X.stack H s (EL Cc H) e s') s)
  (hFn:∀ pS Y H s,L2.Inv X pS Y H s->zbU H0 H->W.FnAt Fa s.heap)
  (xs:Xin X.K Cs) (hsub:W.subIn X.K (.ref Cc) (.ref Cs)=some true) (hmS:X.mg xS=some (.ref Cs)) (hgS:Gl X xS)
  (hNF:X.N[iF]? = some xF) (hNerr:X.N[ierr]? = some xerr) (hNe:X.N[ie]? = some xe) (hie:ie≠ierr) (kF:X.env.scope.names.lookup xF=some .local) (kerr:X.env.scope.names.lookup xerr=some .local) (ke:X.env.scope.names.lookup xe=some .local)
  (hd1:(xF == ("__debug__" : Str))=false:=by decide) (hd2:(xF == ("__classdict__" : Str))=false:=by decide) (hd3:(xS == ("__debug__" : Str))=false:=by decide) (hd4:(xe == ("__debug__" : Str))=false:=by decide) (hd5:(xe == ("__classdict__" : Str))=false:=by decide)
  (hsw:swapsWith (.Call (.Name xF p1) [] [] p2) none p3.line X.env=pure false:=by rfl) (hsw2:swapsWith (.Name xe p6) (some (.Name xerr p5)) p7.line X.env=pure false:=by rfl) :
  PS X (.Try [.Expr (.Call (.Name xF p1) [] [] p2) p3] [.ExceptHandler (some (.Name xS p4)) (some xe) [.Assign [.Name xerr p5] (.Name xe p6) p7] p8] [] [] p9)
   (λD Y H=>Y[iF]? = some (some (.ref Fa))/\zbU H0 H/\∀ l H',zbU H H'->H' l=none->D.nx (((Y.set ie (some (.ref l))).set ierr (some (.ref l))).set ie none) (upd H' l (xHO l Cc))):=by
 intro pS s Y H D I ⟨h0,eH,hD⟩;refine wpAny_Try_except ?_;refine wpAny_execs_cons ?_;have hv:∀ EE:Value->Shared->Prop,wpAny (model X.prog X.w) X.A (eval (.Name xF p1) X.env) (EP (X.wish EE) pS Y λv H'=>v=.ref Fa/\H'=H) EE s:=λEE =>
  zcb (X:=X.wish EE) (pos:=p1) hNF (.inl kF) hd1 hd2 pS s Y H (λv H'=>v=.ref Fa/\H'=H) (I.wish EE) ⟨_,h0,rfl,rfl⟩
 refine wpAny_Expr_any (wpAny_Call_Name_kw (wpAny_mono (hv _) (λu s1 ⟨v,H1,I1,r,e1,e2⟩=>?_) λ_ _ z=>z)) I.quiet hsw;subst e1 e2;cases r;have I1:=I1.unwish;refine W.callWith_F0 (hFn _ _ _ _ I1 eH) (wpAny_call (codeAny_mono (hF _ _ _ _ I1 eH) λr s2 ⟨e,er,hx⟩=>?_));subst er;obtain ⟨l,cls,a0,B,H',rfl,os,bare,un,hok,fl,hb1,hb2,hnw,ecls,same⟩:=hx;subst ecls;show wpAny _ _ (noteFrame (.ref l) X.env) _ _ s2;rw[hst] at fl;refine wpAny_looks_onW (by rw[I1.ok.frames,hst]) hfrm fl λh3 held3 up3=>?_;refine wpAny_landsW held3 λh4 fl4 up4=>?_;rw[<- hst] at fl fl4;obtain ⟨hl,I4⟩:=zh4 I1 os bare un hok fl hb1 hb2 hnw fl4 (up3.trans up4);refine wpAny_handleBy_cons (codeAny_handlers_test ?_) (by intro q;cases q);refine zhg (X:=znF X (.ref l) λ_ _=>True) (zn0 I4) hgS hmS ?_ hd3;have xat:XAt l Cc h4:=by obtain ⟨oe,vs,q1,q2,q3,_⟩:=fl4.first;exact ⟨oe,vs,q1,q2,q3⟩
 refine zpi (K:=X.K) I4.kIn xat xs hsub ?_;refine codeAny_handlers_suite_as ?_;refine lands_againW fl4 λh5 fl5 up5=>?_;obtain ⟨_,I5⟩:=zh4 I1 os bare un hok fl hb1 hb2 hnw fl5 ((up3.trans up4).trans up5);refine zfk I5 hN hNe (.inl ke) (v:=.ref l) rfl (λs6 I6=>?_) (.inr ke);have hsuite:=λEE:Value->Shared->Prop=>zkD (X:=znF X (.ref l) EE) (zlu (pos:=p7) (pos':=p5) hN hNerr (.inl kerr) (zcb (pos:=p6) hNe (.inl ke) hd4 hd5) hsw2 (.inr kerr)) pS s6 (Y.set ie (some (.ref l))) (upd H' l (xHO l Cc)) { nx:=λY' H''=>Y'=(Y.set ie (some (.ref l))).set ierr (some (.ref l))/\H''=upd H' l (xHO l Cc),rt:=λ_ _=>False } (zn0 I6) ⟨.ref l,by rw[List.getElem?_set_self (by rw[I5.len];exact (wam.mp hNe).1)],rfl,rfl⟩
 refine wpAny_mono (hsuite _) (λf s7 h7=>?_) λ_ _ z=>z;cases f with
 |next =>
  obtain ⟨Y',H'',I7,e1,e2⟩:=h7;subst e1 e2;have I7:=znN I4.ok I7;obtain ⟨m7,hm7,_⟩:=I7.loc;refine wpAny_nameGoes_keeps (env:=X.env) ke hm7 (by rw[I7.ok.kind];rfl) λh8 v hn8 hs8=>?_;refine ⟨_,_,zmd (x:=xe) (i:=ie) (v:=v) I7 hN hNe (λm hm=>?_) hs8,hD l H' same hl⟩;obtain ⟨o,es,ep,ho,hd,hk,hmm⟩:=hn8;obtain ⟨o',es',ep',ho',hd',hk',hm'⟩:=hm;obtain ⟨o7,es7,ep7,ho7,hd7,hk7,hm7'⟩:=hm7;rw[ho'] at ho7;cases ho7;rw[hd'] at hd7;cases hd7;exact ⟨o,es,ep,ho,hd,hk,λx=>by rw[hmm x];show (if x=xe then v else m7 x)=if x=xe then v else m x;rw[<- hm7' x,hm' x]⟩
 |brk=>obtain ⟨_,_,_,z⟩:=h7;exact z.elim
 |cont=>obtain ⟨_,_,_,z⟩:=h7;exact z.elim
 |ret u=>obtain ⟨_,_,_,_,_,z⟩:=h7;exact z.elim
end
def fHO(a:Addr)(ob:Obj):HO:=.ext λh=>h.get? a=some ob
structure zgu(X:Cx)(P:Addr):Prop where
 code:∃ c,X.env.code=.ref c/\W.CodeHd X.base c P
 blt:X.base.BuiltinsAt X.mg P
theorem zjG{P:Program}{w:World}{H:Hp}{h:Heap}{a:Addr}{φ : Heap->Prop}{o:Obj}(h1:φ h)(h2:h.get? a=some o)(h3:∀ x y:Heap,φ x->(∀ o,x.get? a=some o->y.get? a=some o)->φ y):zc2 P w H h a (.ext φ):=⟨h1,⟨o,h2⟩,h3⟩
theorem zkS{c:Addr}{q:Str}(x y:Heap)(h:x.CodeRec (.ref c) q)(k:∀ o,x.get? c=some o->y.get? c=some o):y.CodeRec (.ref c) q:=by obtain ⟨c',o,vs,t,e,h1,h2,h3⟩:=h;cases e;exact ⟨c,o,vs,t,rfl,k o h1,h2,h3⟩
structure zor(P:Addr)(q:Str)(G H:Hp)(ps:Array Value):Prop where
 at_:H P=some (.tbl ps)
 tri:TriplesOk ps.toList
 cod:∀ pos cv,codeAmong pos ps.toList=some cv->∃ c,cv=.ref c/\G c=some (cHO c q)
section
variable{X:Cx}{pS:List (Addr×Obj)}{Y:L2.St}{H:Hp}{s:Shared}{P:Addr}{q:Str}{params:Arguments}{body:Expr}{scope:Scope}{pos:Pos}{cl:List (Str×Addr)}{ps:Array Value}{Q:VK}
theorem ztJ(LB:zgu X P)(I:L2.Inv X pS Y H s)(hdef:defaultsOf params X.env=([],[]))(hcl:closureFor scope X.env=pure cl)(T:zor P (X.env.qual++"<lambda>") H H ps)
  (hA:∀ c Fa ctv,codeAmong pos ps.toList=none->H c=none->H Fa=none->c≠Fa->Q (.ref Fa) (upd (upd (upd H P (.tbl (ps++#[rawInt pos.line,rawInt pos.col,.ref c]))) c (cHO c (X.env.qual++"<lambda>"))) Fa (fHO Fa (W.kla_obj "<lambda>" (X.env.qual++"<lambda>") params body scope cl ((X.mg "__name__").getD .none) c ctv))))
  (hB:∀ c Fa ctv,codeAmong pos ps.toList=some (.ref c)->H Fa=none->Q (.ref Fa) (upd H Fa (fHO Fa (W.kla_obj "<lambda>" (X.env.qual++"<lambda>") params body scope cl ((X.mg "__name__").getD .none) c ctv)))) :
  wpAny (model X.prog X.w) X.A (eval (.Lambda params body scope pos) X.env) (EP X pS Y Q) X.xe s:=by
 obtain ⟨c0,hc0,C0⟩:=LB.code;have C0':=C0.keeps I.bk;have hg:=I.mod.glob.keeps I.bk;have oP:s.heap.get? P=some (W.tabObj ps):=I.hok P _ T.at_;have nP:∀ b o,X.base.get? b=some o->b≠P:=λb o e z=>by have:=(I.bs b o e).2;rw[z,T.at_] at this;cases this
 have hgP:mainGlobals≠P:=by obtain ⟨o,es,ep,e,_⟩:=I.mod.glob;exact nP _ _ e
 have hbl:s.heap.BuiltinsAt X.mg P:=by obtain ⟨bm,o,b1,b2,b3,b4,b5,b6⟩:=LB.blt;exact ⟨bm,o,b1,b2,b3,b4,I.bk _ _ b5,b6⟩
 refine W.kla_eval hdef ?_;cases hk:codeAmong pos ps.toList with
 |none =>
  refine W.kla_makeFunction (mg:=X.mg) hcl I.ok.glob hg hc0 C0' oP T.tri hk hgP hbl λc' ctv h' tk hx hge hlt hrec htb=>?_;have hcn:H c'=none:=I.hok.fresh hge;have hFn:H h'.objs.size=none:=I.hok.fresh (waO hge (Nat.le_of_lt hlt));have hne:c'≠h'.objs.size:=waN hlt;have cP:c'≠P:=λz=>by rw[z,T.at_] at hcn;cases hcn
  have fP:h'.objs.size≠P:=λz=>by rw[z,T.at_] at hFn;cases hFn
  have kp:∀ b o,b≠P->s.heap.get? b=some o->(h'.push (W.kla_obj "<lambda>" (X.env.qual++"<lambda>") params body scope cl ((X.mg "__name__").getD .none) c' ctv)).get? b=some o:=λb o hb e=>waa _ (hx b o hb e);have hq:=hA c' h'.objs.size ctv hk hcn hFn hne;refine ⟨.ref h'.objs.size,_,I.call' (s':={ s with heap:=h'.push (W.kla_obj "<lambda>" (X.env.qual++"<lambda>") params body scope cl ((X.mg "__name__").getD .none) c' ctv),toks:=tk }) (ch:=[]) rfl ⟨λb o e n _ _=>?_,λb o e n _ _=>?_,λb o e n _=>?_,λb o e _=>?_,λb xs z=>?_,λb o u z=>?_,λb pz z=>?_⟩ (λb u e=>?_) I.bare λb hb=>absurd hb xws,rfl,hq⟩
  ·exact kp b o (λz=>by rw[z,T.at_] at n;cases n) e
  ·exact ⟨o.slots,kp b o (λz=>by rw[z,T.at_] at n;cases n) e⟩
  ·have l1:=wai e;rw[zaj (Nat.ne_of_lt (Nat.lt_trans (Nat.lt_of_lt_of_le l1 hge) hlt)),zaj (Nat.ne_of_lt (Nat.lt_of_lt_of_le l1 hge)),zaj (λz=>by rw[z,T.at_] at n;cases n)];exact n
  ·by_cases hb:b=P
   ·subst hb;exact ⟨_,waa _ htb⟩
   ·exact ⟨o,kp b o hb e⟩
  ·rw[zaj (zak z hFn),zaj (zak z hcn),zaj (λy=>by rw[y,T.at_] at z;cases z)];exact z
  ·rw[zaj (zak z hFn),zaj (zak z hcn),zaj (λy=>by rw[y,T.at_] at z;cases z)];exact z
  ·by_cases hb:b=P
   ·subst hb;rw[T.at_] at z;cases z;exact ⟨_,by rw[zaj (Ne.symm fP),zaj (Ne.symm cP),zan]⟩
   ·exact ⟨#[],by rw[zaj (zak z hFn),zaj (zak z hcn),zaj hb,z];simp⟩
  ·by_cases hbF:b=h'.objs.size
   ·rw[hbF,zan] at e;cases e;rw[hbF];exact zjG (waj _ rfl) (waj _ rfl) λx y h k=>k _ h
   ·rw[zaj hbF] at e;by_cases hbc:b=c'
    ·rw[hbc,zan] at e;cases e;rw[hbc];have hr:=hrec.push (W.kla_obj "<lambda>" (X.env.qual++"<lambda>") params body scope cl ((X.mg "__name__").getD .none) c' ctv);obtain ⟨c2,o2,_,_,e2,h2,_⟩:=id hr;cases e2;exact zjG hr h2 zkS
    ·rw[zaj hbc] at e;by_cases hbP:b=P
     ·rw[hbP,zan] at e;cases e;rw[hbP];exact waa _ htb
     ·rw[zaj hbP] at e;refine (I.hok b u e).stay (λd o hd z=>?_) (λd z=>?_) λd xs z=>?_
      ·refine kp d o (λy=>?_) z;rcases hd with hd|hd
       ·exact hbP (hd.symm.trans y)
       ·rw[y,T.at_] at hd;cases hd
      ·rw[zaj (zak z hFn),zaj (zak z hcn),zaj (λy=>by rw[y,T.at_] at z;cases z)];exact z
      ·rw[zaj (zak z hFn),zaj (zak z hcn),zaj (λy=>by rw[y,T.at_] at z;cases z)];exact z
 |some cv =>
  obtain ⟨c,rfl,hcG⟩:=T.cod pos cv hk;refine W.kla_makeFunctionHit (mg:=X.mg) hcl I.ok.glob hg hc0 C0' oP T.tri hk hbl λctv h' tk hkp hsz=>?_;have hFn:H h'.objs.size=none:=I.hok.fresh hsz;exact ⟨.ref h'.objs.size,_,I.laid (t':=tk) (λb u e=>waa _ (hkp b u e)) hsz (zjG (waj _ rfl) (waj _ rfl) λx y h k=>k _ h),rfl,hB c h'.objs.size ctv hk hFn⟩
end
def zo5(iF ierr ie:Nat)(Cc:Addr):DS:=λZ=>match Z[iF]? with
 |some (some .opq)=>if ierr < Z.length/\ie < Z.length then .ok (.nx,(Z.set ierr (some (.exc Cc))).set ie none) else .no
 |_=>.no
section
variable{X:Cx}{C:Cn}{p1 p2 p3 p4 p5 p6 p7 p8 p9:Pos}{Cc Cs Fa:Addr}{iF ierr ie:Nat}{xF xerr xe xS:Str}
theorem znw(hc:X.calm=true)(hN:X.N.Nodup)(hst:X.stack=X.env::X.outer)(hfrm:X.env.frame=some X.env.locals)(hw0:C.w₀=λ_=>none)(hpp:C.pp=[iF])(hσ0:C.σ₀[iF]? = some (some (.ref Fa)))
  (hF:∀ pS Y H s,L2.Inv X pS Y H s->zbU C.H₀ H->codeAny (model X.prog X.w) X.A (.call (.ref Fa) ⟨[],[]⟩) (λr s'=>∃ e,r=.error e/\CXf X.prog X.w X.stack H s (EL Cc H) e s') s)
  (hFn:∀ pS Y H s,L2.Inv X pS Y H s->zbU C.H₀ H->W.FnAt Fa s.heap)
  (xs:Xin X.K Cs) (hsub:W.subIn X.K (.ref Cc) (.ref Cs)=some true) (hmS:X.mg xS=some (.ref Cs)) (hgS:Gl X xS)
  (hNF:X.N[iF]? = some xF) (hNerr:X.N[ierr]? = some xerr) (hNe:X.N[ie]? = some xe) (hie:ie≠ierr) (hF1:ierr≠iF) (hF2:ie≠iF) (kF:X.env.scope.names.lookup xF=some .local) (kerr:X.env.scope.names.lookup xerr=some .local) (ke:X.env.scope.names.lookup xe=some .local)
  (hd1:(xF == ("__debug__" : Str))=false:=by decide) (hd2:(xF == ("__classdict__" : Str))=false:=by decide) (hd3:(xS == ("__debug__" : Str))=false:=by decide) (hd4:(xe == ("__debug__" : Str))=false:=by decide) (hd5:(xe == ("__classdict__" : Str))=false:=by decide)
  (hsw:swapsWith (.Call (.Name xF p1) [] [] p2) none p3.line X.env=pure false:=by rfl) (hsw2:swapsWith (.Name xe p6) (some (.Name xerr p5)) p7.line X.env=pure false:=by rfl) :
  JS X C (.Try [.Expr (.Call (.Name xF p1) [] [] p2) p3] [.ExceptHandler (some (.Name xS p4)) (some xe) [.Assign [.Name xerr p5] (.Name xe p6) p7] p8] [] [] p9) (zo5 iF ierr ie Cc) :=
 PS.weak (zos hc hN hst hfrm hF hFn xs hsub hmS hgS hNF hNerr hNe hie kF kerr ke hd1 hd2 hd3 hd4 hd5 hsw hsw2) λD Y H ⟨G,w,Z,r,p⟩=>by
  unfold zo5 at p;split at p
  ·split at p
   ·rename_i hlen;have sm:zbU C.H₀ H:=λb o e=>r.en.h b o e (by rw[hw0]);refine ⟨by rw[r.pin iF (by rw[hpp];simp)];exact hσ0,sm,λl H' same hl=>?_⟩;have hHl:H l=none:=by
     cases q:H l with
     |none=>rfl
     |some u=>rw[same l u q] at hl;cases hl
    have hGl:G l=none:=by
     cases q:G l with
     |none=>rfl
     |some u=>rw[r.gh l u q] at hHl;cases hHl
    have wl:∀ b,w b≠none->b≠l:=λb e z=>by subst z;exact r.wh b e hHl
    have sG:zbU G (upd G l (xHO l Cc)):=λb u e=>by rw[zaj (zak e hGl)];exact e
    have sH:zbU H (upd H' l (xHO l Cc)):=λb u e=>by rw[zaj (zak e hHl)];exact same b u e
    have st:zbB G H w (upd G l (xHO l Cc)) (upd H' l (xHO l Cc)) w:=by
     refine ⟨sG,λb o e=>?_,λb o e _=>sH b o e,λb e=>.inl e,λb e=>?_⟩
     ·by_cases hb:b=l
      ·subst hb;exact .inr (.inl hHl)
      ·rw[zaj hb] at e;exact .inl (by rw[e];simp)
     ·cases q:H b with
      |none=>rfl
      |some u=>rw[sH b u q] at e;cases e
    refine p _ _ _ _ st ⟨λb u e=>?_,λb e=>?_,λb e z=>?_,by simpa using r.len,λi b e=>?_,r.en.trans st,λi hi=>?_⟩
    ·by_cases hb:b=l
     ·subst hb;rw[zan] at e ⊢;exact e
     ·rw[zaj hb] at e ⊢;exact same b u (r.gh b u e)
    ·rw[zaj (wl b e)];exact r.wg b e
    ·cases q:H b with
     |none=>exact r.wh b e q
     |some u=>rw[sH b u q] at z;cases z
    ·by_cases h2:i=ie
     ·subst h2;rw[List.getElem?_set_self (by simpa using hlen.2)] at e;cases e
     ·rw[List.getElem?_set_ne (Ne.symm h2)] at e ⊢;by_cases h1:i=ierr
      ·subst h1;rw[List.getElem?_set_self hlen.1] at e;cases e;refine ⟨.ref l,?_,l,rfl,zan⟩;rw[List.getElem?_set_self (by rw[List.length_set,<- r.len];exact hlen.1)]
      ·rw[List.getElem?_set_ne (Ne.symm h1)] at e ⊢;rw[List.getElem?_set_ne (Ne.symm h2)];obtain ⟨v,q1,q2⟩:=r.sl i b e;exact ⟨v,q1,q2.grow sG λa o e1 e2=>⟨sH a o e2,e1⟩⟩
    ·rw[hpp] at hi;have:i=iF:=by simpa using hi
     subst this;rw[List.getElem?_set_ne hF2,List.getElem?_set_ne hF1,List.getElem?_set_ne hF2];exact r.pin i (by rw[hpp];simp)
   ·exact p.elim
  ·exact p.elim
end
theorem zuO{CX:CXT}{P:Program}{w:World}{K:W.Frag}{mg:Str->Option Value}{base:Heap}{k:Nat}{f:Addr}{name qual:Str}{params:Arguments}{body:List Stmt}{scope:Scope}{dV kV doc pm cdv ct oc:Value}{an od:Option Addr}
  {osl:Array (Option Value)} {N ps:List Str} {A:Around} {outer:List Env} {s:Shared} {H:Hp} {args:Args} {us:List Value} {vs:List V} {Q:VK} {E:XK} (lk:K.lookup f=some ⟨oc,od,.func (W.fnOf name qual params body scope dV kV doc pm an cdv ct),osl⟩) (hcd:W.codeIn K cdv qual=true) (S:zau N ps scope)
  (hr:zd5 (k+1) A) (e0:zph P w K mg base A outer s H) (hb:BindsTo s (W.fnOf name qual params body scope dV kV doc pm an cdv ct) args (ps.zip us)) (r:zba vs us) (hl:vs.length=ps.length)
  (hbody:∃ t,PSs (zko CX P w K mg base N qual scope f cdv A outer s H E) body t/\t { nx:=λ_ H'=>Q .non H',rt:=Q } (start N vs) H) :
  codeAny (model P w) A (.call (.ref f) args) (CR CX outer P w H s Q E) s:=by
 have hin:K.In s.heap:=e0.mod.kin.keeps λb o e=>(e0.bs b o e).1;have nolim:s.heap.NoLimit:=e0.mod.nolimit.keeps λb o e=>(e0.bs b o e).1;have zbG:∀ y∈ps.zip us,scope.names.lookup y.1=some .local\/(scope.names.lookup y.1=some .cell/\((cellsFrom (s.heap.objs.size+1) scope.names []).lookup y.1).isSome=true):=λ⟨n,v⟩ hy=>by
  rcases S.par n (List.of_mem_zip hy).1 with q|q
  ·exact .inl q
  ·exact .inr ⟨q,W.cellsFrom_some _ _ _ (.inl q)⟩
 have dp:A.depth<recursionLimit:=by have:=hr.dp;lia
 refine codeAny_call_function dp (hin _ _ lk) rfl S.co S.gen rfl (W.codeRec_of hin hcd) (hb _ _ _ _ ?_);refine wpAny_newFunctionEnv_cells S.kind zbG λenv he s1 x=>?_;subst he;refine ⟨nolim.keeps x.toInCall.keep,codeAny_func ?_⟩;obtain ⟨t,ht,hq⟩:=hbody;have I:=zjw (CX:=CX) (K:=K) (mg:=mg) (base:=base) (E:=E) (qual:=qual) (f:=f) (cd:=cdv) S hr.hd e0 hl r x;refine wpAny_mono (ht [] s1 (start N vs) H _ I hq) (λfl s' hs=>?_) λe s' hs=>hs;cases fl with
 |ret u=>obtain ⟨v,Y',H',J,rv,q⟩:=hs;exact ⟨v,H',J.os,J.bare,J.base,J.hok,rv,q⟩
 |next=>obtain ⟨Y',H',J,q⟩:=hs;exact ⟨V.non,H',J.os,J.bare,J.base,J.hok,rfl,q⟩
 |brk=>obtain ⟨_,_,_,q⟩:=hs;exact q.elim
 |cont=>obtain ⟨_,_,_,q⟩:=hs;exact q.elim
theorem zjR{a b:Int}{t u:Tok}{c:Value}:∀{l:List Value},TriplesOk l->TriplesOk (l++[.int a t,.int b u,c]):=by
 intro l h
 fun_induction TriplesOk l with
 |case1=>simp[TriplesOk]
 |case2 x1 x2 x3 x4 x5 zbo ih=>simpa [TriplesOk] using ih h
 |case3=>exact h.elim
theorem zml{p:Pos}{a b:Int}{t u:Tok}{c cv:Value}:∀{l:List Value},TriplesOk l->codeAmong p (l++[.int a t,.int b u,c])=some cv->codeAmong p l=some cv\/cv=c:=by
 intro l h e
 fun_induction TriplesOk l with
 |case1 =>
  simp only[List.nil_append,codeAmong] at e;split at e
  ·exact .inr (waB e).symm
  ·cases e
 |case2 x1 x2 x3 x4 x5 zbo ih =>
  simp only[List.cons_append,codeAmong] at e ⊢;split at e
  ·rename_i hh;rw[if_pos hh];exact .inl e
  ·rename_i hh;rw[if_neg hh];exact ih h e
 |case3=>exact h.elim
section
variable{K:W.Frag}{C:Cn}{G H:Hp}{w:Wn}{Z:Ev}{Y:L2.St}{j:Nat}{q:Str}{P c Fa:Addr}{ps:Array Value}{a b:Int}{t u:Tok}{ob:Obj}
theorem Rel.lamA(r:Rel K C G w Z Y H)(hj:Z[j]? = some (some (.tab q)))(hσ:Y[j]? = some (some (.ref P)))(hw:w P=some j)(T:zor P q G H ps)(hc:H c=none)(hF:H Fa=none)(hne:c≠Fa) :
  Rel K C (upd (upd G c (cHO c q)) Fa (fHO Fa ob)) w Z Y (upd (upd (upd H P (.tbl (ps++#[.int a t,.int b u,.ref c]))) c (cHO c q)) Fa (fHO Fa ob)) /\
   zbB G H w (upd (upd G c (cHO c q)) Fa (fHO Fa ob)) (upd (upd (upd H P (.tbl (ps++#[.int a t,.int b u,.ref c]))) c (cHO c q)) Fa (fHO Fa ob)) w:=by
 have gf:∀{x:Addr},H x=none->G x=none:=λ{x} e=>r.gh.free e;have cP:c≠P:=λz=>by rw[z,T.at_] at hc;cases hc
 have fP:Fa≠P:=λz=>by rw[z,T.at_] at hF;cases hF
 have gP:G P=none:=r.wg P (by rw[hw];simp);have sG:zbU G (upd (upd G c (cHO c q)) Fa (fHO Fa ob)):=λx o e=>by rw[zaj (zak e (gf hF)),zaj (zak e (gf hc))];exact e
 have oth:∀{x:Addr}{o:HO},x≠P->H x=some o->upd (upd (upd H P (.tbl (ps++#[.int a t,.int b u,.ref c]))) c (cHO c q)) Fa (fHO Fa ob) x=some o:=λ{x o} hx e=>by rw[zaj (zak e hF),zaj (zak e hc),zaj hx];exact e
 have dom:∀ x,upd (upd (upd H P (.tbl (ps++#[.int a t,.int b u,.ref c]))) c (cHO c q)) Fa (fHO Fa ob) x=none->H x=none:=λx e=>by
  by_cases h1:x=Fa
  ·rw[h1,zan] at e;cases e
  ·rw[zaj h1] at e;by_cases h2:x=c
   ·rw[h2,zan] at e;cases e
   ·rw[zaj h2] at e;by_cases h3:x=P
    ·rw[h3,zan] at e;cases e
    ·rw[zaj h3] at e;exact e
 have st:zbB G H w (upd (upd G c (cHO c q)) Fa (fHO Fa ob)) (upd (upd (upd H P (.tbl (ps++#[.int a t,.int b u,.ref c]))) c (cHO c q)) Fa (fHO Fa ob)) w:=by
  refine ⟨sG,λx o e=>?_,λx o e z=>oth (λy=>by rw[y,hw] at z;cases z) e,λx e=>.inl e,dom⟩;by_cases h1:x=Fa
  ·rw[h1];exact .inr (.inl hF)
  ·rw[zaj h1] at e;by_cases h2:x=c
   ·rw[h2];exact .inr (.inl hc)
   ·rw[zaj h2] at e;exact .inl (by rw[e];simp)
 refine ⟨⟨λx o e=>?_,λx e=>?_,λx e z=>r.wh x e (dom x z),r.len,λi bb e=>?_,r.en.trans st,r.pin⟩,st⟩
 ·by_cases h1:x=Fa
  ·rw[h1,zan] at e ⊢;exact e
  ·rw[zaj h1] at e ⊢;by_cases h2:x=c
   ·rw[h2,zan] at e ⊢;exact e
   ·rw[zaj h2] at e ⊢;rw[zaj (λy=>by rw[y,gP] at e;cases e)];exact r.gh x o e
 ·have:=r.wh x e;rw[zaj (λy=>this (by rw[y];exact hF)),zaj (λy=>this (by rw[y];exact hc))];exact r.wg x e
 ·obtain ⟨v,e1,e2⟩:=r.sl i bb e;by_cases hi:i=j
  ·subst hi;rw[hj] at e;cases e;rw[hσ] at e1;cases e1;refine ⟨_,hσ,P,ps++#[.int a t,.int b u,.ref c],rfl,hw,?_,?_,λp cv hcv=>?_⟩
   ·rw[zaj (Ne.symm fP),zaj (Ne.symm cP),zan]
   ·rw[Array.toList_append];exact zjR T.tri
   ·rw[Array.toList_append] at hcv;rcases zml T.tri hcv with z|z
    ·obtain ⟨c2,q1,q2⟩:=T.cod p cv z;exact ⟨c2,q1,sG _ _ q2⟩
    ·exact ⟨c,z,by rw[zaj hne,zan]⟩
  ·refine ⟨v,e1,e2.grow sG λx o z1 z2=>⟨oth (λy=>?_) z2,z1⟩⟩;rw[y,hw] at z1;exact hi (waB z1).symm
theorem Rel.lamB(r:Rel K C G w Z Y H)(hF:H Fa=none):Rel K C (upd G Fa (fHO Fa ob)) w Z Y (upd H Fa (fHO Fa ob))/\zbB G H w (upd G Fa (fHO Fa ob)) (upd H Fa (fHO Fa ob)) w :=
 let gr:ze9 G H (upd G Fa (fHO Fa ob)) (upd H Fa (fHO Fa ob)):=.new r.gh hF
 ⟨r.grow gr,gr.step⟩
theorem zlI{bs:List B}:∀{Z:Ev}{k:Nat},zfN [] bs k Z = Z
 |[],_=>rfl
 |o::r,k=>by unfold zfN;rw[zlI (Z:=r)];rfl
end
def zpO(C:Cn)(G H:Hp)(Y:L2.St):Cn:=⟨G,H,λ_=>none,[0],Y,λ_=>False,C.xv,true⟩
def zrZ(C:Cn)(G H:Hp)(Y:L2.St)(n:Nat):Cn:=⟨G,H,λ_=>none,[],Y,λm=>m=n,C.xv,false⟩
abbrev HB(X:Cx)(C:Cn)(xr:Str)(st:Stmt)(f:Addr)(NR:List Str)(k:Nat)(cls:Nat->Addr)(dB:Nat->Addr->DS):Prop:=∀(XR:Cx)(CR:Cn)(n:Nat)(Fa:Addr),n<8->(∃ cdv A outer s H E,XR=zko (CXe X.prog X.w) X.prog X.w X.K X.mg X.base NR xr (zah st) f cdv A outer s H E)->(∃ G H,CR=zpO C G H (start NR [.ref Fa]))->zd5 (k+1) XR.A ->
   (∀ pS Y H s,L2.Inv XR pS Y H s->zbU CR.H₀ H->codeAny (model XR.prog XR.w) XR.A (.call (.ref Fa) ⟨[],[]⟩) (λr s'=>∃ e,r=.error e/\CXf XR.prog XR.w XR.stack H s (EL (cls n) H) e s') s) ->
   (∀ pS Y H s,L2.Inv XR pS Y H s->zbU CR.H₀ H->W.FnAt Fa s.heap)->JSs XR CR (zbY st) (dB n (cls n))
abbrev HD(m:Nat)(dB:Nat->Addr->DS):Prop:=∀ n C',n<8->∃ Z',dB n C' (some .opq::List.replicate m none)=.ok (.rt (.lst [.int n]),Z')
abbrev HL(X:Cx)(xv:Nat->Value)(k:Nat)(body:Expr)(scope:Scope)(fE:De):Prop:=∀(XL:Cx)(CL:Cn),(∃ XR cl Fa cdv s H E,XR.prog=X.prog/\XR.w=X.w/\XR.K=X.K/\XR.mg=X.mg/\XR.base=X.base/\XL=zio XR X.N scope cl (X.env.qual++"<lambda>") Fa cdv s H E)->CL.xv=xv->zd5 k XL.A->zcC (CXe X.prog X.w) XL (EXc CL)->JE XL CL body fE
abbrev HA(X:Cx)(params:Arguments)(body:Expr)(scope:Scope):Prop:=∀ cl pm cdv ctv,bindArgs (W.kla_fn "<lambda>" (X.env.qual++"<lambda>") params body scope cl pm cdv ctv) ⟨[],[]⟩=pure []
abbrev kLo(X:Cx)(params:Arguments)(body:Expr)(scope:Scope)(cl:List (Str×Addr))(c:Addr)(ctv:Value):Obj:=W.kla_obj "<lambda>" (X.env.qual++"<lambda>") params body scope cl ((X.mg "__name__").getD .none) c ctv
structure zga(X:Cx)(xv:Nat->Value)(k:Nat)(params:Arguments)(body:Expr)(scope:Scope)(fE:De):Prop where
 hE:HL X xv k body scope fE
 hfr:Hfr X scope
 hbind:HA X params body scope
 hdef:defaultsOf params X.env=([],[]):=by rfl
 hk:scope.kind=.function:=by rfl
 ho:zpN scope.names=true:=by rfl
 hco:scope.isCoroutine=false:=by rfl
 hgen:scope.isGenerator=false:=by rfl
structure zli(X:Cx)(xv:Nat->Value)(k n:Nat)(Z:Ev)(G:Hp)(Fa:Addr):Prop where
 ex:∃ params body scope cl c ctv fE,zga X xv k params body scope fE/\(∀ x cc,cl.lookup x=some cc->X.env.cells.lookup x=some cc)/\(∀ y∈scope.names,y.2=.free->∃ c,cl.lookup y.1=some c) /\
  G Fa=some (fHO Fa (kLo X params body scope cl c ctv))/\G c=some (cHO c (X.env.qual++"<lambda>"))/\fE (zcL Z)=.er n
theorem zli.same{X:Cx}{xv:Nat->Value}{k n:Nat}{Z:Ev}{G G':Hp}{Fa:Addr}(L:zli X xv k n Z G Fa)(e:zbU G G'):zli X xv k n Z G' Fa:=by obtain ⟨params,body,scope,cl,c,ctv,fE,h1,h2,h3,h4,h5,h6⟩:=L.ex;exact ⟨params,body,scope,cl,c,ctv,fE,h1,h2,h3,e _ _ h4,e _ _ h5,h6⟩
def tLam(X:Cx)(P:Addr)(params:Arguments)(body:Expr)(scope:Scope)(lpos:Pos)(cl:List (Str×Addr)):TE:=λY H Q=>∃ ps:Array Value,zor P (X.env.qual++"<lambda>") H H ps /\
 (∀ c Fa ctv,codeAmong lpos ps.toList=none->H c=none->H Fa=none->c≠Fa->Q (.ref Fa) (upd (upd (upd H P (.tbl (ps++#[rawInt lpos.line,rawInt lpos.col,.ref c]))) c (cHO c (X.env.qual++"<lambda>"))) Fa (fHO Fa (kLo X params body scope cl c ctv)))) /\
 ∀ c Fa ctv,codeAmong lpos ps.toList=some (.ref c)->H Fa=none->Q (.ref Fa) (upd H Fa (fHO Fa (kLo X params body scope cl c ctv)))
section
variable{X:Cx}{C:Cn}{P:Addr}{params:Arguments}{body:Expr}{scope:Scope}{lpos:Pos}{cl:List (Str×Addr)}
theorem zqF(LB:zgu X P)(hdef:defaultsOf params X.env=([],[]))(hcl:closureFor scope X.env=pure cl):PE X (.Lambda params body scope lpos) (tLam X P params body scope lpos cl):=λpS s Y H Q I ⟨ps,T,hA,hB⟩=>ztJ LB I hdef hcl T hA hB
theorem zlT{G H:Hp}{w:Wn}{Z:Ev}{Y:L2.St}{j:Nat}{Q:VK}(r:Rel X.K C G w Z Y H)(hj:Z[j]? = some (some (.tab (X.env.qual++"<lambda>"))))(hσj:Y[j]? = some (some (.ref P)))
  (k:∀ Fa c ctv G1 H1,Rel X.K C G1 w Z Y H1->zbB G H w G1 H1 w->G1 Fa=some (fHO Fa (kLo X params body scope cl c ctv))->G1 c=some (cHO c (X.env.qual++"<lambda>"))->Q (.ref Fa) H1):tLam X P params body scope lpos cl Y H Q:=by
 obtain ⟨vP,eP1,P',ps,rfl,hwP,hHP,htri,hcod⟩:=r.sl j _ hj;rw[hσj] at eP1;obtain rfl:P=P':=by injection eP1 with e1;injection e1 with e2;injection e2
 have T:zor P (X.env.qual++"<lambda>") G H ps:=⟨hHP,htri,hcod⟩
 have TH:zor P (X.env.qual++"<lambda>") H H ps:=⟨hHP,htri,λq cv z=>let ⟨c,z1,z2⟩:=hcod q cv z;⟨c,z1,r.gh _ _ z2⟩⟩
 refine ⟨ps,TH,λc Fa ctv _ hc hF hne=>?_,λc Fa ctv hk' hF=>?_⟩
 ·obtain ⟨rel1,st1⟩:=r.lamA (ob:=W.kla_obj "<lambda>" (X.env.qual++"<lambda>") params body scope cl ((X.mg "__name__").getD .none) c ctv) (a:=lpos.line) (b:=lpos.col) (t:=_) (u:=_) hj hσj hwP T hc hF hne;exact k Fa c ctv _ _ rel1 st1 zan (by rw[zaj hne,zan])
 ·obtain ⟨rel1,st1⟩:=r.lamB (ob:=W.kla_obj "<lambda>" (X.env.qual++"<lambda>") params body scope cl ((X.mg "__name__").getD .none) c ctv) hF;obtain ⟨c2,e1,e2⟩:=hcod _ _ hk';cases e1;have hcH:=r.gh _ _ e2;exact k Fa c ctv _ _ rel1 st1 zan (by rw[zaj (zak hcH hF)];exact e2)
end
section
variable{X:Cx}{C CY:Cn}{f:Addr}{fd:FuncData}{st:Stmt}{xq xr:Str}{NR:List Str}{m k n:Nat}{dB:Nat->Addr->DS}
theorem zpG(cls:Nat->Addr)(hxv:∀ n,n<8->C.xv n=.ref (cls n))(hfn:X.fn=λ_=>true)
  (Fu:Fun X.K xq xr st f fd) (S:zau NR ["call"] (zah st)) (hNR:NR.length=m+1) (hb:zfw X.K fd ["call"] []) (hr:zd5 (k+2) X.A)
  (hB:HB X C xr st f NR k cls dB)
  (hden:HD m dB) (hn8:n<8)
  {pS:List (Addr×Obj)} {Y σY:L2.St} {H1:Hp} {s1:Shared} (I1:L2.Inv X pS Y H1 s1) (e0:zph X.prog X.w X.K X.mg X.base X.A X.stack s1 H1)
  {G1:Hp} {w:Wn} {ρY Z:Ev} {Fa:Addr} (rel1:Rel X.K CY G1 w ρY σY H1) (hval:∀(i:Nat)(d:Dt),Z[i]? = some (some (.val d))->∃ v,Y[i]? = some (some v)/\Rep X.K G1 d v) (hlen:Z.length = Y.length) (L:zli X C.xv k n Z G1 Fa) {Q:VK} (kn:kN X.K CY σY Q G1 H1 w ([.int n],ρY)) :
  codeAny (model X.prog X.w) X.A (.call (.ref f) ⟨[.ref Fa],[]⟩) (L2.CR (CXe X.prog X.w) X.stack X.prog X.w H1 s1 Q (λ_ _ _=>False)) s1:=by
 obtain ⟨params,body,scope,cl,c,ctv,fE,A,hcl,hcf,gF,gc,hfE⟩:=L.ex;have hHF:=rel1.gh _ _ gF;have hHc:=rel1.gh _ _ gc;obtain ⟨oc,od,kV,doc,pm,an,cdv,ct,osl,rfl,lk,hcd⟩:=Fu.ex;refine zuO (CX:=CXe X.prog X.w) (k:=k+1) (E:=λ_ _ _=>False) (us:=[.ref Fa]) (vs:=[.ref Fa]) (N:=NR) (Q:=Q) lk hcd S hr e0 (by simpa using hb s1 [.ref Fa] I1.kIn rfl) (.cons rfl .nil) rfl ?_;let XR:=zko (CXe X.prog X.w) X.prog X.w X.K X.mg X.base NR xr (zah st) f cdv X.A X.stack s1 H1 (λ_ _ _=>False);let CRR:=zpO C G1 H1 (start NR [.ref Fa]);have frs0:∀ x cc,cl.lookup x=some cc->cc∉frs X.stack:=λx cc e hmem=>by
  rcases wap.mp (I1.stkSub cc hmem) with z|z
  ·exact I1.cne x cc (hcl x cc e) z
  ·obtain ⟨_,o,ho',_⟩:=I1.ok.funs.mem z;exact absurd (wai ho') (Nat.not_lt.mpr (I1.ok.cab x cc (by rw[hfn]) (hcl x cc e)))
 have cells:∀ pinsR σR H2 s2,L2.Inv XR pinsR σR H2 s2->zhL X.N scope.names cl Y H2 s2.heap:=λpinsR σR H2 s2 J=>by
  have mv:∀ x cc v,cl.lookup x=some cc->s1.heap.IsCell cc v->s2.heap.IsCell cc v:=λx cc v e ⟨o,e1,e2⟩ =>
   ⟨o,J.base.keep cc o e1 (I1.freeC x cc (hcl x cc e)) (frs0 x cc e) (by show cc∉([]:List Addr);simp),e2⟩
  refine ⟨λx y cc h1 h2=>I1.ok.inj x y cc (hcl x cc h1) (hcl y cc h2),λx e=>hcf _ (zbh e) rfl,λx cc e=>?_,λi x v e1 e2 e3=>?_⟩
  ·obtain ⟨v,ic⟩:=I1.cell x cc (hcl x cc e);obtain ⟨o,e1,_⟩:=id ic;exact ⟨⟨v,mv x cc v e ic⟩,J.base.free cc o e1 (I1.freeC x cc (hcl x cc e)) (by show cc∉([]:List Addr);simp)⟩
  ·have hmem:=zbh e3;have kc:=A.hfr _ hmem rfl;obtain ⟨m0,hn0,hl0⟩:=I1.loc;obtain ⟨u,ru,lk'⟩:=hl0 i x v e1 e2 (kc.elim (λz=>.inr (.inl z)) λz=>.inr (.inr z));obtain ⟨cc,hcc⟩:=hcf _ hmem rfl;refine ⟨u,cc,ru,hcc,?_⟩;rcases lk' with ⟨z,_⟩|⟨_,c',e',ic⟩
   ·rcases kc with y|y <;> (rw[y] at z;cases z)
   ·rw[hcl _ _ hcc] at e';cases e';exact mv x cc _ hcc ic
 have objs:∀ pinsR σR H2 s2,L2.Inv XR pinsR σR H2 s2->zbU H1 H2->s2.heap.get? Fa=some (kLo X params body scope cl c ctv)/\s2.heap.CodeRec (.ref c) (X.env.qual++"<lambda>"):=λpinsR σR H2 s2 J sm=>by have o1:zc2 XR.prog XR.w H2 s2.heap Fa (fHO Fa _):=J.hok Fa _ (sm _ _ hHF);have o2:zc2 XR.prog XR.w H2 s2.heap c (cHO c _):=J.hok c _ (sm _ _ hHc);exact ⟨o1.1,o2.1⟩
 have hrR:zd5 (k+1) XR.A:=hr.deeper _;have hjs:=hB XR CRR n Fa hn8 ⟨cdv,X.A,X.stack,s1,H1,λ_ _ _=>False,rfl⟩ ⟨G1,H1,rfl⟩ hrR (λpinsR σR H2 s2 J sm=>?_) λpinsR σR H2 s2 J sm=>?_
 ·refine ⟨_,hjs,G1,λ_=>none,some .opq::List.replicate m none,?_,?_⟩
  ·refine ⟨rel1.gh,λb e=>absurd rfl e,λb e=>absurd rfl e,?_,λi b e=>?_,.refl _ _ _,λi _=>rfl⟩
   ·unfold L2.start;simp[hNR]
   ·cases i with
    |zero =>
     simp at e;subst e;exact ⟨.ref Fa,rfl,trivial⟩
    |succ i =>
     rw[List.getElem?_cons_succ,List.getElem?_replicate] at e;split at e <;> cases e
  ·obtain ⟨Z',e⟩:=hden n (cls n) hn8;rw[e];intro v Y' G' H' w' st' rel' rt;obtain ⟨l,pp,us,e1,rfl,e3,e4,e5,e6,e7⟩:=rt;injection e1 with e1;subst e1;have win:wIn w []=λ_=>none:=by funext b;unfold wIn;cases w b <;> rfl
   obtain ⟨r2,st2⟩:=rel1.back (as:=[]) (vs:=[]) (bs:=[]) (bs':=[]) (ks:=[]) rfl rfl rfl rfl (by rw[win];exact st') ⟨rel'.gh,rel'.wg,rel'.wh,λj' v' z=>by simp at z⟩;rw[zlI] at r2;have w1p:w pp=none:=by
    cases zz:w pp with
    |none=>rfl
    |some kk=>exact absurd e3 (rel1.wh pp (by rw[zz];simp))
   exact kn pp us G' H' _ st2 r2 e3 e4 e5 (by unfold zo8;rw[e6,w1p];rfl) e7
 ·
  obtain ⟨o1,o2⟩:=objs _ _ _ _ J sm;refine zpL (Y:=Y) (N:=X.N) (t:=tE X.K (zrZ C G1 H2 Y n) fE) J rfl (by have:=hrR.dp;lia) A.hk A.ho (cells _ _ _ _ J) I1.len o1 o2 (A.hbind _ _ _ _) A.hco A.hgen ?_ ?_
  ·refine A.hE _ (zrZ C G1 H2 Y n) ⟨XR,cl,Fa,.ref c,s2,H2,EL (cls n) H2,rfl,rfl,rfl,rfl,rfl,rfl⟩ rfl (hrR.deeper _) (zma λu a H' ⟨ea,n',eu,en,G',w',s'⟩=>?_);have en':n'=n:=en;subst en';exact ⟨eu.trans (hxv n' hn8),λb o e=>s'.h b o e rfl⟩
  ·refine ⟨G1,λ_=>none,zcL Z,⟨rel1.gh.trans sm,λb e=>absurd rfl e,λb e=>absurd rfl e,by unfold zcL;rw[List.length_map];exact hlen,λi b e=>?_,.refl _ _ _,λi hi=>by simp[zrZ] at hi⟩,?_⟩
   ·unfold zcL at e;rw[List.getElem?_map] at e;cases q:Z[i]? with
    |none=>rw[q] at e;cases e
    |some o =>
     rw[q] at e;simp only[Option.map_some,Option.some.injEq] at e;split at e
     ·cases e;obtain ⟨v,e1,e2⟩:=hval i _ q;exact ⟨v,e1,e2⟩
     ·cases e
   ·rw[hfE];rfl
 ·obtain ⟨o1,_⟩:=objs _ _ _ _ J sm;exact ⟨_,_,_,_,o1⟩
end
theorem zr1{Yq:Cx}{pS:List (Addr×Obj)}{Y:L2.St}{H:Hp}{s s2:Shared}{Q:VK}{rr:Result}(I:L2.Inv Yq pS Y H s)(hq:L2.CR (CXe Yq.prog Yq.w) Yq.stack Yq.prog Yq.w H s Q (λ_ _ _=>False) rr s2){E:Value->Shared->Prop}:(match (generalizing:=false) rr with|.ok (.ret v)=>EP Yq pS Y Q v s2|.ok _=>False|.error e=>E e s2):=by
 cases rr with
 |error e=>exact (CXe.none hq).elim
 |ok fl =>
  cases fl with
  |ret u=>exact I.after hq
  |next=>exact waP hq
  |brk=>exact waP hq
  |cont=>exact waP hq
section
variable{X:Cx}{C:Cn}{P f:Addr}{fd:FuncData}{st:Stmt}{xq xr:Str}{NR:List Str}{m k j:Nat}{p pos lpos:Pos}{params:Arguments}{body:Expr}{scope:Scope}{fE:De}{dB:Nat->Addr->DS}
end
theorem zof{P:Program}{w:World}{K:W.Frag}{mg mb:Str->Option Value}{CX:CXT}{k:Nat}{fa a PT cL:Addr}{fd:FuncData}{x:Str}{sp:Sp}{s₁:Shared}{vs:List Value}{ns:List Int}
  (KX:K.In s₁.heap) (hns:s₁.heap.Ns mainGlobals mg) (hb:s₁.heap.Ns builtinsNs mb) (hbb:∀ x:Str,x≠"__name__"->mb x=bootBuiltins x) (hlim:s₁.heap.NoLimit) (hg:s₁.gens=#[])
  (ha:s₁.heap.get? a=some { cls:=.type "list",data:=.seq vs.toArray }) (hi:IntsAre vs ns) (hl:ns.length<=sizeLine) (hr:zd5 k callerA)
  (hPT:s₁.heap.get? PT=some (W.tabObj #[])) (hnt:W.noTabs K=true) (hcode:W.codeHdIn K cL PT=true) (hbm:s₁.heap.BuiltinsAt mg PT)
  (F:∀ base:Heap,K.In base->base.Ns mainGlobals mg->base.BuiltinsAt mg PT->zgI P w K mg base CX k fa fd [x] sp) (hbind:∀(s:Shared)(u:Value),BindsTo s fd ⟨[u],[]⟩ [(x,u)])
  (hsp:∀ H:Hp,H PT=some (.tbl #[])->SqL K H a (ns.map V.int)->sp [.ref a] H (λv _=>v=.bl true) λ_ _ _=>False)
  (hCX:∀ H e s',CX [] H s₁ (λ_ _ _=>False) e s'->False) :
  codeAny (model P w) callerA (.call (.ref fa) ⟨[.ref a],[]⟩) (λr s'=>r=.ok (.ret (.bool true))/\OldK s₁.heap s'.heap/\s'.os=s₁.os/\AllBare s'.gens) s₁:=by
 have rv:=zes hi;have lenV:=hi.length;have aP:a≠PT:=λz=>by rw[z,hPT] at ha;have:=congrArg Obj.cls (waB ha);cases this
 have kP:K.lookup PT=none:=by
  cases q:K.lookup PT with
  |none=>rfl
  |some o =>
   have e:=KX _ _ q;rw[hPT] at e;have h2:=List.all_eq_true.mp hnt (PT,o) (W.mem_of_lookupK q);cases e;exact absurd (show false=true from h2) Bool.false_ne_true
 have core:∀ H:Hp,(∀ b,b≠PT->H b=none\/∃ o xs,H b=some (.frz o (.lst xs)))->H PT=some (.tbl #[])->SqL K H a (ns.map V.int)->HOk P w H s₁.heap->(∀ b,H b≠none->b=a\/b=PT)->(H a≠none->K.lookup a=none) ->
   codeAny (model P w) callerA (.call (.ref fa) ⟨[.ref a],[]⟩) (λr s'=>r=.ok (.ret (.bool true))/\OldK s₁.heap s'.heap/\s'.os=s₁.os/\AllBare s'.gens) s₁:=by
  intro H hO hP hS hok hA hK;have base_of:∀{b:Addr}{o:Obj},s₁.heap.get? b=some o->H b=none->(zoB s₁.heap H).get? b=some o:=λe n=>zpj e n;have ot:∀{b:Addr}{o:Obj},s₁.heap.get? b=some o->o.cls≠.type "list"->o.cls≠.none->H b=none:=λ{b o} e d1 d2=>by
   cases q:H b with
   |none=>rfl
   |some u =>
    rcases hA b (by rw[q];simp) with z|z
    ·rw[z,ha] at e;cases e;exact absurd rfl d1
    ·rw[z,hPT] at e;cases e;exact absurd rfl d2
  have noA:∀{b:Addr}{o:Obj}{es:Array DictEntry}{ep:Nat},s₁.heap.get? b=some o->o.data=.dict es ep->H b=none:=λ{b o es ep} e d=>by
   cases q:H b with
   |none=>rfl
   |some u =>
    rcases hA b (by rw[q];simp) with z|z
    ·rw[z,ha] at e;cases e;cases d
    ·rw[z,hPT] at e;cases e;cases d
  have nsK:∀{b:Addr}{m:Str->Option Value},s₁.heap.Ns b m->(zoB s₁.heap H).Ns b m:=λ{b m} ⟨o,es,ep,e,d,r⟩=>⟨o,es,ep,base_of e (noA e d),d,r⟩
  have hKb:K.In (zoB s₁.heap H):=λb o e=>base_of (KX b o e) (by
   cases q:H b with
   |none=>rfl
   |some u =>
    rcases hA b (by rw[q];simp) with z|z
    ·subst z;rw[hK (by rw[q];simp)] at e;cases e
    ·rw[z,kP] at e;cases e)
  have hM:Mod K mg (zoB s₁.heap H):=⟨hKb,nsK hns,⟨mb,nsK hb,hbb⟩,let ⟨mc,h1,h2⟩:=hlim;⟨mc,nsK h1,h2⟩⟩
  have hbm':(zoB s₁.heap H).BuiltinsAt mg PT:=by obtain ⟨bm,o,b1,b2,b3,b4,b5,b6,b7⟩:=hbm;exact ⟨bm,o,b1,b2,b3,b4,base_of b5 (ot b5 (by rw[b6];decide) (by rw[b6];intro z;cases z)),b6,b7⟩
  have e0:zph P w K mg (zoB s₁.heap H) callerA [] s₁ H:=⟨rfl,hM,λb o e=>zrT e,Nat.le_of_eq (zmR _ _),trivial,λb hb=>absurd (show b∈([]:List Addr) from hb) xws,hok,.of_eq hg⟩
  refine codeAny_mono ((F _ hKb (nsK hns) hbm').run callerA [] s₁ H ⟨[.ref a],[]⟩ [.ref a] [.ref a] _ _ hr e0 (hbind s₁ (.ref a)) (.cons rfl .nil) (hsp H hP hS)) λr s' h=>?_;cases r with
  |error e=>exact (hCX H e s' h).elim
  |ok fl =>
   cases fl with
   |next=>exact waP h
   |brk=>exact waP h
   |cont=>exact waP h
   |ret u =>
    obtain ⟨v,H',os,bare,un,hok',r',q⟩:=h;have q':v=.bl true:=q;subst q';obtain rfl:u=Value.bool true:=r';have kept:∀ b o,b≠PT->s₁.heap.get? b=some o->s'.heap.get? b=some o:=λb o hb e=>by
     cases q:H b with
     |none=>exact un.keep b o e q (by intro z;exact absurd (show b∈([]:List Addr) from z) xws) xws
     |some u =>
      rcases hO b hb with z|⟨ob,xs,z⟩
      ·rw[q] at z;cases z
      ·have z2:=un.frzs b ob _ z;obtain ⟨e1,_⟩:=hok b _ z;obtain ⟨e2,_⟩:=hok' b _ z2;rw[e] at e1;cases e1;exact e2
    obtain ⟨more,hm⟩:=un.tbls PT #[] hP;have hPT':s'.heap.get? PT=some (W.tabObj (#[]++more)):=hok' PT _ hm;have tab:=(W.codeHd_of_K KX hcode).tab hPT;refine ⟨rfl,⟨λb o e=>?_,λb o e=>?_⟩,os,bare⟩
    ·by_cases hb:b=PT
     ·subst hb;rw[hPT] at e;cases e;exact .inr (.inl ⟨tab.isCodeTable,rfl,#[],more,rfl,hPT'⟩)
     ·exact .inl (kept b o hb e)
    ·by_cases hb:b=PT
     ·subst hb;exact ⟨_,hPT'⟩
     ·exact ⟨o,kept b o hb e⟩
 cases hk:K.lookup a with
 |some o =>
  have e:=KX a o hk;rw[ha] at e;cases e;refine core (λb=>if b=PT then some (.tbl #[]) else none) (λb hb=>.inl (if_neg hb)) (if_pos rfl) (.inr ⟨_,vs.toArray,_,hk,rfl,rfl,rfl,by rw[List.size_toArray,lenV];exact hl,by simpa using rv⟩) (λb u z=>?_) (λb z=>?_) λz=>absurd (if_neg aP) z
  ·by_cases hb:b=PT
   ·have z':=(if_pos hb).symm.trans z;cases z';subst hb;exact hPT
   ·have z':=(if_neg hb).symm.trans z;cases z'
  ·by_cases hb:b=PT
   ·exact .inr hb
   ·exact absurd (if_neg hb) z
 |none =>
  refine core (λb=>if b=PT then some (.tbl #[]) else if b=a then some (.frz { cls:=.type "list",data:=.seq vs.toArray } (.lst (ns.map V.int))) else none) (λb hb=>?_) (if_pos rfl) (.inl (.inr ⟨{ cls:=.type "list",data:=.seq vs.toArray },(if_neg aP).trans (if_pos rfl)⟩)) (λb u z=>?_) (λb z=>?_) λ_=>hk
  ·by_cases hba:b=a
   ·exact .inr ⟨_,_,(if_neg hb).trans (if_pos hba)⟩
   ·exact .inl ((if_neg hb).trans (if_neg hba))
  ·by_cases hb:b=PT
   ·have z':=(if_pos hb).symm.trans z;cases z';subst hb;exact hPT
   ·have z:=(if_neg hb).symm.trans z;by_cases hba:b=a
    ·have z':=(if_pos hba).symm.trans z;cases z';subst hba;exact ⟨ha,by rw[List.length_map];exact hl,vs,_,rv,ha⟩
    ·have z':=(if_neg hba).symm.trans z;cases z'
  ·by_cases hb:b=PT
   ·exact .inr hb
   ·by_cases hba:b=a
    ·exact .inl hba
    ·exact absurd ((if_neg hb).trans (if_neg hba)) z
theorem zpd{l:W.OpenLaw}{n k:Nat}{q:Program}{loose:List Str}{XP:(Str->Option Value)->Heap->Prop}{YP:World->Heap->Prop}{d:DefRec}{K:Params->W.Frag}{CX:World->CXT}{sp:World->Sp}{x:Str}{PT:Addr}
  (hn:l.most=some n) (hn2:n<=sizeLine) (hdf:d.params.defaults=[]) (hr:zd5 k callerA)
  (hY:∀(w:World)(h:Heap),YP w h->(K w.params).In h) (hYT:∀(w:World)(h:Heap),YP w h->h.get? PT=some (W.tabObj #[])) (hnt:∀ w:World,W.noTabs (K w.params)=true)
  (F:∀(w:World)(mg:Str->Option Value)(fa:Addr)(h:Heap),(K w.params).In h->h.Ns mainGlobals mg->mg d.name=some (.ref fa) ->
   ∃(fd:FuncData)(cL:Addr),(∀(s:Shared)(u:Value),BindsTo s fd ⟨[u],[]⟩ [(x,u)])/\W.codeHdIn (K w.params) cL PT=true /\
    ∀ base:Heap,(K w.params).In base->base.Ns mainGlobals mg->base.BuiltinsAt mg PT->zgI l.prog w (K w.params) mg base (CX w) k fa fd [x] (sp w))
  (hsp:∀(w:World)(H:Hp)(a:Addr)(ns:List Int),ns.length<=n->H PT=some (.tbl #[])->SqL (K w.params) H a (ns.map V.int)->sp w [.ref a] H (λv _=>v=.bl true) λ_ _ _=>False)
  (hCX:∀(w:World)(H:Hp)(s:Shared)(e:Value)(s':Shared),CX w [] H s (λ_ _ _=>False) e s'->False) :
  W.WalkO q loose XP YP l.row.toRowW d [] (λf vs=>PySem.call f vs):=by
 refine Att.attach_call hn hdf λw s₀ s₁ mg mb fa o pm cd doc a vs ns G Yq ho hd hcd hmg hobj hints hlen hg=>?_;have KX:=hY w _ Yq;have hPT:=hYT w _ Yq;obtain ⟨fd,cL,hb,hcode,hF⟩:=F w mg fa _ KX G.T.g hmg;have hbm:s₁.heap.BuiltinsAt mg PT:=by
  obtain ⟨bm,ob,b1,b2,b3,b4,b5,b6⟩:=G.T.bmain;refine ⟨bm,ob,b1,b2,λz=>?_,λz=>?_,b3,b4,b5,b6⟩
  ·obtain ⟨o',es,ep,e,hd',_⟩:=G.T.g;rw[z,e] at b3;cases b3;rw[hd'] at b6;cases b6
  ·rw[z,hPT] at b3;cases b3;cases b4
 exact zof KX G.T.g G.T.b G.T.builtins G.T.nolimit hg hobj hints (waO hlen hn2) hr hPT (hnt w) hcode hbm hF hb (λH hP hS=>hsp w H a ns hlen hP hS) λH e s'=>hCX w H s₁ e s'
theorem zkp{X:Cx}{pS:List (Addr×Obj)}{Y:L2.St}{H:Hp}{s:Shared}{j:Nat}{x:Str}{o:Option V}(I:L2.Inv X pS Y H s)(hj:X.N[j]? = some x)(hv:¬ Vis X.env.scope x):L2.Inv X pS (Y.set j o) H s:=by
 refine ⟨I.ok,I.os,I.bare,I.base,?_,I.cell,I.free,I.freeC,I.pin,I.hok,by simpa using I.len⟩;obtain ⟨m,hn,hl⟩:=I.loc;refine ⟨m,hn,λi y v e1 e2 e3=>?_⟩;by_cases hi:i=j
 ·subst hi;rw[hj] at e1;cases e1;exact absurd e3 hv
 ·rw[List.getElem?_set_ne (Ne.symm hi)] at e2;exact hl i y v e1 e2 e3
def spT(K:W.Frag)(PT:Addr)(ok:List Int->Prop):Sp:=λvs H Q _=>∃ a ns,vs=[.ref a]/\SqL K H a (ns.map V.int)/\H PT=some (.tbl #[])/\ok ns/\∀ H',Q (.bl true) H'
def zsG(m:Nat)(q:Str)(fb:DS)(ns:List Int):Prop:=∃ Z',fb (some (.val (.scr ns))::(List.replicate m none++[some (.tab q)]))=.ok (.rt (.bl true),Z')
theorem zp7{P:Program}{w:World}{X:Cx}{C:Cn}(h:∀ n,¬ C.ex n):zcC (CXe P w) X (EXc C):=λ_ _ _ _ _ _ _ hx=>by rcases hx with ⟨_,_,_,_,_,_,_,_,_,_,_,_,_,_,_,n,_,z,_⟩|⟨_,_,_,_,_,_,_,_,n,_,z,_⟩ <;> exact (h n z).elim
section
variable{X:Cx}{C:Cn}{a b:Expr}{fa fb:De}{pos:Pos}
def zbM:Dt->Dt->R Dt
 |.tup x,.tup y=>if x.length+y.length<=16777216 then .ok (.tup (x++y)) else .no
 |_,_=>.no
def ztA(K:W.Frag):R2:=λx y H Q=>∃ a b xs ys,x=.ref a/\y=.ref b/\SqT K H a xs/\SqT K H b ys/\xs.length+ys.length<=sizeLine /\
 (xs=[]->Q (.ref b) H)/\(xs≠[]->ys=[]->Q (.ref a) H)/\(xs≠[]->ys≠[]->∀ p,H p=none->Q (.ref p) (upd H p (.tup (xs++ys))))
theorem zps{prog:Program}{w:World}{A:Around}{E:Value->Shared->Prop}{s:Shared}{t b:Addr}{ws:List Value}{Q:Value->Shared->Prop}(ht:IsTup s.heap t ([]:List Value).toArray)(hb:IsTup s.heap b ws.toArray)(h:Q (.ref b) s) :
  wpAny (model prog w) A (binaryOp .Add (.ref t) (.ref b)) Q E s:=by
 obtain ⟨⟨c1,d1,dt1,sl1⟩,e1,q1,n1,r1⟩:=id ht;obtain ⟨⟨c2,d2,dt2,sl2⟩,e2,q2,n2,r2⟩:=id hb;simp only at q1 r1 q2 r2;subst q1 r1 q2 r2;exact concat_meets ⟨_,e1,rfl⟩ ⟨_,e2,rfl⟩ noFill_tuple_add seq_tuple_add F.slot_tuple_add F.entry_tuple_add (F.args_tuple_add_2 _ _) (tuple_addW0 t b ([]:List Value).toArray ws.toArray n1 n2 d1 d2 sl1 sl2 rfl) ⟨e1,e2,h⟩
theorem zsl:OpR X (binaryOp .Add) (ztA X.K):=by
 intro pS s Y H x y v u Q I rx ry h;obtain ⟨a,b,xs,ys,rfl,rfl,ha,hb,hz,q0,q1,q2⟩:=h;by_cases hx:xs=[]
 ·subst hx;cases rx;cases ry;obtain ⟨its,r1,p1,_⟩:=I.tuple ha;obtain ⟨its2,r2,p2,_⟩:=I.tuple hb;obtain rfl:its=[]:=by cases r1;rfl
  exact zps p1 p2 ⟨.ref b,H,I,rfl,q0 rfl⟩
 ·exact zrI pS s Y H _ _ v u Q I rx ry ⟨a,b,xs,ys,rfl,rfl,ha,hb,hx,hz,q1 hx,q2 hx⟩
theorem zpE:Op2 X.K (ztA X.K) zbM:=λG H x y dx dy z Q sm hx hy e k=>by
 unfold zbM at e;split at e
 ·rename_i l l';split at e
  ·rename_i hl;cases e;obtain ⟨a,vs,rfl,h1,h2⟩:=zb5 hx;obtain ⟨b,us,rfl,h3,h4⟩:=zb5 hy;have nil_of:∀{m:List Dt}{ws:List V},za1 X.K G m ws->ws=[]->m=[]:=λ{m ws} r z=>by have:=r.length;rw[z] at this;exact List.length_eq_zero_iff.mp this
   refine ⟨a,b,vs,us,rfl,rfl,za8 sm h1,za8 sm h3,by rw[<- h2.length,<- h4.length,zeH];exact hl,λz=>?_,λ_ z=>?_,λ_ _ p hp=>?_⟩
   ·rw[nil_of h2 z] at k;exact k _ G H (.refl sm) hy
   ·rw[nil_of h4 z,List.append_nil] at k;exact k _ G H (.refl sm) hx
   ·have gr:ze9 G H (upd G p (.tup (vs++us))) (upd H p (.tup (vs++us))):=.new sm hp;exact k _ _ _ gr (by unfold Rep;exact ⟨p,_,rfl,zhJ.of zan,(h2.same gr.g).append (h4.same gr.g)⟩)
  ·cases e
 ·cases e
theorem znG:zgt zbM:=λx y n h=>by
 unfold zbM at h;split at h
 ·split at h <;> cases h
 ·cases h
theorem zen(ha:JE X C a fa)(hb:JE X C b fb):JE X C (.BinOp a .Add b pos) (dOp zbM fa fb):=zkO zsl zpE znG ha hb
theorem zkJ{p:Pos}:JE X C (.Dict [] [] p) (dC (.dct [])):=λpS s Y H Q I ⟨G,w,Z,r,q⟩=>by
 have big:sysModules<s.heap.objs.size:=Nat.lt_trans xwd (I.mod.glob.keeps I.bk).lt;have hf:H s.heap.objs.size=none:=I.hok.fresh (wal _);have ok:zc2 X.prog X.w (upd H s.heap.objs.size (.dK [])) (s.heap.push { cls:=.type "dict",data:=.dict #[] }) s.heap.objs.size (.dK []):=⟨Nat.zero_le _,beq_eq_false_iff_ne.mpr (Ne.symm (waN big)),[],.nil,Heap.DictOf.new s.heap⟩
 refine wpAny_Dict_empty ⟨.ref s.heap.objs.size,_,I.laid (t':=s.toks) (λ_ _ z=>waa _ z) (wal _) ok,rfl,?_⟩;have gr:ze9 G H (upd G s.heap.objs.size (.dK [])) (upd H s.heap.objs.size (.dK [])):=.new r.gh hf;exact q _ _ _ w gr.step (r.grow gr) (by unfold Rep;exact ⟨_,rfl,zan⟩)
end
def dAC(ds:List Dt):DA:=λZ=>.ok (ds,Z)
mutual
def zka:Nat->Expr->Option Dt
 |0,_=>none
 |k+1,e=>match e with
  |.Constant (.int i) _ _=>some (.int i)
  |.Constant (.bool b) _ _=>some (.bl b)
  |.Constant .none _ _=>some .non
  |.Constant (.str x) _ _=>some (.str x)
  |.UnaryOp .USub (.Constant (.int i) _ _) _=>some (.int (-i))
  |.Tuple es _ _=>(zeQ k es).bind λds=>if fits ds=true then some (.tup ds) else none
  |.List es _=>(zeQ k es).bind λds=>if fits ds=true then some (.lst ds) else none
  |.Dict [] [] _=>some (.dct [])
  |_=>none
def zeQ:Nat->List Expr->Option (List Dt)
 |_,[]=>some []
 |0,_::_=>none
 |k+1,e::es=>(zka k e).bind λd=>(zeQ k es).bind λds=>some (d::ds)
end
section
variable{X:Cx}{C:Cn}
theorem JE.eq{e:Expr}{f g:De}(h:JE X C e f)(q:f=g):JE X C e g:=q ▸ h
theorem JA.eq{e:List Expr}{f g:DA}(h:JA X C e f)(q:f=g):JA X C e g:=q ▸ h
mutual
theorem znk:∀(k:Nat){e:Expr}{d:Dt},zka k e=some d->JE X C e (dC d)/\∀ es,starEach (e::es) X.env=(false,eval e X.env)::starEach es X.env
 |0,e,d,h=>by simp[zka] at h
 |k+1,e,d,h=>by
  unfold zka at h;split at h
  ·cases h;exact ⟨zai,λ_=>rfl⟩
  ·cases h;exact ⟨zcP,λ_=>rfl⟩
  ·cases h;exact ⟨zfZ,λ_=>rfl⟩
  ·cases h;exact ⟨znS,λ_=>rfl⟩
  ·cases h;exact ⟨(znV zai).eq rfl,λ_=>rfl⟩
  ·rename_i es x1 pos;obtain ⟨ds,hds,h⟩:=Option.bind_eq_some_iff.mp h;split at h
   ·rename_i hf;cases h;refine ⟨(zaU (zk2 k hds)).eq ?_,λ_=>rfl⟩;funext Z;show (if fits ds=true then _ else _)=_;rw[if_pos hf];rfl
   ·cases h
  ·rename_i es pos;obtain ⟨ds,hds,h⟩:=Option.bind_eq_some_iff.mp h;split at h
   ·rename_i hf;cases h;refine ⟨(zaz (zbq (zk2 k hds))).eq ?_,λ_=>rfl⟩;funext Z;show (R.bind (if fits ds=true then _ else _) _)=_;rw[if_pos hf];rfl
   ·cases h
  ·cases h;exact ⟨zkJ,λ_=>rfl⟩
  ·cases h
theorem zk2:∀(k:Nat){es:List Expr}{ds:List Dt},zeQ k es=some ds->JA X C es (dAC ds)
 |k,[],ds,h=>by unfold zeQ at h;cases h;exact zaq
 |0,_::_,ds,h=>by simp[zeQ] at h
 |k+1,e::es,ds,h=>by unfold zeQ at h;obtain ⟨d,h1,h⟩:=Option.bind_eq_some_iff.mp h;obtain ⟨ds',h2,h⟩:=Option.bind_eq_some_iff.mp h;cases h;obtain ⟨j1,j2⟩:=znk k h1;exact (zac j1 (zk2 k h2) (j2 es)).eq rfl
end
theorem jd(k:Nat){e:Expr}{d:Dt}(h:zka k e=some d):JE X C e (dC d):=(znk k h).1
end
end PV
end
section
namespace PV
open PySem PySem.Spec L2
open AutoSeq1 (wpAny_loadPart')
section
variable{X:Cx}{C:Cn}{a b o e:Expr}{es:List Expr}{fa fb:De}{pos apos cpos:Pos}{name:Str}{id:String}{to:TE}{t:TA}{r:V->List V->Hp->VK->Prop}
end
section
variable{X:Cx}{C:Cn}{e1 e2:Expr}{fk fv:De}{pos ps apos:Pos}{x:Str}
theorem zk8{y1 y2:V}{us:List Value}(h:zba [y1,y2] us):∃ u1 u2,us=[u1,u2]/\zca y1 u1/\zca y2 u2:=by
 cases h with
 |cons h1 t=>cases t with
  |cons h2 t2=>cases t2;exact ⟨_,_,rfl,h1,h2⟩
end
structure Ep(h:Heap)(e it l:Addr)(i:Nat):Prop where
 e:∃ old,IsEnum h e it i old
 a:h.IsListIter it l i
theorem Ep.keep{h h':Heap}{e it l:Addr}{i:Nat}(p:Ep h e it l i)(k:∀ b∈[e,it],∀ o,h.get? b=some o->h'.get? b=some o):Ep h' e it l i :=
 ⟨let ⟨old,q⟩:=p.e;⟨old,k e xws _ q⟩,p.a.at λo q=>k it xws o q⟩
theorem zlB{X:Cx}{pS:List (Addr×Obj)}{Y:L2.St}{H:Hp}{s:Shared}{a b:Addr}{xs:List V}(I:L2.Inv X pS Y H s)(hf:ziR X pS H b)(hs:SqL X.K H a xs):b≠a:=by
 rintro rfl;rcases hs with (h|⟨o,h⟩)|⟨o,its,n,h,_⟩
 ·rw[hf.1] at h;cases h
 ·rw[hf.1] at h;cases h
 ·have hb:=I.mod.kin b o h;rcases hf.2.2.2.1 with z|z
  ·exact I.ok.noex b o hb z
  ·exact absurd (was (wai hb) (waO I.ok.bsz z)) (waM _)
section
variable{X:Cx}{C:Cn}{elts:List Expr}{x1:Nat}{pt:Pos}{a:Expr}{fa:De}{p pos:Pos}
end
end PV
end
section
namespace PV
open PySem PySem.Spec L2 PyProof.Rows
section
variable{X:Cx}{C:Cn}{a b:Expr}{fa fb:De}{pos:Pos}
end
section
variable{prog:Program}{w:World}{A:Around}{E:Value->Shared->Prop}{s:Shared}
theorem zeR{t sl:Addr}{items:Array Value}{vl vu:Value}{lo hi:Option Int}{Q:Value->Shared->Prop}(ht:IsTup s.heap t items)(hs:s.heap.IsSliceOf sl vl vu .none)(pl:IsPart vl lo)(pu:IsPart vu hi)
  (hw:HT.sIx items.size 0 lo=0/\HT.sIx items.size items.size hi=items.size) (h:Q (.ref t) s):wpAny (model prog w) A (getItem (.ref t) (.ref sl)) Q E s:=by
 obtain ⟨os,hos,hcs,hds⟩:=id hs;have hTs:s.TypeIs (.ref sl) "slice":=⟨os,hos,hcs⟩
 unfold getItem
 try with_reducible refine wpAny_holding ?_
 first|refine wab (wad ?_)|skip
 refine wab (wpAny_sequenceKey ht.typeIs xwd ?_);refine wab (wpAny_callSpecial?_slot (name:=Str.ofString "__getitem__") ht.typeIs PyProof.Rows.slot_tuple_getitem
  (wpAny_call_entry PyProof.Rows.slot_tuple_getitem ht.typeIs entry_tuple_getitem ?_ (args_tuple_getitem _ _)))
 show wpAny _ _ (Builtin.Tuple.tupleItemsOf (.ref t) >>= _) _ _ s;refine wab (tupleItemsOf_ ht ?_);refine wab (wpAny_typeOf hTs ?_);rw[if_pos xwd];refine wab (HT.sliceApplied_gen hs pl pu ?_);have hyes:(((HT.sIx items.size 0 lo:Nat):Int) == 0 && (1:Int) == 1 && (HT.sIx items.size items.size hi-HT.sIx items.size 0 lo) == items.size)=true:=by rw[hw.1,hw.2];simp
 show wpAny _ _ (if (((HT.sIx items.size 0 lo:Nat):Int) == 0 && (1:Int) == 1 && (HT.sIx items.size items.size hi-HT.sIx items.size 0 lo) == items.size)=true then _ else _) _ _ s;rw[if_pos hyes];refine wab ?_;unfold Builtin.Tuple.tupleIsExact;refine wab (wpAny_typeOf ht.typeIs (wad ?_));rw[if_pos xwd];refine wab (wpAny_rule ?_);exact wad ⟨_,rfl,wad h⟩
theorem zhD(n:Nat):Builtin.Slice.sliceAdjust none none (-1) (n:Int)=((n:Int)-1,-1)/\Builtin.Slice.slicePlaces ((n:Int)-1) (-1) (-1)=n:=by
 constructor
 ·unfold Builtin.Slice.sliceAdjust;rfl
 ·unfold Builtin.Slice.slicePlaces;have h1:¬ ((-1:Int) > 0):=by lia
  simp only[h1,if_false];split
  ·have:((n:Int)-1 - -1-1) / (- -1)=(n:Int)-1:=by rw[show (- -1:Int)=1 from rfl,Int.ediv_one];lia
   rw[this];lia
  ·lia
theorem zgj{sl:Addr}{t:Tok}{n:Nat}{Q:Int×Int×Nat->Shared->Prop}(hs:s.heap.IsSliceOf sl .none .none (.int (-1) t))(h:Q ((n:Int)-1,-1,n) s):wpAny (model prog w) A (Builtin.Slice.sliceApplied (.ref sl) (pure (n:Int))) Q E s:=by obtain ⟨os,hos,hcs,hds⟩:=id hs;unfold Builtin.Slice.sliceApplied Builtin.Slice.sliceFields;refine wab (wab (wpAny_field hos hds (x:=.none) rfl (wab (wpAny_field hos hds (x:=.none) rfl (wab (wpAny_field hos hds (x:=.int (-1) t) rfl (wad ?_)))))));refine wab (slicePart_int ?_);show wpAny _ _ (if ((-1:Int) == 0)=true then _ else _) _ _ s;rw[if_neg xwd];refine wab (slicePart_none (wab (slicePart_none (wab (wad ?_)))));show wpAny _ _ (match Builtin.Slice.sliceAdjust none none (-1) (n:Int) with|(lo,hi)=>pure (lo,(-1:Int),Builtin.Slice.slicePlaces lo hi (-1))) _ _ s;rw[(zhD n).1];show wpAny _ _ (pure ((n:Int)-1,(-1:Int),Builtin.Slice.slicePlaces ((n:Int)-1) (-1) (-1))) _ _ s;rw[(zhD n).2];exact wad h
theorem zqw{α β:Type}{f:α->Option β}{g:α->β}:∀{l:List α},(∀ m∈l,f m=some (g m))->l.filterMap f=l.map g
 |[],_=>rfl
 |a::r,h=>by rw[List.filterMap_cons,h a xws,List.map_cons,zqw (l:=r) λm hm=>h m (List.mem_cons_of_mem _ hm)]
theorem zpF(xs:Array Value):((List.range xs.size).filterMap λ(m:Nat)=>xs[(((xs.size:Int)-1)+(m:Int) * (-1)).toNat]?).toArray=xs.toList.reverse.toArray:=by
 congr 1;apply List.ext_getElem?;intro i;have e:∀ m∈List.range xs.size,(λ(m:Nat)=>xs[(((xs.size:Int)-1)+(m:Int) * (-1)).toNat]?) m=some (xs.toList.reverse.getD m .none):=by
  intro m hm;have hm':=List.mem_range.mp hm;have e1:(((xs.size:Int)-1)+(m:Int) * (-1)).toNat=xs.size-1-m:=by lia
  show xs[(((xs.size:Int)-1)+(m:Int) * (-1)).toNat]? = _;rw[e1,List.getD_eq_getElem?_getD,List.getElem?_reverse (by simpa using hm'),Array.length_toList,Array.getElem?_toList];rw[Array.getElem?_eq_getElem xwl];rfl
 rw[show ((List.range xs.size).filterMap λ(m:Nat)=>xs[(((xs.size:Int)-1)+(m:Int) * (-1)).toNat]?)=(List.range xs.size).map (λm=>xs.toList.reverse.getD m .none) from zqw e];by_cases hi:i<xs.size
 ·rw[List.getElem?_map,List.getElem?_range hi];have hl:i<xs.toList.reverse.length:=by simpa using hi
  rw[List.getElem?_eq_getElem hl,Option.map_some,List.getD_eq_getElem?_getD,List.getElem?_eq_getElem hl];rfl
 ·rw[List.getElem?_eq_none (by simp;lia),List.getElem?_eq_none (by simp;lia)]
theorem zfG{t sl:Addr}{items:Array Value}{tk:Tok}{Q:Value->Shared->Prop}(ht:IsTup s.heap t items)(hs:s.heap.IsSliceOf sl .none .none (.int (-1) tk))
  (h:Q (.ref s.heap.objs.size) { s with heap:=s.heap.push { cls:=.type "tuple",data:=.seq items.toList.reverse.toArray } }) (hsz:items.size<=sizeLine):wpAny (model prog w) A (getItem (.ref t) (.ref sl)) Q E s:=by
 have htake:sizeOk (.seq items.toList.reverse.toArray):=by show items.toList.reverse.toArray.size<=sizeLine;rw[List.size_toArray,List.length_reverse,Array.length_toList];exact hsz
 obtain ⟨os,hos,hcs,hds⟩:=id hs;have hTs:s.TypeIs (.ref sl) "slice":=⟨os,hos,hcs⟩
 unfold getItem
 try with_reducible refine wpAny_holding ?_
 first|refine wab (wad ?_)|skip
 refine wab (wpAny_sequenceKey ht.typeIs xwd ?_);refine wab (wpAny_callSpecial?_slot (name:=Str.ofString "__getitem__") ht.typeIs PyProof.Rows.slot_tuple_getitem
  (wpAny_call_entry PyProof.Rows.slot_tuple_getitem ht.typeIs entry_tuple_getitem ?_ (args_tuple_getitem _ _)))
 show wpAny _ _ (Builtin.Tuple.tupleItemsOf (.ref t) >>= _) _ _ s;refine wab (tupleItemsOf_ ht ?_);refine wab (wpAny_typeOf hTs ?_);rw[if_pos xwd];refine wab (zgj hs ?_);have hno:¬ ((((items.size:Int)-1) == 0 && (-1:Int) == 1 && items.size == items.size)=true):=by intro q;rw[Bool.and_eq_true,Bool.and_eq_true] at q;exact absurd q.1.2 xwd
 show wpAny _ _ (if (((items.size:Int)-1) == 0 && (-1:Int) == 1 && items.size == items.size)=true then _ else _) _ _ s;rw[if_neg hno,zpF]
 first
  |exact wab (m:=Builtin.Tuple.tupleExact _) (wpAny_newObj_type (wad ⟨_,rfl,wad h⟩) htake)
  |exact wab (m:=Builtin.Tuple.tupleExact _) (wpAny_newObj_type (wab (wad (wad ⟨_,rfl,wad h⟩))) htake)
  |exact wab (wab (m:=Builtin.Tuple.tupleExact _) (wpAny_newObj_type (wad (wad ⟨_,rfl,wad h⟩)) htake))
  |exact wab (wab (m:=Builtin.Tuple.tupleExact _) (wpAny_newObj_type (wad ⟨_,rfl,wad h⟩) htake))
end
section
variable{X:Cx}{C:Cn}{a b e:Expr}{fa fb:De}{pos:Pos}
def rSlW(K:W.Frag):V->Option Int->Option Int->Hp->VK->Prop:=λx lo hi H Q=>∃ a xs,x=.ref a/\SqT K H a xs /\
 (HT.sIx xs.length 0 lo=0/\HT.sIx xs.length xs.length hi=xs.length)/\Q (.ref a) H
theorem zoX:SlR X (rSlW X.K):=by
 intro pS s Y H x v vl vu lo hi sl Q I rx hs pl pu h;obtain ⟨a,xs,rfl,hx,hw,q⟩:=h;cases rx;obtain ⟨its,r,ht,hz⟩:=I.tuple hx;have hlen:its.toArray.size=xs.length:=by rw[List.size_toArray];exact r.length.symm
 refine ⟨"tuple",_,PyProof.Rows.slot_tuple_getitem.lookup,ht.typeIs,?_⟩;exact zeR ht hs pl pu (by rw[hlen];exact hw) ⟨.ref a,H,I,rfl,q⟩
def zcg(fa:De)(fl fh:DO):De:=λZ=>(fa Z).bind λa=>(fl a.2).bind λl=>(fh l.2).bind λh=>match a.1 with
 |.tup ds=>.ok (.tup (ziX ds l.1 h.1),h.2)
 |_=>.no
theorem zdO{lo hi:Option Expr}{fl fh:DO}{p2:Pos}(ha:JE X C a fa)(hl:JO X C lo fl)(hh:JO X C hi fh):JE X C (.Subscript a (.Slice lo hi none p2) pos) (zcg fa fl fh) :=
 PE.weak (zpX (ztc.or zoX) ha hl hh) λY H Q ⟨G,w,Z,r,p⟩=>by
  refine zfa (κ:=λG H w=>kE X.K C Y Q G H w) zc3 r p λd Z1 v G1 H1 w1 r1 s1 q1 p1=>?_;refine seqO (κ:=λG H w=>kE X.K C Y Q G H w) zc3 r1 p1 λl Z2 G2 H2 w2 r2 s2 p2=>?_;refine seqO (κ:=λG H w=>kE X.K C Y Q G H w) zc3 r2 p2 λh Z3 G3 H3 w3 r3 s3 p3=>?_;cases d with
  |tup ds =>
   have q3:=q1.same (s2.g.trans s3.g);obtain ⟨ad,vs,rfl,h1,h2⟩:=ze4 q3;dsimp only at p3;by_cases hw:HT.sIx ds.length 0 l=0/\HT.sIx ds.length ds.length h=ds.length
   ·refine .inr ⟨ad,vs,rfl,za8 r3.gh h1.sq,by rw[<- h2.length];exact hw,?_⟩;have e:ziX ds l h=ds:=by unfold ziX;rw[hw.1,hw.2,List.drop_zero,Nat.sub_zero,List.take_length]
    rw[e] at p3;exact p3 _ G3 H3 w3 (.refl _ _ _) r3 q3
   ·have fin:∀ p,H3 p=none->Q (.ref p) (upd H3 p (.tup (zpn vs l h))):=λp hp=>by have gr:ze9 G3 H3 (upd G3 p (.tup (zpn vs l h))) (upd H3 p (.tup (zpn vs l h))):=.new r3.gh hp;exact p3 _ _ _ w3 gr.step (r3.grow gr) (by unfold Rep;exact ⟨p,_,rfl,zhJ.of zan,(zpf h2 l h).same gr.g⟩)
    exact .inl ⟨ad,vs,rfl,za8 r3.gh h1.sq,by rw[<- h2.length];exact hw,fin⟩
  |_=>exact p3.elim
def znv(fa:De):De:=λZ=>(fa Z).bind λa=>match a.1 with
 |.tup ds=>.ok (.tup ds.reverse,a.2)
 |_=>.no
theorem znz{k1:Nat}{p1 p2 p3:Pos}(ha:JE X C a fa):JE X C (.Subscript a (.Slice none none (some (.UnaryOp .USub (.Constant (.int 1) k1 p1) p2)) p3) pos) (znv fa):=by
 intro pS s Y H Q I ⟨G,w,Z,r,p⟩;refine PyProof.Rows.Subscript_ (thn (ha pS s Y H (λx H1=>∃ ad vs,x=.ref ad/\SqT X.K H1 ad vs/\∀ p,H1 p=none->Q (.ref p) (upd H1 p (.tup vs.reverse))) I ?_) λv s1 ⟨x,H1,I1,r1,ad,vs,ex,hx,q1⟩=>?_)
 ·refine zfa (κ:=λG H w=>kE X.K C Y Q G H w) zc3 r p λd Z1 v G1 H1 w1 r1 s1 q1 p1=>?_;cases d with
  |tup ds =>
   obtain ⟨ad,vs,rfl,h1,h2⟩:=ze4 q1;refine ⟨ad,vs,rfl,za8 r1.gh h1.sq,λp hp=>?_⟩;have gr:ze9 G1 H1 (upd G1 p (.tup vs.reverse)) (upd H1 p (.tup vs.reverse)):=.new r1.gh hp;exact p1 _ _ _ w1 gr.step (r1.grow gr) (by unfold Rep;exact ⟨p,_,rfl,zhJ.of zan,h2.reverse.same gr.g⟩)
  |_=>exact p1.elim
 subst ex;cases r1;refine wpAny_Slice (evalPart_none_step (evalPart_none_step (evalPart_some_step (thn (zsM (a:=.Constant (.int 1) k1 p1) (pos:=p2) zq9 zqK pS s1 Y H1 (λx H2=>x=.int (-1)/\H2=H1) I1 ⟨1,rfl,rfl,rfl⟩) λvk s2 ⟨y,H2,I2,r2,ey,eH⟩=>?_))));subst ey;subst eH;obtain ⟨t,rfl⟩:=r2;have I4:L2.Inv X pS Y H2 { s2 with heap:=s2.heap.push { cls:=.type "slice",data:=.fields #[.none,.none,.int (-1) t] } }:=I2.kept (t':=s2.toks) λb ob q=>waa _ q;obtain ⟨its4,rv4,ht4,hz4⟩:=I4.tuple hx;have hlen4:=rv4.length;show wpAny (model X.prog X.w) X.A (PyProof.Rows.subscriptTail a (.Slice none none (some (.UnaryOp .USub (.Constant (.int 1) k1 p1) p2)) p3) (.ref ad) (.ref s2.heap.objs.size)) (EP X pS Y Q) X.xe { s2 with heap:=s2.heap.push { cls:=.type "slice",data:=.fields #[.none,.none,.int (-1) t] } };refine PyProof.Rows.tail_any (ops:=[.ref ad,.ref s2.heap.objs.size]) ht4.typeIs PyProof.Rows.slot_tuple_getitem.lookup ?_ (by with_unfolding_all rfl);refine zfG ht4 (Heap.IsSliceOf.new ..) ?_ (by rw[List.size_toArray] <;> lia);refine ⟨.ref _,_,I4.laid (t':=s2.toks) (o:=.tup vs.reverse) (λb ob q=>waa _ q) (wal _) ?_,rfl,q1 _ (I4.hok.fresh (wal _))⟩;exact ⟨by rw[List.length_reverse];exact hz4,its4.reverse,rv4.reverse,0,waj (o:={ cls:=.type "tuple",data:=.seq its4.toArray.toList.reverse.toArray }) _ rfl⟩
end
section
variable{prog:Program}{w:World}{A:Around}{E:Value->Shared->Prop}{s:Shared}
end
section
variable{X:Cx}{C:Cn}{a b e:Expr}{fa fb:De}{pos:Pos}
end
def spH(PT:Addr)(sp:Sp):Sp:=λvs H Q E=>sp (vs++[.ref PT]) H Q E
def dRT(j:Nat)(fr:DAr):DAr:=λZ=>(fr Z).bind λb=>.ok (b.1++[.s j],b.2)
theorem zfH{K:W.Frag}{G:Hp}{Y:L2.St}{i:Nat}{v:V}(hi:Y[i]? = some (some v)):∀{as:List Arg}{vs:List V},zcJ K G Y as vs->zcJ K G Y (as++[.s i]) (vs++[v])
 |[],vs,h=>by cases h;exact ⟨v,[],rfl,hi,rfl⟩
 |.d x::r,vs,⟨v0,t,e,h2,h3⟩=>by subst e;exact ⟨v0,t++[v],rfl,h2,zfH hi h3⟩
 |.s k::r,vs,⟨v0,t,e,h2,h3⟩=>by subst e;exact ⟨v0,t++[v],rfl,h2,zfH hi h3⟩
section
variable{X:Cx}{C:Cn}{CX:CXT}{k k':Nat}{ks:List Bool}{Fd:FD}{x:Str}{p pos:Pos}{e:Expr}{es:List Expr}{far:DAr}{j:Nat}{PT:Addr}
theorem zmF{Y:L2.St}{H:Hp}{Q:VK}(hpp:j∈C.pp)(hσ0:C.σ₀[j]? = some (some (.ref PT)))(h:tE X.K C (zad Fd (dRT j far)) Y H Q)(hks:∀ bs,Fd bs≠.no->zbG bs=ks):zp2 (spH PT (zpb false X.K C.xv ks Fd)) [] (EXc C) (tAr X.K C far) Y H Q:=by
 obtain ⟨G,w,Z,r,p⟩:=h;unfold zad dRT at p;rw[R.bind_assoc] at p;simp only[R.bind_ok] at p;refine zns (κ:=λG H w=>kE X.K C Y Q G H w) zc3 r p λas0 Z1 vs0 G1 H1 w1 r1 s1 q0 p1=>?_;rw[List.append_nil];have hσj:Y[j]? = some (some (.ref PT)):=by rw[r1.pin j hpp];exact hσ0
 have q1:=zfH hσj q0;dsimp only at p1;generalize as0++[Arg.s j]=as at p1 q1;unfold spH;generalize vs0++[V.ref PT]=vs at q1;by_cases hu:uniq as=true
 ·simp only[hu,if_true] at p1;cases er:za0 Z1 as with
  |ok bs =>
   rw[er,R.bind_ok] at p1;have hk:zbG bs=ks:=by refine hks bs λz=>?_;rw[z] at p1;exact p1
   have hl:bs.length=vs.length:=zfo q1 er;refine ⟨G1,wIn w1 as,bs,by rw[<- hk,<- hl];simp[zbG],hk,⟨r1.gh,λb e=>r1.wg b λz=>e (by unfold wIn;rw[z];rfl),λb e=>r1.wh b λz=>e (by unfold wIn;rw[z];rfl),hl,λj b v e1 e2=>?_⟩,?_⟩
   ·have:=zhh r1 (as:=as) (k:=0) (j:=j) (λm i e=>by rw[Nat.zero_add];exact ziq hu e) q1 er e1 e2;rw[Nat.zero_add] at this;exact this
   ·cases ef:Fd bs with
    |ok z =>
     rw[ef,R.bind_ok] at p1;intro v G' H' w' s' pb q;obtain ⟨r',st⟩:=r1.back hu q1 er hk s' pb;exact p1 v G' H' _ st r' q
    |er n =>
     rw[ef] at p1;intro G' H' w' s';refine ⟨rfl,n,rfl,p1,G',λ_=>none,r1.en.trans ⟨s'.g,λb o e=>?_,λb o e z=>s'.h b o e (by unfold wIn;rw[z];rfl),λb e=>absurd rfl e,s'.k⟩⟩;rcases s'.fr b o e with q|q|q
     ·exact .inl q
     ·exact .inr (.inl q)
     ·exact .inr (.inr λz=>q (by unfold wIn;rw[z];rfl))
    |no=>rw[ef] at p1;exact p1.elim
  |er n=>exact absurd er zdv
  |no=>rw[er] at p1;exact p1.elim
 ·simp only[hu] at p1;exact p1.elim
structure zuU(P:Program)(w:World)(K:W.Frag)(mg:Str->Option Value)(base:Heap)(CX:CXT)(xv:Nat->Value)(k:Nat)(x:Str)(ks:List Bool)(PT:Addr)(F:FD):Prop where
 ex:∃(f:Addr)(fd:FuncData)(ps:List Str),zgI P w K mg base CX k f fd ps (spH PT (zpb false K xv ks F))/\mg x=some (.ref f)/\W.keepIn K (.ref f)=true/\zfw K fd ps []/\∀ bs,F bs≠.no->zbG bs=ks
theorem zt0(D:zuU X.prog X.w X.K X.mg X.base CX C.xv k x ks PT Fd)(hr:zd5 k' X.A)(hk:k<=k')(hx:zcC CX X (EXc C))(hpp:j∈C.pp)(hσ0:C.σ₀[j]? = some (some (.ref PT)))(ha:JAr X C (e::es) far)(hg:Gl X x:=by rfl)(hdb:(x == ("__debug__" : Str))=false:=by decide)(he:starEach (e::es) X.env=(false,eval e X.env)::starEach es X.env:=by rfl)
  (hpl:(backTo pos (starEach es X.env)).any (·.1)=false:=by rfl):JE X C (.Call (.Name x p) (e::es) [] pos) (zad Fd (dRT j far)):=by
 obtain ⟨f,fd,ps,h1,h2,h3,h4,h5⟩:=D.ex;exact PE.weak (zk3 h1 (hr.mono hk) hg h2 h3 h4 .nil hx ha hdb he hpl) λY H Q h=>zmF hpp hσ0 h h5
end
theorem znc{N:List Str}{vs:List V}{v:V}(h:vs.length<N.length):(L2.start N vs).set vs.length (some v)=L2.start N (vs++[v]):=by
 unfold L2.start;obtain ⟨m,hm⟩ : ∃ m,N.length-vs.length=m+1:=⟨N.length-vs.length-1,xwl⟩
 rw[hm,List.replicate_succ,List.length_append,List.length_singleton,show N.length-(vs.length+1)=m by lia,List.map_append];rw[List.set_append_right _ _ xws];simp
theorem zpk{P:Program}{w:World}{K:W.Frag}{mg:Str->Option Value}{base:Heap}{xq qual xt:Str}{st:Stmt}{N ps:List Str}{xv:Nat->Value}{m k:Nat}{ks:List Bool}{fb:DS}{f PT cL:Addr}{fd:FuncData}(Fu:Fun K xq qual st f fd)(hcL:fd.code=.ref cL)(hch:W.codeHdIn K cL PT=true)
  (S:zau N ps (zah st)) (hl:ps.length=ks.length) (hm:N.length=(ks++[true]).length+m) (hj:N[ks.length]? = some xt) (hv:¬ Vis (zah st) xt) (hbm:base.BuiltinsAt mg PT) (hKb:K.In base)
  (hbody:∀(X:Cx)(C:Cn),(∃ cdv A outer s H E,X=zko (CXe P w) P w K mg base N qual (zah st) f cdv A outer s H E)->C.pp=zaJ (ks++[true])->C.σ₀[ks.length]? = some (some (.ref PT))->C.xv=xv->C.nw=false->zd5 k X.A->zcC (CXe P w) X (EXc C)->PassesOwn (model X.prog X.w) X.A X.env X.xe->zgu X PT->JSs X C (zbY st) fb) :
  zgI P w K mg base (CXe P w) (k+1) f fd ps (spH PT (zpb false K xv (ks++[true]) (zas false (ks++[true]) m fb))):=by
 obtain ⟨oc,od,kV,doc,pm,an,cdv,ct,osl,rfl,lk,hcd⟩:=Fu.ex;obtain rfl:cdv=.ref cL:=hcL;refine zpq lk hcd S (λvs H Q E ⟨_,_,_,h,_⟩=>by simp at h;lia) λA outer s H vs0 Q E hr hsp=>?_;obtain ⟨G,w0,bs,hv',hk,pr,hF⟩:=hsp;have hlen0:vs0.length=ks.length:=by simpa using hv'
 have hNl:vs0.length<N.length:=by rw[hm,hlen0];simp;lia
 have hset:=znc (N:=N) (vs:=vs0) (v:=V.ref PT) hNl;rw[hlen0] at hset;generalize hvs:vs0++[V.ref PT]=vs at hv' pr hF hset;have hlast:vs[ks.length]? = some (.ref PT):=by rw[<- hvs,<- hlen0];simp
 generalize hks':ks++[true]=ks' at *;let X:=zko (CXe P w) P w K mg base N qual (zah st) f (.ref cL) A outer s H E;let C:Cn:=⟨G,H,w0,zaJ ks',L2.start N vs,λn=>zas false ks' m fb bs=.er n,xv,false⟩
 have hE:∀ u a H',EXc C u a H'->E u a H':=λu a H' ⟨ea,n,eu,en,G',w',s'⟩=>by subst ea;subst eu;have en':zas false ks' m fb bs=.er n:=en;rw[en'] at hF;exact hF G' H' w' s'
 have hσ:(L2.start N vs)[ks.length]? = some (some (.ref PT)):=by unfold L2.start;rw[List.getElem?_append_left (by simpa using (List.getElem?_eq_some_iff.mp hlast).1),List.getElem?_map,hlast];rfl
 have hb:=hbody X C ⟨.ref cL,A,outer,s,H,E,rfl⟩ rfl hσ rfl rfl hr (za4 N qual (zah st) f (.ref cL) A outer s H E (EXc C) S.kind hE) PassesOwn.leaving ⟨⟨cL,rfl,W.codeHd_of_K hKb hch⟩,hbm⟩;refine ⟨λD Y H=>tS K C fb D (Y.set ks.length (some (.ref PT))) H,λpS s' Y H' D I h=>hb pS s' _ H' D (zkp I hj hv) h,?_⟩;show tS K C fb _ ((L2.start N vs0).set ks.length (some (V.ref PT))) H;rw[hset];refine ⟨G,w0,bs.map some++List.replicate m none,?_,?_⟩
 ·refine ⟨pr.gh,pr.wg,pr.wh,?_,λi b e=>?_,.refl _ _ _,λi _=>rfl⟩
  ·unfold L2.start;simp only[wav,wag,List.length_replicate];have:=pr.len;lia
  ·have hi:i<bs.length:=by
    by_cases hi:i<bs.length
    ·exact hi
    ·rw[List.getElem?_append_right (by simpa using hi),List.getElem?_replicate] at e;split at e <;> cases e
   rw[List.getElem?_append_left (by simpa using hi),List.getElem?_map] at e;have eb:bs[i]? = some b:=by
    cases q:bs[i]? with
    |none=>rw[q] at e;cases e
    |some z=>rw[q] at e;cases e;rfl
   have hiv:i<vs.length:=by rw[<- pr.len];exact hi
   refine ⟨vs[i],?_,pr.sl i b vs[i] eb (by simp[hiv])⟩;unfold L2.start;rw[List.getElem?_append_left (by simpa using hiv),List.getElem?_map];simp[hiv]
 ·have hF':match zas false ks' m fb bs with
   |.ok a=>∀ v G' H' w',zbB G H w0 G' H' w'->zmD K G' H' w' ks' a.2 vs->RtG false K H G' H' w' a.1 v->Q v H'
   |.er n=>∀ G' H' w',zbB G H w0 G' H' w'->E (xv n) none H'
   |.no=>False:=hF
  have er:zas false ks' m fb bs=(fb (bs.map some++List.replicate m none)).bind λa=>match a.1 with
   |.nx=>if false=true then .no else (zaw ks' a.2).bind λl=>.ok (.non,l)
   |.rt d=>(zaw ks' a.2).bind λl=>.ok (d,l)
   |_=>.no:=by unfold zas;exact if_pos hk
  have back:∀{Z':Ev}{l:List B}{Y':L2.St}{G' H':Hp}{w':Wn},zaw ks' Z'=.ok l->Rel K C G' w' Z' Y' H'->zmD K G' H' w' ks' l vs:=λ{Z' l Y' G' H' w'} eb r'=>by
   refine ⟨r'.gh,r'.wg,r'.wh,λj v e1 e2=>?_⟩;obtain ⟨b,h1,h2⟩:=zd0 eb e1;obtain ⟨v',h3,h4⟩:=r'.sl j b h2;have hj:j<ks'.length:=(wam.mp e1).1;have hp:Y'[j]? = (L2.start N vs)[j]? := r'.pin j (by show j∈zaJ ks';unfold zaJ;rw[List.mem_filter];exact ⟨List.mem_range.mpr hj,by simp[e1]⟩)
   have hs:(L2.start N vs)[j]? = some (some v):=by unfold L2.start;rw[List.getElem?_append_left (by simpa using (List.getElem?_eq_some_iff.mp e2).1),List.getElem?_map,e2];rfl
   rw[hp,hs] at h3;cases h3;exact ⟨b,h1,h4⟩
  cases ef:fb (bs.map some++List.replicate m none) with
  |ok z =>
   obtain ⟨fl,Z'⟩:=z;rw[ef,R.bind_ok] at er;cases fl with
   |nx =>
    intro Y' G' H' w' s' r';have er:zas false ks' m fb bs=(zaw ks' Z').bind λl=>.ok (.non,l):=er;cases eb:zaw ks' Z' with
    |ok l =>
     rw[er] at hF';simp only[eb,R.bind_ok] at hF';exact hF' _ G' H' w' s' (back eb r') (by unfold RtG Rep;rfl)
    |er n=>exact absurd eb zc6
    |no =>
     have er':zas false ks' m fb bs=.no:=by rw[er];show ((zaw ks' Z').bind _)=_;rw[eb];rfl
     rw[er'] at hF';exact hF'.elim
   |rt d =>
    intro v Y' G' H' w' s' r' q;cases eb:zaw ks' Z' with
    |ok l =>
     rw[er] at hF';simp only[eb,R.bind_ok] at hF';exact hF' _ G' H' w' s' (back eb r') q
    |er n=>exact absurd eb zc6
    |no =>
     have er':zas false ks' m fb bs=.no:=by rw[er];show ((zaw ks' Z').bind _)=_;rw[eb];rfl
     rw[er'] at hF';exact hF'.elim
   |bk=>rw[er] at hF';exact hF'.elim
   |ct=>rw[er] at hF';exact hF'.elim
  |er n =>
   show zas false ks' m fb bs=.er n;rw[er,ef];rfl
  |no=>rw[er,ef] at hF';exact hF'.elim
theorem zry{P:Program}{w:World}{K:W.Frag}{mg:Str->Option Value}{base:Heap}{xq qual xs xt q:Str}{st:Stmt}{N:List Str}{xv:Nat->Value}{m k:Nat}{fb:DS}{f PT:Addr}{fd:FuncData}
  (Fu:Fun K xq qual st f fd) (S:zau N [xs] (zah st)) (hm:N.length=m+2) (hj:N[m+1]? = some xt) (hv:¬ Vis (zah st) xt)
  (hbody:∀(X:Cx)(C:Cn),(∃ cdv A outer s H E,X=zko (CXe P w) P w K mg base N qual (zah st) f cdv A outer s H E)->C.pp=[m+1]->C.σ₀[m+1]? = some (some (.ref PT))->C.xv=xv->C.nw=false->zd5 k X.A->zcC (CXe P w) X (EXc C)->PassesOwn (model X.prog X.w) X.A X.env X.xe->JSs X C (zbY st) fb) :
  zgI P w K mg base (CXe P w) (k+1) f fd [xs] (spT K PT (zsG m q fb)):=by
 obtain ⟨oc,od,kV,doc,pm,an,cdv,ct,osl,rfl,lk,hcd⟩:=Fu.ex;refine zpq lk hcd S (λvs H Q E ⟨a,ns,h,_⟩=>by rw[h];rfl) λA outer s H vs Q E hr hsp=>?_;obtain ⟨a,ns,rfl,hS,hP,⟨Z',hok⟩,hQ⟩:=hsp;let X:=zko (CXe P w) P w K mg base N qual (zah st) f cdv A outer s H E;let G:Hp:=λb=>if b=PT then none else H b
 let w0:Wn:=λb=>if b=PT then some (m+1) else none
 let Y1:L2.St:=(L2.start N [.ref a]).set (m+1) (some (.ref PT));let C:Cn:=⟨G,H,w0,[m+1],Y1,λ_=>False,xv,false⟩
 have lS:(L2.start N [V.ref a]).length=m+2:=by unfold L2.start;simp[hm]
 have hb:=hbody X C ⟨cdv,A,outer,s,H,E,rfl⟩ rfl (by show Y1[m+1]? = _;rw[List.getElem?_set_self (by rw[lS];lia)]) rfl rfl hr
  (za4 N qual (zah st) f cdv A outer s H E (EXc C) S.kind λu b H' ⟨_,n,_,z,_⟩=>z.elim) PassesOwn.leaving
 refine ⟨λD Y H=>tS K C fb D (Y.set (m+1) (some (.ref PT))) H,λpS s' Y H' D I h=>hb pS s' _ H' D (zkp I hj hv) h,G,w0,some (.val (.scr ns))::(List.replicate m none++[some (.tab q)]),?_,?_⟩
 ·have gP:G PT=none:=if_pos rfl;have gO:∀{b:Addr},b≠PT->G b=H b:=λh=>if_neg h;have wP:w0 PT=some (m+1):=if_pos rfl;have wO:∀ b,w0 b≠none->b=PT:=λb e=>by
   by_cases hb:b=PT
   ·exact hb
   ·exact absurd (if_neg hb) e
  refine ⟨λb o e=>?_,λb e=>by rw[wO b e];exact gP,λb e=>by rw[wO b e,hP];simp,by simp[lS],λi b e=>?_,.refl _ _ _,λi _=>rfl⟩
  ·by_cases hb:b=PT
   ·rw[hb,gP] at e;cases e
   ·rw[gO hb] at e;exact e
  ·cases i with
   |zero =>
    simp at e;subst e;refine ⟨.ref a,?_,?_⟩
    ·rw[List.getElem?_set_ne xwl];unfold L2.start;simp
    ·show Rep K G (.scr ns) (.ref a);unfold Rep;refine ⟨a,rfl,?_⟩;rcases hS with (h|⟨o,h⟩)|h
     ·exact .inl (.inl ((gO λz=>by rw[z,hP] at h;cases h).trans h))
     ·exact .inl (.inr ⟨o,(gO λz=>by rw[z,hP] at h;cases h).trans h⟩)
     ·exact .inr h
   |succ i =>
    rw[List.getElem?_cons_succ] at e;by_cases hi:i<m
    ·rw[List.getElem?_append_left (by simpa using hi),List.getElem?_replicate] at e;split at e <;> cases e
    ·rw[List.getElem?_append_right (by simpa using hi)] at e;simp only[List.length_replicate] at e;have him:i=m:=by
      by_cases h:i-m=0
      ·lia
      ·obtain ⟨y,hy⟩:=Nat.exists_eq_succ_of_ne_zero h;rw[hy] at e;simp at e
     subst him;simp at e;subst e;refine ⟨.ref PT,by rw[List.getElem?_set_self (by rw[lS];lia)],PT,#[],rfl,wP,hP,trivial,λpos cv z=>?_⟩;simp[codeAmong] at z
 ·rw[hok];intro v Y' G' H' w' _ _ rt;have:v=.bl true:=zdb (K:=K) (G:=G') rt;subst this;exact hQ H'
section
variable{X:Cx}{C:Cn}{a b e:Expr}{fa fb:De}{pos apos:Pos}{zbo:List Expr}
end
end PV
end
section
namespace PV
open PySem PySem.Spec L2
structure ZpL(h:Heap)(z TI TO i1 i2 l1 l2:Addr)(f0:Value)(k:Nat):Prop where
 z:IsZip h z TI TO f0
 ti:IsPair h TI (.ref i1) (.ref i2)
 to:∃ a b,IsPair h TO a b
 a1:h.IsListIter i1 l1 k
 a2:h.IsListIter i2 l2 k
theorem ZpL.keep{h h':Heap}{z TI TO i1 i2 l1 l2:Addr}{f0:Value}{k:Nat}(p:ZpL h z TI TO i1 i2 l1 l2 f0 k)(e:∀ b∈[z,TI,TO,i1,i2],∀ o,h.get? b=some o->h'.get? b=some o):ZpL h' z TI TO i1 i2 l1 l2 f0 k :=
 ⟨e z xws _ p.z,e TI xws _ p.ti,let ⟨a,b,q⟩:=p.to;⟨a,b,e TO xws _ q⟩,p.a1.at λo q=>e i1 xws o q,p.a2.at λo q=>e i2 xws o q⟩
theorem zlQ{z TI TO i1 i2 l1 l2:Addr}(D:ZpD z TI TO i1 i2)(n1:∀ b∈[z,TI,TO,i1,i2],b≠l1)(n2:∀ b∈[z,TI,TO,i1,i2],b≠l2):ZipApart z TI TO i1 i2 l1 l2 :=
 ⟨D.d1,D.d2,D.d3,D.d4,D.d5,D.d6,D.d7,D.d8,D.d9,D.d0,(n1 z xws).symm,(n1 TO xws).symm,(n1 i1 xws).symm,(n1 i2 xws).symm,(n2 z xws).symm,(n2 TO xws).symm,(n2 i1 xws).symm,(n2 i2 xws).symm⟩
def Itl(K:W.Frag)(a b:Addr):It :=
 ⟨λi H=>∃ xs ys x y,SqL K H a xs/\SqL K H b ys/\xs[i]? = some x/\ys[i]? = some y,
   λi H v H'=>∃ p x y,v=.ref p/\H p=none/\H'=upd H p (.tup [x,y])/\(∀ xs,SqL K H a xs->xs[i]? = some x)/\∀ ys,SqL K H b ys->ys[i]? = some y,
   λi H=>∃ xs ys,SqL K H a xs/\SqL K H b ys/\xs.length<=i⟩
theorem zn4{P:Program}{w:World}{K:W.Frag}{elts:List Expr}{x1}{ps:Pos}{a b z TI TO i1 i2:Addr}(D:ZpD z TI TO i1 i2):zpg P w K (.Tuple elts x1 ps) (Itl K a b) [z,TI,TO,i1,i2] z (λi h=>ZpL h z TI TO i1 i2 a b .none i) where
 mem:=by simp
 obj:=λi h st c hc=>by
  obtain ⟨s1,s2,⟨oa,ob,s3⟩,⟨o4,s4,_,d4⟩,⟨o5,s5,_,d5⟩⟩:=st;simp only[wap,wak,or_false] at hc;rcases hc with rfl|rfl|rfl|rfl|rfl
  ·exact ⟨_,s1,λv q=>by cases q⟩
  ·exact ⟨_,s2,λv q=>by cases q⟩
  ·exact ⟨_,s3,λv q=>by cases q⟩
  ·exact ⟨_,s4,λv q=>by rw[d4] at q;cases q⟩
  ·exact ⟨_,s5,λv q=>by rw[d5] at q;cases q⟩
 keep:=λi h h' st k=>st.keep k
 item:=by
  intro X hP hw hK hc i pS s Y H E I hf st hg;subst hP hw hK;obtain ⟨xs,ys,x,y,q1,q2,hx,hy⟩:=hg;obtain ⟨its,rv,p,hz⟩:=I.list q1;obtain ⟨jts,rw',p',hz'⟩:=I.list q2;obtain ⟨u,hu,ru⟩:=rv.get hx;obtain ⟨v,hv,rv'⟩:=rw'.get hy;obtain ⟨oa0,ob0,hto⟩:=st.to;have AP:=zlQ D (λc hc=>zlB I (hf c hc) q1) (λc hc=>zlB I (hf c hc) q2);refine wpAny_pyNext_zip_item (x:=u) (y:=v) AP st.z st.ti hto st.a1 st.a2 p.isList p'.isList (by simpa using hu) (by simpa using hv) λh' b1 b2 b3 b4 ht b6 hk=>?_;refine ⟨_,rfl,wpAny_letOwnedTupleGo_zip b1 λh2 hz2 sb=>?_⟩;have hzp:∀ c∈[z,TI,TO,i1,i2],c≠s.heap.objs.size:=λc hc q=>by
   obtain ⟨s1,s2,⟨oa,ob,s3⟩,⟨o4,s4,_⟩,⟨o5,s5,_⟩⟩:=st;simp only[wap,wak,or_false] at hc;subst q;rcases hc with rfl|rfl|rfl|rfl|rfl
   ·exact absurd (wai s1) (waM _)
   ·exact absurd (wai s2) (waM _)
   ·exact absurd (wai s3) (waM _)
   ·exact absurd (wai s4) (waM _)
   ·exact absurd (wai s5) (waM _)
  have st2:ZpL h2 z TI TO i1 i2 a b .none (i+1) :=
   ⟨hz2,sb.extBut _ _ D.d1 (hk TI _ D.d1 D.d5 D.d6 D.d7 st.ti),⟨_,_,sb.extBut _ _ D.d2 b2⟩,b3.extBut sb.extBut D.d3,b4.extBut sb.extBut D.d4⟩
  have hk2:∀ c ob,c∉[z,TI,TO,i1,i2]->s.heap.get? c=some ob->h2.get? c=some ob:=λc ob nc e=>by simp only[wap,wak,or_false,not_or] at nc;exact sb.extBut _ _ nc.1 (hk c ob nc.1 nc.2.2.1 nc.2.2.2.1 nc.2.2.2.2 e)
  have hth:∀ c ob,s.heap.get? c=some ob->∃ ob',h2.get? c=some ob':=λc ob e=>by
   by_cases nc:c∈[z,TI,TO,i1,i2]
   ·obtain ⟨s1,s2,⟨oa,ob,s3⟩,⟨o4,s4,_⟩,⟨o5,s5,_⟩⟩:=st2;simp only[wap,wak,or_false] at nc;rcases nc with rfl|rfl|rfl|rfl|rfl
    ·exact ⟨_,s1⟩
    ·exact ⟨_,s2⟩
    ·exact ⟨_,s3⟩
    ·exact ⟨_,s4⟩
    ·exact ⟨_,s5⟩
   ·exact ⟨ob,hk2 c ob nc e⟩
  have hnew:h2.get? s.heap.objs.size=some { cls:=.type "tuple",data:=.seq #[u,v] }:=sb.extBut _ _ (Ne.symm (hzp z xws)) ht;have IN:L2.Inv X pS Y (upd H s.heap.objs.size (.tup [x,y])) { s with heap:=h2 }:=zgv (s:=s) (t':=s.toks) (o:=.tup [x,y]) I hf hk2 (wal _) hth ⟨by show 2<=sizeLine;decide,[u,v],.cons ru (.cons rv' .nil),0,hnew⟩;exact ⟨.ref s.heap.objs.size,_,IN,rfl,
   ⟨_,x,y,rfl,I.hok.fresh (wal _),rfl,λzs q=>by rw[I.list_inj q q1];exact hx,λzs q=>by rw[I.list_inj q q2];exact hy⟩,st2,λc hc=>by rw[zaj (hzp c hc)];exact (hf c hc).1⟩
 done:=by
  intro X hP hw hK hc i pS s Y H E I hf st hg;subst hP hw hK;obtain ⟨xs,ys,q1,q2,hx⟩:=hg;obtain ⟨its,rv,p,hz⟩:=I.list q1;obtain ⟨jts,rw',p',hz'⟩:=I.list q2;have hl:=rv.length;obtain ⟨oa0,ob0,hto⟩:=st.to;have AP:=zlQ D (λc hc=>zlB I (hf c hc) q1) (λc hc=>zlB I (hf c hc) q2);refine wpAny_pyNext_zip_end (I.ok.hd hc) AP st.z st.ti hto st.a1 st.a2 p.isList p'.isList (.inl (by simp;lia)) λh' hk=>⟨rfl,?_⟩
  refine zgX (t':=s.toks) I hf λc ob nc e=>?_;simp only[wap,wak,or_false,not_or] at nc;exact hk c ob nc.1 nc.2.2.1 nc.2.2.2.1 nc.2.2.2.2 e
 self:=λ_ _ _ _ _ st h=>wpAny_pyIter_zip st.z h
theorem ztM{K:W.Frag}{G:Hp}{a b:Addr}{vs us:List V}{ds es:List Dt}(hs:G a=some (.lst vs))(ht:G b=some (.lst us))(q:za1 K G ds vs)(q':za1 K G es us)(hl:ds.length=es.length):zoD K (Itl K a b) G ((ds.zip es).map λz=>.tup [z.1,z.2]):=λi G1 H s1 s2=>by
 have h1:SqL K H a vs:=SqL.of (s2 _ _ (s1 _ _ hs));have h2:SqL K H b us:=SqL.of (s2 _ _ (s1 _ _ ht));refine ⟨λd e=>?_,λh=>⟨vs,us,h1,h2,?_⟩⟩
 ·rw[List.getElem?_map] at e;have hi:i<ds.length:=by
   by_cases hi:i<ds.length
   ·exact hi
   ·rw[List.getElem?_eq_none (by rw[List.length_zip];lia)] at e;cases e
  have z1:ds[i]? = some ds[i]:=by simp[hi]
  have z2:es[i]? = some (es[i]'xwl):=by simp[show i<es.length by lia]
  obtain ⟨v,e1,e2⟩:=q.get z1;obtain ⟨u,e3,e4⟩:=q'.get z2;have ed:d=.tup [ds[i],es[i]'xwl]:=by rw[(List.getElem?_zip_eq_some (z:=(ds[i],es[i]'xwl))).mpr ⟨z1,z2⟩] at e;exact (waB e).symm
  refine ⟨⟨vs,us,v,u,h1,h2,e1,e3⟩,λx H' y=>?_⟩;obtain ⟨p,x',y',rfl,hp,rfl,k1,k2⟩:=y;have kx:=k1 vs h1;have ky:=k2 us h2;rw[e1] at kx;rw[e3] at ky;cases kx;cases ky;have gr:ze9 G1 H (upd G1 p (.tup [v,u])) (upd H p (.tup [v,u])):=.new s2 hp;refine ⟨_,gr,?_⟩;rw[ed];unfold Rep;exact ⟨p,[v,u],rfl,zhJ.of zan,za1.cons ((e2.same s1).same gr.g) (za1.cons ((e4.same s1).same gr.g) za1.nil)⟩
 ·rw[<- q.length];simpa [hl] using h
def zov(fa fb:De):DA:=λZ=>(fa Z).bind λa=>(fb a.2).bind λb=>match a.1,b.1 with
 |.tup l,.tup r=>if l.length=r.length then .ok ((l.zip r).map λz=>.tup [z.1,z.2],b.2) else .no
 |.lst l,.lst r=>if l.length=r.length then .ok ((l.zip r).map λz=>.tup [z.1,z.2],b.2) else .no
 |_,_=>.no
section
variable{X:Cx}{C:Cn}{elts:List Expr}{x1:Nat}{pt:Pos}{a b:Expr}{fa fb:De}{p pos:Pos}
theorem zrp(hg:Gl X "zip")(hm:X.mg "zip"=none)(ha:JE X C a fa)(hb:JE X C b fb)(hs:starEach [a,b] X.env=(false,eval a X.env)::starEach [b] X.env:=by rfl)(hs2:starEach [b] X.env=(false,eval b X.env)::starEach [] X.env:=by rfl)(hpl:(backTo pos (starEach [b] X.env)).any (·.1)=false:=by rfl) :
  JI X C (.Tuple elts x1 pt) (.Call (.Name "zip" p) [a,b] [] pos) (zov fa fb):=by
 intro pS s Y H R I ⟨G,w,Z,r,pp⟩;refine PyProof.Rows.Call_ (zfn I hg hm PyProof.Rows.boot_zip (PyProof.Rows.callWith_type1 (thn (zac ha (zac hb zaq hs2) hs pos pS s Y H (λvs H1=>∃(l1 l2:Addr)(xs ys:List V),vs=[.ref l1,.ref l2]/\((SqT X.K H1 l1 xs/\SqT X.K H1 l2 ys/\R (Itz X.K l1 l2) H1)\/(SqL X.K H1 l1 xs/\SqL X.K H1 l2 ys/\R (Itl X.K l1 l2) H1))) I ?_) λus s1 ⟨vs,H1,I1,r1,q1⟩=>?_) hs hpl))
 ·refine ⟨G,w,Z,r,?_⟩;unfold zov at pp;unfold dA dA0;cases e:fa Z with
  |ok x =>
   obtain ⟨d,Z1⟩:=x;rw[e] at pp;simp only[PV.R.bind_ok] at pp ⊢;cases e2:fb Z1 with
   |ok y =>
    obtain ⟨d2,Z2⟩:=y;rw[e2] at pp;simp only[PV.R.bind_ok] at pp ⊢;intro vs G1 H1 w1 s1 r1 q;obtain ⟨v,u,rfl,k1,k2⟩:=zrl q;cases d with
    |tup l =>
     cases d2 with
     |tup l' =>
      dsimp only at pp;by_cases hl:l.length=l'.length
      ·rw[if_pos hl] at pp;obtain ⟨a1,xs,rfl,m1,m2⟩:=zb5 k1;obtain ⟨a2,ys,rfl,m3,m4⟩:=zb5 k2;exact ⟨a1,a2,xs,ys,rfl,.inl ⟨za8 r1.gh m1,za8 r1.gh m3,pp _ G1 H1 w1 s1 r1 (zts m1 m3 m2 m4 hl)⟩⟩
      ·rw[if_neg hl] at pp;exact pp.elim
     |_=>exact waP pp
    |lst l =>
     cases d2 with
     |lst l' =>
      dsimp only at pp;by_cases hl:l.length=l'.length
      ·rw[if_pos hl] at pp;obtain ⟨a1,xs,rfl,m1,m2⟩:=zbi k1;obtain ⟨a2,ys,rfl,m3,m4⟩:=zbi k2;exact ⟨a1,a2,xs,ys,rfl,.inr ⟨SqL.of (r1.gh _ _ m1),SqL.of (r1.gh _ _ m3),pp _ G1 H1 w1 s1 r1 (ztM m1 m3 m2 m4 hl)⟩⟩
      ·rw[if_neg hl] at pp;exact pp.elim
     |_=>exact waP pp
    |_=>exact waP pp
   |er n=>rw[e2] at pp;exact pp
   |no=>rw[e2] at pp;exact pp
  |er n=>rw[e] at pp;exact pp
  |no=>rw[e] at pp;exact pp
 ·obtain ⟨l1,l2,xs,ys,rfl,q⟩:=q1;obtain ⟨u1,u2,rfl,c1,c2⟩ : ∃ u1 u2,us=[u1,u2]/\zca (.ref l1) u1/\zca (.ref l2) u2:=by
   cases r1 with
   |cons h1 t=>cases t with
    |cons h2 t2=>cases t2;exact ⟨_,_,rfl,h1,h2⟩
  cases c1;cases c2;have D:ZpD (s1.heap.objs.size+4) (s1.heap.objs.size+2) (s1.heap.objs.size+3) s1.heap.objs.size (s1.heap.objs.size+1):=ztq _;have hfp:∀ c∈[s1.heap.objs.size+4,s1.heap.objs.size+2,s1.heap.objs.size+3,s1.heap.objs.size,s1.heap.objs.size+1],ziR X pS H1 c:=λc hc=>by
   have hle:s1.heap.objs.size<=c:=by
    simp only[wap,wak,or_false] at hc;rcases hc with rfl|rfl|rfl|rfl|rfl
    ·exact waU ..
    ·exact waU ..
    ·exact waU ..
    ·exact wal _
    ·exact waU ..
   exact I1.fpOk hle (I1.hok.fresh hle)
  rcases q with ⟨k1,k2,q⟩|⟨k1,k2,q⟩
  ·obtain ⟨its,rv,p1,_⟩:=I1.tuple k1;obtain ⟨jts,rw',p2,_⟩:=I1.tuple k2;refine zr6 (show s1.heap.IsTuple l1 its.toArray from p1) (show s1.heap.IsTuple l2 jts.toArray from p2) λh' zp hk=>?_;refine wpAny_pyIter_zip zp.z ?_;exact ⟨s1.heap.objs.size+4,[s1.heap.objs.size+4,s1.heap.objs.size+2,s1.heap.objs.size+3,s1.heap.objs.size,s1.heap.objs.size+1],_,_,H1,rfl,I1.kept (t':=s1.toks) hk,zpY D,zp,hfp,q⟩
  ·obtain ⟨its,rv,p1,_⟩:=I1.list k1;obtain ⟨jts,rw',p2,_⟩:=I1.list k2;refine call_zip_2 p1.isList p2.isList λh' b1 b2 b3 b4 b5 b6 hk=>?_;refine wpAny_pyIter_zip b1 ?_;exact ⟨s1.heap.objs.size+4,[s1.heap.objs.size+4,s1.heap.objs.size+2,s1.heap.objs.size+3,s1.heap.objs.size,s1.heap.objs.size+1],_,_,H1,rfl,I1.kept (t':=s1.toks) hk,zn4 D,⟨b1,b2,⟨_,_,b3⟩,b4,b5⟩,hfp,q⟩
end
end PV
end
section
namespace PV
open PySem PySem.Spec L2 PyProof.Rows
def zte(i j:Nat)(f:DA):DS:=λZ=>(f Z).bind λa=>match a.1 with
 |[d,e]=>if i<a.2.length/\j<a.2.length then .ok (.nx,(a.2.set i (some (.val d))).set j (some (.val e))) else .no
 |_=>.no
section
variable{X:Cx}{C:Cn}{pos:Pos}
theorem ztU{i j:Nat}{x y:Str}{a b:Expr}{f:DA}{px py pt:Pos}{kt k2 pt2}(hc:X.calm=true)(hN:X.N.Nodup)(hi:X.N[i]? = some x)(hj:X.N[j]? = some y)(hij:i≠j)
  (hx:X.env.scope.names.lookup x=some .local) (hy:X.env.scope.names.lookup y=some .local) (hp:i∉C.pp) (hq:j∉C.pp) (ha:JA X C [a,b] f)
  (hw:swappedStores [.Tuple [.Name x px,.Name y py] kt pt] (.Tuple [a,b] k2 pt2) X.env=pure (some [x,y]))
  (hs:swapsWithSole [.Tuple [.Name x px,.Name y py] kt pt] (.Tuple [a,b] k2 pt2) pos.line X.env=pure false:=by rfl) :
  JS X C (.Assign [.Tuple [.Name x px,.Name y py] kt pt] (.Tuple [a,b] k2 pt2) pos) (zte i j f) :=
 PS.weak (ztZ hc hN hi hj hij hx hy ha hw hs) λD Y H ⟨G,w,Z,r,p⟩=>by
  refine zsJ (κ:=λG H w=>kS X.K C D G H w) zdK r p λds Z1 vs G1 H1 w1 r1 s1 q1 p1=>?_;dsimp only at p1;split at p1
  ·obtain ⟨v1,t,rfl,qa,q2⟩:=q1.cons_inv;obtain ⟨v2,t2,rfl,qb,q4⟩:=q2.cons_inv;rw[q4.nil_inv];by_cases hl:i < Z1.length/\j < Z1.length
   ·rw[if_pos hl] at p1;exact ⟨v1,v2,rfl,p1 _ G1 H1 w1 (.refl _ _ _) ((r1.setVal hl.1 hp qa).setVal (by simpa using hl.2) hq qb)⟩
   ·rw[if_neg hl] at p1;exact p1.elim
  ·exact p1.elim
def zuu(f:De)(g:DG):DS:=λZ=>(f Z).bind λa=>(g a.1 a.2).bind λZ1=>.ok (.nx,Z1)
theorem zqU{tg e:Expr}{fa:De}{g:DG}(he:JE X C e fa)(hg:JG X C tg g)(hs:swapsWithSole [tg] e pos.line X.env=pure false:=by rfl)(hw:swappedStores [tg] e X.env=pure none:=by rfl)
  (h1:(assignEach [tg] X.env).map (·.2)=[assign tg X.env]:=by rfl):JS X C (.Assign [tg] e pos) (zuu fa g) :=
 PS.weak (zqI he hg hs hw h1) λD Y H ⟨G,w,Z,r,p⟩=>by
  refine zfa (κ:=λG H w=>kS X.K C D G H w) zdK r p λd Z1 v G1 H1 w1 r1 s1 q1 p1=>?_;refine ⟨G1,w1,Z1,d,r1,q1,?_⟩;dsimp only at p1;cases hgd:g d Z1 with
  |ok Z2=>rw[hgd] at p1;exact p1
  |er n=>rw[hgd] at p1;exact p1
  |no=>rw[hgd] at p1;exact p1
end
end PV
end
section
end
section
namespace PV
open PySem PySem.Spec L2 PyProof.Rows
def zmI(n:Nat)(r:R (Dt×Ev)):Bool:=match r with
 |.er k=>k == n
 |_=>false
theorem zgJ{n:Nat}{r:R (Dt×Ev)}(h:zmI n r=true):r=.er n:=by
 cases r with
 |er k=>rw[show k=n by simpa [zmI] using h]
 |ok a=>cases h
 |no=>cases h
structure zsY(X:Cx)(xr xc xl:Str)(ci:Nat)(scope:Scope)(N':List Str)(p2 p3 p5:Pos):Prop where
 hc:X.calm=true
 hci:X.N[ci]? = some xl
 hvl:Vis X.env.scope xl
 hb:zgC X.N N' scope.names 1=true
 hkind:scope.kind=.function
 hcell:Hce scope
 hfr:Hfr X scope
 hnames:Hnm scope
 hN':N'.Nodup
 hcs:N'[X.N.length]? = some xc
 hgl:∀ cl L s H fp,Gl (zdq X N' scope cl L s H fp) xr
 he:∀ cl L s H fp,starEach [.Name xc p2] (zdq X N' scope cl L s H fp).env=(false,eval (.Name xc p2) (zdq X N' scope cl L s H fp).env)::starEach [] (zdq X N' scope cl L s H fp).env
 hpl:∀ cl L s H fp,(backTo p3 (starEach [] (zdq X N' scope cl L s H fp).env)).any (·.1)=false
 hvx:∀ cl L s H fp,Vis (zdq X N' scope cl L s H fp).env.scope xc/\Loc (zdq X N' scope cl L s H fp).env.scope xc/\(zdq X N' scope cl L s H fp).env.scope.names.lookup xc=some .local
 hs:∀ x,foldedSetIterable (.Name xl p5) X.env x=pure x
 hdb:(xr == ("__debug__" : Str))=false:=by decide
 hdc:(xc == ("__debug__" : Str))=false:=by decide
 hdd:(xc == ("__classdict__" : Str))=false:=by decide
 hdl:(xl == ("__debug__" : Str))=false:=by decide
 hdm:(xl == ("__classdict__" : Str))=false:=by decide
section
variable{X:Cx}{C:Cn}{f:Addr}{fd:FuncData}{st:Stmt}{xq xr xc xl:Str}{NR:List Str}{m k n ci:Nat}{dB:Nat->Addr->DS}
theorem Rel.setNone{K:W.Frag}{G H:Hp}{w:Wn}{Z:Ev}{Y:L2.St}{i:Nat}{v:V}(r:Rel K C G w Z Y H)(hi:Z[i]? = some none)(hp:i∉C.pp):Rel K C G w Z (Y.set i (some v)) H:=by
 refine ⟨r.gh,r.wg,r.wh,by rw[List.length_set];exact r.len,λj b e=>?_,r.en,λj hj=>?_⟩
 ·obtain ⟨u,h1,h2⟩:=r.sl j b e;have hne:i≠j:=λz=>by subst z;rw[hi] at e;cases e
  exact ⟨u,by rw[List.getElem?_set_ne hne];exact h1,h2⟩
 ·rw[List.getElem?_set_ne (λz=>by subst z;exact hp hj)];exact r.pin j hj
theorem zrk{X:Cx}:PTs X [] (λ_ H Q=>Q true H):=λpS s Y H Q I h=>wpAny_tests_nil ⟨H,I,h⟩
theorem zpI(cls:Nat->Addr)(hxv:∀ n,n<8->C.xv n=.ref (cls n))(hfn:X.fn=λ_=>true)
  (Fu:Fun X.K xq xr st f fd) (S:zau NR ["call"] (zah st)) (hNR:NR.length=m+1) (hbi:zfw X.K fd ["call"] []) (hm:X.mg xr=some (.ref f)) (hr:zd5 (k+2) X.A)
  (hB:HB X C xr st f NR k cls dB)
  (hden:HD m dB) (hn8:n<8)
  (hpp:C.pp=List.range X.N.length) {p:Addr} {Fs:List Addr} (hσ:C.σ₀[ci]? = some (some (.ref p))) (hG:C.G₀ p=some (.lst (Fs.map V.ref))) {Z0:Ev} (hF:∀ Fa∈Fs,zli X C.xv k n Z0 C.G₀ Fa)
  (hval:∀(i:Nat)(d:Dt),Z0[i]? = some (some (.val d))->∃ v,C.σ₀[i]? = some (some v)/\Rep X.K C.G₀ d v) (hlen:Z0.length=X.N.length) (hlF:Fs.length<=1000)
  {scope:Scope} {N':List Str} {p1 p2 p3 p4 p5 pos:Pos} (cb:zsY X xr xc xl ci scope N' p2 p3 p5) :
  JN X C (.ListComp (.Call (.Name xr p1) [.Name xc p2] [] p3) [⟨.Name xc p4,.Name xl p5,[],0⟩] scope pos) (λZ=>if Z.length=X.N.length then .ok (List.replicate Fs.length (.lst [.int n]),Z) else .no):=by
 intro pS s Y H Q I ⟨G,w,Z,r,p0⟩;dsimp only at p0;split at p0
 case isFalse=>exact p0.elim
 rename_i hρl;obtain ⟨hc,hci,hvl,hb,hkind,hcell,hfr,hnames,hN',hcs,hgl,he,hpl,hvx,hs,hdb,hdc,hdd,hdl,hdm⟩:=cb;have kn:kN X.K C Y Q G H w (List.replicate Fs.length (.lst [.int n]),Z):=p0;obtain ⟨cl,hclos,hcl,hcf⟩:=zdp (scope:=scope) (env:=X.env) λy hy hf=>I.ok.has y.1 (hfr y hy hf);have hlenσ:Y.length=X.N.length:=I.len;have hciN:ci<X.N.length:=(wam.mp hci).1;have pinN:∀ i,i<X.N.length->Y[i]? = C.σ₀[i]? := λi hi=>r.pin i (by rw[hpp];exact List.mem_range.mpr hi);have hσp:Y[ci]? = some (some (.ref p)):=by rw[pinN ci hciN];exact hσ
 have gG:G p=some (.lst (Fs.map V.ref)):=r.en.g _ _ hG;refine wpAny_comprehension_free (use:=none) rfl hs hclos hkind hnames ?_;refine thn (zob (tg:=.Name xc p4) (zcb (i:=ci) hci hvl hdl hdm) pS s Y H (λJ H2=>J=L2.Itl X.K p/\H2=H) I ⟨.ref p,hσp,p,rfl,⟨_,SqL.of (r.gh _ _ gG)⟩,rfl,rfl⟩) λv s1 h1=>thn h1 λitv s2 h2=>?_;obtain ⟨it,fp,tn,J,H2,rfl,I2,T,st2,f2,rfl,rfl⟩:=h2;generalize hCY:zm7 C X.N.length G H2 w (Y++List.replicate 1 none)=CY;have cxv:CY.xv=C.xv:=by rw[<- hCY];rfl
 have c0:CY.H₀=H2:=by rw[<- hCY];rfl
 have cG:CY.G₀=G:=by rw[<- hCY];rfl
 have cw:CY.w₀=w:=by rw[<- hCY];rfl
 have cpp:CY.pp=List.range X.N.length:=by rw[<- hCY];rfl
 have csp:X.N.length∉CY.pp:=by rw[cpp];simp
 let ρY:Ev:=Z++[none]
 have hns:ρY[X.N.length]? = some none:=by show (Z++[none])[X.N.length]? = _;rw[List.getElem?_append_right xwl,hρl];simp
 refine zlL (RR:=λacc C=>compPost (model X.prog X.w) X.A X.xe none (EP X pS Y Q) acc C) (iter:=.Name xl p5) (pos:=pos) (n:=Fs.length) (tgt:=zsp X.N.length) (tts:=λ_ H Q=>Q true H)
  (te:=λσY H1 Q=>∃ Fa G1 w1,σY[X.N.length]? = some (some (.ref Fa))/\Rel X.K CY G1 w1 ρY σY H1/\zbU G G1/\zli X C.xv k n Z0 G1 Fa/\kN X.K CY σY Q G1 H1 w1 ([.int n],ρY)) hc hb hkind hcell hfr (λL s H fp I0 f0 hL=>⟨?_,zrk,?_⟩) hcl hcf I2 T st2 f2
  (λD i Y' H' vs=>∃ G' w',Rel X.K CY G' w' ρY Y' H'/\G' D=none/\w' D=none/\za1 X.K G' (List.replicate i (.lst [.int n])) vs) (λD hD=>?_) (λD i Y' H' vs hD q5 hd5 hlt=>?_) (λD Y' H' vs q5=>?_) λD L s' vs Y' H' IX lo hD hd5 hl6 q5=>?_
 ·exact zim hN' hcs (hvx cl L s H fp).2.1 (.inr (hvx cl L s H fp).2.2)
 ·intro pinsY s1 σY H1 Q1 J1 ⟨Fa,G1,w1,q1,q2,qg,q3,q4⟩;refine wpAny_Call_Name_kw (zhg J1 (hgl cl L s H fp) hm ?_ hdb);refine W.callWith_K (h₀:=X.base) J1.ok.mod.kin Fu.kp ?_ (he cl L s H fp) (hpl cl L s H fp);rw[he cl L s H fp];refine Calls.spliced_cons (thn (zcb (X:=zdq X N' scope cl L s H fp) (i:=X.N.length) hcs (hvx cl L s H fp).1 hdc hdd pinsY s1 σY H1 (λv H'=>v=.ref Fa/\H'=H1) J1 ⟨.ref Fa,q1,rfl,rfl⟩) λu s2 hEP=>?_);obtain ⟨v,H',J2,rv,ev,eH⟩:=hEP;subst ev;subst eH;cases rv;show wpAny _ _ (spliced []) _ _ s2;refine Calls.spliced_nil ⟨J2.kIn,?_⟩;have I2':L2.Inv X pS Y H' s2:=zmY (h':=s2.heap) I0 f0 hL J2 ⟨rfl,λ_ _=>rfl⟩;refine wpAny_call (codeAny_mono (zpG (CY:=CY) cls hxv hfn Fu S hNR hbi hr hB hden hn8 I2' J2.env0 q2 (λi d e=>?_) (by rw[hlen,hlenσ]) q3 q4) λrr s3 hq=>?_)
  ·obtain ⟨v,h1,h2⟩:=hval i d e;have hi:i<X.N.length:=by rw[<- hlen];exact (wam.mp e).1
   exact ⟨v,by rw[pinN i hi];exact h1,h2.same (r.en.g.trans qg)⟩
  ·exact zr1 J2 hq
 ·have w0:w D=none:=zfE r hD;have base:Rel X.K CY G w ρY (Y++List.replicate 1 none) H2:=by
   refine ⟨r.gh,r.wg,r.wh,by simp[ρY,r.len],λi b e=>?_,by rw[<- hCY];exact .refl _ _ _,λi _=>by rw[<- hCY];rfl⟩;have hi':i < Z.length:=by
    by_cases hi':i < Z.length
    ·exact hi'
    ·have e':(Z++List.replicate 1 none)[i]? = some (some b):=e;rw[List.getElem?_append_right xwl,List.getElem?_replicate] at e';split at e' <;> cases e'
   have e':(Z++[none])[i]? = some (some b):=e;rw[List.getElem?_append_left hi'] at e';obtain ⟨v,h1,h2⟩:=r.sl i b e';exact ⟨v,by rw[List.getElem?_append_left (by rw[<- r.len];exact hi')];exact h1,h2⟩
  exact ⟨G,w,base.upd_new (r.gh.free hD) w0 (by rw[c0];exact hD),r.gh.free hD,w0,za1.nil⟩
 ·obtain ⟨G',w',r5,gd5,wd5,q5⟩:=q5;have sG:zbU G G':=by have:=r5.en.g;rw[cG] at this;exact this
  have hHp:H' p=some (.lst (Fs.map V.ref)):=r5.gh _ _ (sG _ _ gG);refine ⟨⟨Fs.map V.ref,.ref Fs[i],SqL.of hHp,by rw[List.getElem?_map,List.getElem?_eq_getElem hlt];rfl⟩,λx H7 y7=>?_⟩;obtain ⟨rfl,y7⟩:=y7;have hx:=y7 _ (SqL.of hHp);rw[List.getElem?_map,List.getElem?_eq_getElem hlt] at hx;have ex:V.ref Fs[i]=x:=by simpa using hx
  subst ex;have r6:Rel X.K CY G' w' ρY (Y'.set X.N.length (some (.ref Fs[i]))) H7:=r5.setNone hns csp;have hsl:X.N.length < Y'.length:=by rw[<- r5.len];simp[ρY,hρl]
  show ∃ Fa G1 w1,_/\_/\_/\_/\_;refine ⟨Fs[i],G',w',by rw[List.getElem?_set_self hsl],r6,sG,(hF _ (List.getElem_mem hlt)).same (r.en.g.trans sG),?_⟩;intro q us G2 H3 w2 s2s r7 h0 h1 h2 h3 h4;have keep:=s2s.keep gd5 wd5 hd5;have qD:q≠D:=λz=>by subst z;rw[hd5] at h0;cases h0
  obtain ⟨r8,s8⟩:=r7.know h1 h2 h3 _ G' w' s2s h0 (.inl (by rw[c0];exact (by have:=r5.en.k q h0;rw[c0] at this;exact this)));have sg:zbU G2 (upd G2 q (.lst us)):=λb u e=>by rw[zaj (zak e h2)];exact e
  have gd:upd G2 q (.lst us) D=none:=by rw[zaj (Ne.symm qD)];exact keep.1
  refine ⟨keep.2.2,?_,upd G2 q (.lst us),w2,r8.upd_new gd keep.2.1 (by rw[c0];exact hD),gd,keep.2.1,?_⟩
  ·have:=q5.length;rw[List.length_replicate] at this;have:=zeH;lia
  ·rw[List.replicate_succ'];exact (q5.same (s2s.g.trans sg)).append (za1.cons (by unfold Rep;exact ⟨q,us,rfl,zan,h4.same sg⟩) za1.nil)
 ·obtain ⟨G',w',r5,gd5,wd5,q5⟩:=q5;have sG:zbU G G':=by have:=r5.en.g;rw[cG] at this;exact this
  have hHp:H' p=some (.lst (Fs.map V.ref)):=r5.gh _ _ (sG _ _ gG);exact ⟨_,SqL.of hHp,xws⟩
 ·obtain ⟨G',w',r5,gd5,wd5,q5⟩:=q5;obtain ⟨mm,hn⟩:=lo.ns;have en':zbB G H2 w G' H' w':=by have:=r5.en;rw[cG,c0,cw] at this;exact this
  refine ⟨mm,hn,λh' hsb=>⟨.ref D,H',?_,rfl,kn D vs G' H' w' en' ⟨r5.gh,r5.wg,r5.wh,r.len,λi b e=>?_,r.en.trans en',r.pin⟩ hD hd5 gd5 wd5 q5⟩⟩
  ·exact IX.turned (t':=s'.toks) (λb o hb e=>(hsb.2 b hb).trans e) lo.fr lo.nl lo.nw lo.nc lo.np
  ·have hi':i < Z.length:=(wam.mp e).1;obtain ⟨v,h1,h2⟩:=r5.sl i b (by show (Z++[none])[i]? = _;rw[List.getElem?_append_left hi'];exact e);refine ⟨v,?_,h2⟩;have hpi:=r5.pin i (by rw[cpp];exact List.mem_range.mpr (by rw[<- hρl];exact hi'));rw[h1] at hpi;rw[<- hCY] at hpi;have hpi':some (some v)=(Y++List.replicate 1 none)[i]? := hpi;rw[List.getElem?_append_left (by rw[hlenσ,<- hρl];exact hi')] at hpi';exact hpi'.symm
end
theorem zbB.upd{G H G' H':Hp}{w w':Wn}{p:Addr}{o:HO}(s:zbB G H w G' H' w')(hp:H p=none):zbB G H w G' (L2.upd H' p o) w' :=
 ⟨s.g,s.fr,λb u e z=>by rw[zaj (zak e hp)];exact s.h b u e z,s.w,λb e=>by
  by_cases hb:b=p
  ·subst hb;exact hp
  ·rw[zaj hb] at e;exact s.k b e⟩
theorem eqR(n:Int)(l:Nat):gEq true (.lst (List.replicate l (.lst [.int n]))) (.lst (List.replicate l (.lst [.int n])))=.ok (.bl false):=by
 have e1:eqD (.lst [.int n]) (.lst [.int n])=true:=by rw[eqD,zfh,zfh,eqD];simp
 have e2:∀ l,zfh (List.replicate l (.lst [.int n])) (List.replicate l (.lst [.int n]))=true:=λl=>by
  induction l with
  |zero=>unfold zfh;rfl
  |succ l ih=>rw[List.replicate_succ,zfh,e1,ih];rfl
 have e3:okN 60 (.lst (List.replicate l (.lst [.int n])))=true:=by unfold okN;rw[List.all_eq_true];intro x hx;rw[List.eq_of_mem_replicate hx];rfl
 unfold gEq;rw[e3,if_pos rfl,eqD,e2];rfl
structure CS(X:Cx)(C:Cn)(k n ci:Nat)(Z:Ev)(G0 H0:Hp)(w:Wn)(l:Nat)(Y:L2.St)(H:Hp):Prop where
 ex:∃(p:Addr)(G1:Hp)(Fs:List Addr),Fs.length=l/\Y[ci]? = some (some (.ref p))/\Rel X.K C G1 w Z Y H/\zbB G0 H0 w G1 H w/\H0 p=none/\C.H₀ p=none/\H p=some (.lst (Fs.map V.ref))/\G1 p=none/\w p=none/\∀ Fa∈Fs,zli X C.xv k n Z G1 Fa
structure znC(X:Cx)(xl:Str)(pa:Arguments)(b:Expr)(s:Scope)(l q4 q5 q6 q7:Pos):Prop where
 hsw:swapsWith (.Call (.Attribute (.Name xl q4) "append" q5) [.Lambda pa b s l] [] q6) none q7.line X.env=pure false
 hse:starEach [.Lambda pa b s l] X.env=(false,eval (.Lambda pa b s l) X.env)::starEach [] X.env
 hba:attributeBase (.Name xl q4) "append" X.env (eval (.Name xl q4) X.env)=eval (.Name xl q4) X.env
 hfw:((backTo q6 (starEach [.Lambda pa b s l] X.env)).all (λx=>!x.1) && (backToKw q6 (keywordEach [] X.env)).all (λx=>x.1.isSome) && decide ([Expr.Lambda pa b s l].length+([]:List Keyword).length+(if ([]:List Keyword).isEmpty then 0 else 1)<30))=true
 hln:(q5.endLine == q6.line)=true
 hpl:(backTo q6 (starEach [] X.env)).any (·.1)=false
section
variable{X:Cx}{C:Cn}{P f:Addr}{fd:FuncData}{st:Stmt}{xq xr xc xl:Str}{NR N':List Str}{m k n ci j l:Nat}{dB:Nat->Addr->DS}{Z:Ev}{G0 H0:Hp}{w:Wn}{scope:Scope}{p1 p2 p3 p4 p5 pos:Pos}
 (LB:zgu X P) (hjp:j∈C.pp) (hσ0:C.σ₀[j]? = some (some (.ref P))) (hip:ci∉C.pp)
include LB hjp hσ0 hip
theorem zva{pa:Arguments}{b:Expr}{s:Scope}{f1:De}(A:zga X C.xv k pa b s f1)(hfn:X.fn=λ_=>true)(hN:X.N.Nodup)(hlx:Loc X.env.scope xl)(cb:zsY X xr xc xl ci scope N' p2 p3 p5){l1 q1 q2 q3:Pos}
  (hsw1:swapsWith (.List [.Lambda pa b s l1] q2) (some (.Name xl q1)) q3.line X.env=pure false) (hse1:starEach [.Lambda pa b s l1] X.env=(false,eval (.Lambda pa b s l1) X.env)::starEach [] X.env) (hj:Z[j]? = some (some (.tab (X.env.qual++"<lambda>")))) (hci0:Z[ci]? = some none) (hf:f1 (zcL Z)=.er n) :
  PS X (.Assign [.Name xl q1] (.List [.Lambda pa b s l1] q2) q3) λD Y H=>H=H0/\Rel X.K C G0 w Z Y H/\∀ Y' H',CS X C k n ci Z G0 H0 w 1 Y' H'->D.nx Y' H':=by
 intro pS s' Y H D I ⟨eH,r,kx⟩;subst eH;obtain ⟨cl,hclos,hcl,hcf⟩:=zdp (scope:=s) (env:=X.env) λy hy hf=>I.ok.has y.1 (A.hfr y hy hf);have hciN:ci < Y.length:=by rw[I.len];exact (wam.mp cb.hci).1
 refine zlu (i:=ci) hN cb.hci hlx (zq0 (zbk (zqF LB A.hdef hclos) zcR hse1)) hsw1 (.inl (by rw[hfn])) pS s' Y H D I ?_;unfold zvi tLst zsb;refine zlT r hj (by rw[r.pin j hjp];exact hσ0) λF1 c1 ctv1 G1 H1 r1 st1 gF1 gc1=>⟨by show 1<=sizeLine;decide,λp hp=>kx _ _ ⟨p,G1,[F1],rfl,?_,?_,st1.upd (st1.k p hp),st1.k p hp,r.en.k p (st1.k p hp),zan,r1.gh.free hp,zfE r1 hp,λFa hFa=>?_⟩⟩
 ·rw[List.getElem?_set_self hciN]
 ·exact (r1.upd_new (r1.gh.free hp) (zfE r1 hp) (r.en.k p (st1.k p hp))).setNone hci0 hip
 ·obtain rfl:=List.mem_singleton.mp hFa;exact ⟨_,_,_,cl,c1,ctv1,_,A,hcl,hcf,gF1,gc1,hf⟩
theorem zqo{pa:Arguments}{b:Expr}{s:Scope}{f1:De}(A:zga X C.xv k pa b s f1)(cb:zsY X xr xc xl ci scope N' p2 p3 p5){l1 q4 q5 q6 q7:Pos}(a:znC X xl pa b s l1 q4 q5 q6 q7)(hl:l<9)(hj:Z[j]? = some (some (.tab (X.env.qual++"<lambda>"))))(hf:f1 (zcL Z)=.er n) :
  PS X (.Expr (.Call (.Attribute (.Name xl q4) "append" q5) [.Lambda pa b s l1] [] q6) q7) λD Y H=>CS X C k n ci Z G0 H0 w l Y H/\∀ Y' H',CS X C k n ci Z G0 H0 w (l+1) Y' H'->D.nx Y' H':=by
 intro pS s' Y H D I ⟨⟨p,G,Fs,el,hs,r,st,h0,hC0,hp,gp,wp,hF⟩,kx⟩;obtain ⟨cl,hclos,hcl,hcf⟩:=zdp (scope:=s) (env:=X.env) λy hy hf=>I.ok.has y.1 (A.hfr y hy hf);refine zop (zp6 PySem.F.plainAttrs_list PySem.F.slot_list_append PySem.F.type_list_append zhb (zcb (i:=ci) cb.hci cb.hvl cb.hdl cb.hdm) (zbk (zqF LB A.hdef hclos) zcR a.hse) a.hba a.hfw a.hln a.hse a.hpl) a.hsw pS s' Y H D I ?_;unfold zsb zuv tBM;refine ⟨.ref p,hs,.inl ⟨rfl,_,SqL.of hp⟩,?_⟩;refine zlT r hj (by rw[r.pin j hjp];exact hσ0) λF2 c2 ctv2 G2 H3 r3 st3 gF2 gc2=>?_;have k3:=st3.keep gp wp hp;refine ⟨p,Fs.map V.ref,.ref F2,rfl,rfl,k3.2.2,?_,kx _ _ ⟨p,G2,Fs++[F2],by simp[el],hs,r3.upd_new k3.1 wp hC0,(st.trans st3).upd h0,h0,hC0,?_,k3.1,wp,λFa hFa=>?_⟩⟩
 ·rw[List.length_map,el,zeH];lia
 ·rw[List.map_append];exact zan
 ·rcases wax.mp hFa with z|z
  ·exact (hF Fa z).same st3.g
  ·obtain rfl:=List.mem_singleton.mp z;exact ⟨_,_,_,cl,c2,ctv2,_,A,hcl,hcf,gF2,gc2,hf⟩
variable(cls:Nat->Addr)(hxv:∀ n,n<8->C.xv n=.ref (cls n))(hfn:X.fn=λ_=>true)
 (Fu:Fun X.K xq xr st f fd) (S:zau NR ["call"] (zah st)) (hNR:NR.length=m+1) (hbi:zfw X.K fd ["call"] []) (hm:X.mg xr=some (.ref f)) (hr:zd5 (k+2) X.A) (hu:X.A.units+64<cLine)
 (hB:∀(C:Cn),(∀ n,n<8->C.xv n=.ref (cls n))->HB X C xr st f NR k cls dB) (hden:HD m dB)
include hxv hfn Fu S hNR hbi hm hr hu hB hden
omit LB hjp hσ0 in
end
end PV
end
section
end
section
namespace Ts
open PySem PyProof.Rows
section
variable{prog:Program}{w:World}{A:Around}{E:Value->Shared->Prop}{s:Shared}
def Cp(prog:Program)(w:World)(A:Around)(s:Shared)(kd:SortKind)(P:Keyed->Prop)(r:Keyed->Int):Prop :=
 ∀(E:Value->Shared->Prop)(x y:Keyed)(st:SortSt)(Q:Option Bool->SortSt->Prop),P x->P y->kindOf st=kd->Q (some (decide (r x<r y))) st->wpS (model prog w) A E s (lt' x y) Q st
theorem zlN{arr:Array Keyed}{i:Nat}{x:Keyed}{st:SortSt}{Q:Keyed->SortSt->Prop}(h:arr[i]? = some x)(q:Q x st):wpS (model prog w) A E s (elem' arr i) Q st:=by rw[elem'_eq,h];exact waE q
end
section
variable{prog:Program}{w:World}{A:Around}{E:Value->Shared->Prop}{s:Shared}
theorem ziM{x:String}{st:SortSt}{Q:Unit->SortSt->Prop}(h:Q () st):wpS (model prog w) A E s (liftM (rule x):StateT SortSt Sem Unit) Q st:=wpS_lift (wpAny_rule ⟨rfl,h⟩)
theorem zbD{c:Prop} [Decidable c] {α:Type} {m n:StateT SortSt Sem α} {st:SortSt} {Q:α->SortSt->Prop} (h1:c->wpS (model prog w) A E s m Q st) (h2:¬ c->wpS (model prog w) A E s n Q st):wpS (model prog w) A E s (if c then m else n) Q st:=by
 by_cases h:c
 ·rw[if_pos h];exact h1 h
 ·rw[if_neg h];exact h2 h
end
def rk(r:Keyed->Int)(a:Array Keyed)(i:Nat):Int:=match a[i]? with
 |some x=>r x
 |none=>0
theorem ze0{r:Keyed->Int}{a b:Array Keyed}{i j:Nat}(h:a[i]? = b[j]?):rk r a i=rk r b j:=by unfold rk;rw[h]
def SIn(r:Keyed->Int)(a:Array Keyed)(lo n:Nat):Prop:=∀ i j,lo<=i->i<=j->j<lo+n->rk r a i<=rk r a j
section
variable{prog:Program}{w:World}{A:Around}{E:Value->Shared->Prop}{s:Shared}
theorem znB{kd:SortKind}{P:Keyed->Prop}{r:Keyed->Int}(C:Cp prog w A s kd P r){st:SortSt}{i j:Nat}{Q:Option Bool->SortSt->Prop}(hk:kindOf st=kd)(hP:∀ x∈(arrOf st).toList,P x)(hi:i<(arrOf st).size)(hj:j<(arrOf st).size)(q:Q (some (decide (rk r (arrOf st) i<rk r (arrOf st) j))) st):wpS (model prog w) A E s (ltAt' i j) Q st:=by
 have at_:∀ j,j<(arrOf st).size->∃ x,(arrOf st)[j]? = some x/\P x:=λj hj=>by
  have e:(arrOf st).toList[j]? = some ((arrOf st)[j]'hj):=by rw[Array.getElem?_toList];exact getElem?_pos (arrOf st) j hj
  exact ⟨_,getElem?_pos (arrOf st) j hj,hP _ (waI e)⟩
 obtain ⟨x,x1,xP⟩:=at_ i hi;obtain ⟨y,y1,yP⟩:=at_ j hj;unfold rk at q;rw[x1,y1] at q;unfold ltAt';refine waD (wpS_get ?_);exact waD (zlN x1 (waD (zlN y1 (C E x y st Q xP yP hk q))))
theorem zg2{kd:SortKind}{P:Keyed->Prop}{r:Keyed->Int}(C:Cp prog w A s kd P r){st:SortSt}{lo n ok:Nat}{Q:Bool->SortSt->Prop}(hk:kindOf st=kd)(hP:∀ x∈(arrOf st).toList,P x)(hn:lo+n<=(arrOf st).size)(hok:ok<=n)(h1:1<=n)(hs:SIn r (arrOf st) lo ok)
  (h:∀ a':Array Keyed,a'.Perm (arrOf st)->(∀ i,i<lo\/lo+n<=i->a'[i]? = (arrOf st)[i]?)->SIn r a' lo n->Q true (setArr st a')):wpS (model prog w) A E s (binarySort' lo n ok) Q st:=by
 unfold binarySort';refine waD (wpS_mono (Q:=λc st'=>∃ a':Array Keyed,c.1=none/\st'=setArr st a'/\a'.Perm (arrOf st)/\(∀ i,i<lo\/lo+n<=i->a'[i]? = (arrOf st)[i]?)/\SIn r a' lo n) (wpS_forRange (I:=λk c st'=>∃ a':Array Keyed,c=(none,())/\st'=setArr st a'/\a'.Perm (arrOf st)/\(∀ i,i<lo\/lo+n<=i->a'[i]? = (arrOf st)[i]?)/\SIn r a' lo k) ?_ ?_ ?_) ?_)
 ·rintro k c st' hk1 hkn ⟨a',rfl,rfl,pm,out,so⟩;have sz:a'.size=(arrOf st).size:=pm.size_eq;have hP':∀ x∈a'.toList,P x:=λx hx=>hP x ((Array.perm_iff_toList_perm.mp pm).mem_iff.mp hx)
  try dsimp only
  refine waD (wpS_mono (Q:=λc st'=>st'=setArr st a'/\∃ l rr,c=(none,l,rr)/\l<=k/\(∀ i,i<l->rk r a' (lo+i)<=rk r a' (lo+k))/\∀ i,l<=i->i<k->rk r a' (lo+k)<rk r a' (lo+i)) (wpS_forRange (I:=λt c st'=>st'=setArr st a'/\∃ l rr,c=(none,l,rr)/\l<=rr/\rr<=k/\rr-l+t<=k/\(∀ i,i<l->rk r a' (lo+i)<=rk r a' (lo+k))/\∀ i,rr<=i->i<k->rk r a' (lo+k)<rk r a' (lo+i)) ?_ ?_ ⟨rfl,0,k,rfl,xwl,xwl,xwl,λi hi=>by lia,λi hi hi'=>by lia⟩) ?_)
  ·rintro t c st2 _ ht ⟨rfl,l,rr,rfl,g1,g2,g3,g4,g5⟩;dsimp only;refine zbD (λc1=>?_) (λc1=>?_)
   ·exact waE ⟨rfl,l,rr,rfl,xwl,g4,λi hi hi'=>g5 i xwl hi'⟩
   ·refine waD (znB C (st:=setArr st a') hk hP' (show lo+k<a'.size by lia) (show lo+(l+rr) / 2<a'.size by lia) ?_);dsimp only;have ea:arrOf (setArr st a')=a':=rfl;rw[ea];by_cases hlt:rk r a' (lo+k)<rk r a' (lo+(l+rr) / 2)
    ·rw[if_pos (decide_eq_true hlt)];refine waE ⟨rfl,l,(l+rr) / 2,rfl,xwl,xwl,xwl,g4,λi hi hi'=>?_⟩;have:=so (lo+(l+rr) / 2) (lo+i) xwl xwl xwl;lia
    ·rw[if_neg (by simpa using hlt)];refine waE ⟨rfl,(l+rr) / 2+1,rr,rfl,xwl,xwl,xwl,λi hi=>?_,g5⟩;have:=so (lo+i) (lo+(l+rr) / 2) xwl xwl xwl;lia
  ·rintro c st2 ⟨rfl,l,rr,rfl,g1,g2,g3,g4,g5⟩;exact ⟨rfl,l,rr,rfl,xwl,g4,λi hi hi'=>g5 i xwl hi'⟩
  ·rintro c st2 ⟨rfl,l,rr,rfl,g1,g4,g5⟩;dsimp only;refine waD (wpS_modify ?_);have hb:∀ i,(bubble a' (lo+k) (lo+k-(lo+l)))[i]? = if i=lo+l then a'[lo+k]? else if lo+l<i/\i<=lo+k then a'[i-1]? else a'[i]? := λi=>by rw[getElem?_bubble xwl _ xwl,show lo+k-(lo+k-(lo+l))=lo+l by lia]
   refine waE ⟨bubble a' (lo+k) (lo+k-(lo+l)),rfl,rfl,(bubble_perm _ _ _).trans pm,λi hi=>?_,λi j hi hij hj=>?_⟩
   ·rw[hb i,if_neg xwl,if_neg xwl];exact out i hi
   ·have v:∀ i,lo<=i->i<lo+(k+1)->rk r (bubble a' (lo+k) (lo+k-(lo+l))) i=if i=lo+l then rk r a' (lo+k) else if lo+l<i then rk r a' (i-1) else rk r a' i:=λi h1 h2=>by
     unfold rk;rw[hb i];by_cases z1:i=lo+l
     ·rw[if_pos z1,if_pos z1]
     ·rw[if_neg z1,if_neg z1];by_cases z2:lo+l<i
      ·rw[if_pos ⟨z2,xwl⟩,if_pos z2]
      ·rw[if_neg xwl,if_neg z2]
    rw[v i hi xwl,v j xwl hj];by_cases z1:i=lo+l
    ·rw[if_pos z1];by_cases z2:j=lo+l
     ·rw[if_pos z2];exact Int.le_refl _
     ·rw[if_neg z2,if_pos xwl];have:=g5 (j-1-lo) xwl xwl;rw[show lo+(j-1-lo)=j-1 by lia] at this;lia
    ·rw[if_neg z1];by_cases z3:lo+l<i
     ·rw[if_pos z3,if_neg xwl,if_pos xwl];exact so (i-1) (j-1) xwl xwl xwl
     ·rw[if_neg z3];by_cases z2:j=lo+l
      ·rw[if_pos z2];have:=g4 (i-lo) xwl;rw[show lo+(i-lo)=i by lia] at this;exact this
      ·rw[if_neg z2];by_cases z4:lo+l<j
       ·rw[if_pos z4];exact so i (j-1) hi xwl xwl
       ·rw[if_neg z4];exact so i j hi hij xwl
 ·rintro c st' ⟨a',rfl,rfl,pm,out,so⟩;rw[show max (max ok 1) n=n by lia] at so;exact ⟨a',rfl,rfl,pm,out,so⟩
 ·refine ⟨arrOf st,rfl,rfl,.refl _,λi _=>rfl,λi j hi hij hj=>?_⟩;by_cases z:1<=ok
  ·exact hs i j hi hij xwl
  ·have:i=j:=by lia
   subst this;exact Int.le_refl _
 ·rintro ⟨c1,c⟩ st' ⟨a',e,rfl,pm,out,so⟩;dsimp only at e ⊢;subst e;exact waE (h a' pm out so)
end
def mir(a:Array Keyed)(i j:Nat):Array Keyed:=mirror a i j ((j-i) / 2)
structure Kp(b:Array Keyed)(lo hi:Nat)(a:Array Keyed):Prop where
 pm:a.Perm b
 out:∀ i,i<lo\/hi<=i->a[i]? = b[i]?
def DIn(r:Keyed->Int)(a:Array Keyed)(lo n:Nat):Prop:=∀ i j,lo<=i->i<=j->j<lo+n->rk r a j<=rk r a i
variable{r:Keyed->Int}
theorem Kp.size{b a:Array Keyed}{lo hi:Nat}(h:Kp b lo hi a):a.size=b.size:=h.pm.size_eq
theorem zjP{a:Array Keyed}{i j:Nat}(hj:j<=a.size)(k:Nat):(mir a i j)[k]? = if i<=k/\k<j then a[i+j-1-k]? else a[k]? := getElem?_mirror_all hj k
theorem Kp.mir{b a:Array Keyed}{lo hi i j:Nat}(h:Kp b lo hi a)(hi':lo<=i)(hj:j<=hi)(hs:hi<=b.size):Kp b lo hi (mir a i j) :=
 ⟨(mirror_perm _ _ _ _).trans h.pm,λk hk=>by rw[zjP (by rw[h.size];lia),if_neg xwl];exact h.out k hk⟩
theorem zfx{a:Array Keyed}{i j:Nat}(hj:j<=a.size)(he:∀ k,i<=k->k<j->rk r a k=rk r a (j-1))(k:Nat):rk r (mir a i j) k=rk r a k:=by
 by_cases z:i<=k/\k<j
 ·rw[ze0 (r:=r) (a:=mir a i j) (b:=a) (i:=k) (j:=i+j-1-k) (by rw[zjP hj,if_pos z]),he _ xwl xwl,he k z.1 z.2]
 ·exact ze0 (by rw[zjP hj,if_neg z])
theorem zgn{a:Array Keyed}{lo n:Nat}(hj:lo+n<=a.size)(h:DIn r a lo n):SIn r (mir a lo (lo+n)) lo n:=λi j hi hij hj'=>by rw[ze0 (r:=r) (a:=mir a lo (lo+n)) (b:=a) (i:=i) (j:=lo+(lo+n)-1-i) (by rw[zjP hj,if_pos xwl]),ze0 (r:=r) (a:=mir a lo (lo+n)) (b:=a) (i:=j) (j:=lo+(lo+n)-1-j) (by rw[zjP hj,if_pos xwl])];exact h _ _ xwl xwl xwl
section
variable{prog:Program}{w:World}{A:Around}{E:Value->Shared->Prop}{s:Shared}
theorem zd7{st:SortSt}{a:Array Keyed}{i j:Nat}{Q:Unit->SortSt->Prop}(h:Q () (setArr st (mir a i j))):wpS (model prog w) A E s (reverseSlice' i j) Q (setArr st a):=by rw[reverseSlice'_eq];exact wpS_modify h
theorem zi9{kd:SortKind}{P:Keyed->Prop}(C:Cp prog w A s kd P r){st:SortSt}{lo nrem:Nat}{b:Array Keyed}(eb:arrOf st=b){Q:Option Nat->SortSt->Prop}(hk:kindOf st=kd)(hP:∀ x∈b.toList,P x)(hn:lo+nrem<=b.size)(h1:1<=nrem)
  (h:∀(a:Array Keyed)(n:Nat),Kp b lo (lo+nrem) a->1<=n->n<=nrem->SIn r a lo n->Q (some n) (setArr st a)):wpS (model prog w) A E s (countRun' lo nrem) Q st:=by
 have lt:∀ a,Kp b lo (lo+nrem) a->∀ i j,i<lo+nrem->j<lo+nrem->∀{Q:Option Bool->SortSt->Prop},Q (some (decide (rk r a i<rk r a j))) (setArr st a)->wpS (model prog w) A E s (ltAt' i j) Q (setArr st a):=λa ka i j hi hj Q q =>
  znB C (st:=setArr st a) hk (λx hx=>hP x ((Array.perm_iff_toList_perm.mp ka.pm).mem_iff.mp hx)) (show i<a.size by rw[ka.size];lia) (show j<a.size by rw[ka.size];lia) q
 have asc:∀ a,Kp b lo (lo+nrem) a->∀ n0,1<=n0->n0<=nrem->SIn r a lo n0->∀(f:Nat->Option (Option Nat)×Nat->StateT SortSt Sem (ForInStep (Option (Option Nat)×Nat))),(∀ x n,1<=n->n<nrem->∀ Q:ForInStep (Option (Option Nat)×Nat)->SortSt->Prop,Q (if rk r a (lo+n)<rk r a (lo+n-1) then .done (none,n) else .yield (none,n+1)) (setArr st a)->wpS (model prog w) A E s (f x (none,n)) Q (setArr st a)) ->
   ∀ Q:Option (Option Nat)×Nat->SortSt->Prop,(∀ n,n0<=n->n<=nrem->SIn r a lo n->(n=nrem\/rk r a (lo+n)<rk r a (lo+n-1))->Q (none,n) (setArr st a))->wpS (model prog w) A E s (forIn [n0:nrem] (none,n0) f) Q (setArr st a):=by
  intro a ka n0 h1 h2 so f hf Q hQ;refine wpS_forRange (I:=λx c st'=>st'=setArr st a/\c=(none,x)/\SIn r a lo x) ?_ ?_ ⟨rfl,rfl,so⟩
  ·rintro x c st' hx hxn ⟨rfl,rfl,so⟩;refine hf x x xwl hxn _ ?_;by_cases z:rk r a (lo+x)<rk r a (lo+x-1)
   ·rw[if_pos z];exact hQ x hx xwl so (.inr z)
   ·rw[if_neg z];refine ⟨rfl,rfl,λi j hi hij hj=>?_⟩;by_cases hjx:j<lo+x
    ·exact so i j hi hij hjx
    ·by_cases e:i=j
     ·subst e;exact Int.le_refl _
     ·have:=so i (lo+x-1) hi xwl xwl;have ej:j=lo+x:=by lia
      subst ej;lia
  ·rintro c st' ⟨rfl,rfl,so⟩;rw[show max n0 nrem=nrem by lia] at so ⊢;exact hQ nrem h2 (wal _) so (.inl rfl)
 have fstep:∀ a,Kp b lo (lo+nrem) a->∀ n,1<=n->n<nrem->∀ Q:ForInStep (Option (Option Nat)×Nat)->SortSt->Prop,Q (if rk r a (lo+n)<rk r a (lo+n-1) then .done (none,n) else .yield (none,n+1)) (setArr st a)->∀ g:Option Bool->StateT SortSt Sem (ForInStep (Option (Option Nat)×Nat)),(∀ c,g (some c)=if c=true then pure (.done (none,n)) else pure (.yield (none,n+1)))->wpS (model prog w) A E s (ltAt' (lo+n) (lo+n-1) >>= g) Q (setArr st a):=λa ka n h1 h2 Q q g hg=>by
  refine waD (lt a ka _ _ xwl xwl ?_);rw[hg];by_cases z:rk r a (lo+n)<rk r a (lo+n-1)
  ·rw[if_pos z] at q;rw[if_pos (decide_eq_true z)];exact waE q
  ·rw[if_neg z] at q;rw[if_neg (by simpa using z)];exact waE q
 have k0:Kp b lo (lo+nrem) (arrOf st):=by rw[eb];exact ⟨.refl _,λ_ _=>rfl⟩
 have s1:∀ a,SIn r a lo 1:=λa i j hi hij hj=>by
  have:i=j:=by lia
  subst this;exact Int.le_refl _
 unfold countRun';show wpS _ _ _ _ _ _ (setArr st (arrOf st));generalize arrOf st=a0 at k0 ⊢;refine waD (asc a0 k0 1 (wal _) h1 (s1 a0) _ (λx n h1 h2 Q q=>fstep a0 k0 n h1 h2 Q q _ λc=>rfl) _ λn g1 g2 so cs=>?_);dsimp only;refine zbD (λc1=>?_) (λc1=>?_)
 ·exact waE (h a0 n k0 g1 g2 so)
 rw[beq_iff_eq] at c1;have cs:rk r a0 (lo+n)<rk r a0 (lo+n-1):=cs.resolve_left c1;have dstep:∀(a:Array Keyed)(x:Nat),1<=x->DIn r a lo x->rk r a (lo+x)<=rk r a (lo+x-1)->DIn r a lo (x+1):=λa x h1 dd hl i j hi hij hj=>by
  by_cases z:j<lo+x
  ·exact dd i j hi hij z
  ·by_cases e:i=j
   ·subst e;exact Int.le_refl _
   ·have:=dd i (lo+x-1) hi xwl xwl;have ej:j=lo+x:=by lia
    subst ej;lia
 refine zbD (λc2=>?_) (λc2=>?_)
 ·refine waD (lt a0 k0 _ _ xwl xwl ?_);dsimp only;refine zbD (λc3=>?_) (λc3=>?_)
  ·exact waE (h a0 n k0 g1 g2 so)
  have c3':¬ rk r a0 lo<rk r a0 (lo+n-1):=λz=>c3 (wat z);have eqs:∀ k,lo<=k->k<lo+n->rk r a0 k=rk r a0 (lo+n-1):=λk h h'=>by have u:=so lo k (wal _) h h';have v:=so k (lo+n-1) h xwl xwl;lia
  refine waD (zd7 ?_);have sm:=zfx (r:=r) (a:=a0) (i:=lo) (j:=lo+n) (by rw[k0.size];lia) eqs;have k1:=k0.mir (i:=lo) (j:=lo+n) (wal _) xwl hn;have d1:DIn r (mir a0 lo (lo+n)) lo (n+1):=λi j hi hij hj=>by rw[sm,sm];refine dstep a0 n g1 (λi j hi hij hj=>?_) xwl i j hi hij hj;rw[eqs i hi xwl,eqs j xwl hj];exact Int.le_refl _
  generalize mir a0 lo (lo+n)=a1 at k1 d1 ⊢;refine waD (ziM ?_);refine waD (wpS_mono (Q:=λc st'=>∃ a x neq,c=(none,x,neq)/\st'=setArr st a/\Kp b lo (lo+nrem) a/\1<=x/\x<=nrem/\neq+1<=x/\DIn r a lo x/\∀ k,lo+x-(neq+1)<=k->k<lo+x->rk r a k=rk r a (lo+x-1)) (wpS_forRange (I:=λx c st'=>∃ a neq,c=(none,x,neq)/\st'=setArr st a/\Kp b lo (lo+nrem) a/\neq+1<=x/\DIn r a lo x/\∀ k,lo+x-(neq+1)<=k->k<lo+x->rk r a k=rk r a (lo+x-1)) ?_ ?_ ⟨a1,0,rfl,rfl,k1,xwl,d1,λk h h'=>by rw[show k=lo+(n+1)-1 by lia]⟩) ?_)
  ·rintro x c st' hx hxn ⟨a,neq,rfl,rfl,ka,q1,dd,ee⟩;dsimp only;have sz:=ka.size;refine waD (lt a ka (lo+x) (lo+x-1) xwl xwl ?_);dsimp only;refine zbD (λc5=>?_) (λc5=>?_)
   ·have c5':=of_decide_eq_true c5;refine zbD (λc6=>?_) (λc6=>?_)
    ·refine waD (zd7 (waE ?_));have sm:=zfx (r:=r) (a:=a) (i:=lo+x-(neq+1)) (j:=lo+x) xwl ee;refine ⟨_,0,rfl,rfl,ka.mir xwl xwl hn,xwl,λi j hi hij hj=>?_,λk h h'=>by rw[show k=lo+(x+1)-1 by lia]⟩;rw[sm,sm];exact dstep a x xwl dd xwl i j hi hij hj
    ·exact waE ⟨a,0,rfl,rfl,ka,xwl,dstep a x xwl dd xwl,λk h h'=>by rw[show k=lo+(x+1)-1 by lia]⟩
   ·have c5':¬ rk r a (lo+x)<rk r a (lo+x-1):=λz=>c5 (wat z);refine waD (lt a ka (lo+x-1) (lo+x) xwl xwl ?_);dsimp only;refine zbD (λc8=>?_) (λc8=>?_)
    ·exact waE ⟨a,x,neq,rfl,rfl,ka,xwl,xwl,q1,dd,ee⟩
    ·have c8':¬ rk r a (lo+x-1)<rk r a (lo+x):=λz=>c8 (wat z);refine waE ⟨a,neq+1,rfl,rfl,ka,xwl,dstep a x xwl dd xwl,λk h h'=>?_⟩;rw[show lo+(x+1)-1=lo+x by lia];by_cases z:k=lo+x
     ·rw[z]
     ·have:=ee k xwl xwl;lia
  ·rintro c st' ⟨a,neq,rfl,rfl,ka,q1,dd,ee⟩;rw[show max (n+1) nrem=nrem by lia] at q1 dd ee ⊢;exact ⟨a,nrem,neq,rfl,rfl,ka,h1,wal _,q1,dd,ee⟩
  ·rintro c st' ⟨a,x,neq,rfl,rfl,ka,q0,q1,q2,dd,ee⟩;dsimp only;have sz:=ka.size;refine zbD (λc7=>?_) (λc7=>?_)
   ·have sm:=zfx (r:=r) (a:=a) (i:=lo+x-(neq+1)) (j:=lo+x) xwl ee;refine waD (zd7 (waD (zd7 ?_)));have ka':=ka.mir (i:=lo+x-(neq+1)) (j:=lo+x) xwl xwl hn;have dd':DIn r (mir a (lo+x-(neq+1)) (lo+x)) lo x:=λi j hi hij hj=>by rw[sm,sm];exact dd i j hi hij hj
    generalize mir a (lo+x-(neq+1)) (lo+x)=a2 at ka' dd' ⊢;have k3:=ka'.mir (i:=lo) (j:=lo+x) (wal _) xwl hn;have so3:=zgn (by rw[ka'.size];lia) dd';generalize mir a2 lo (lo+x)=a3 at k3 so3 ⊢;refine waD (asc a3 k3 x q0 q1 so3 _ (λy n h1 h2 Q q=>fstep a3 k3 n h1 h2 Q q _ λc=>rfl) _ λn g1 g2 so cs=>?_);exact waE (h a3 n k3 xwl g2 so)
   ·refine waD (zd7 ?_);have k3:=ka.mir (i:=lo) (j:=lo+x) (wal _) xwl hn;have so3:=zgn (by rw[ka.size];lia) dd;generalize mir a lo (lo+x)=a3 at k3 so3 ⊢;refine waD (asc a3 k3 x q0 q1 so3 _ (λy n h1 h2 Q q=>fstep a3 k3 n h1 h2 Q q _ λc=>rfl) _ λn g1 g2 so cs=>?_);exact waE (h a3 n k3 xwl g2 so)
 ·have k1:=k0;have d1:DIn r a0 lo (n+1):=dstep a0 n g1 (λi j hi hij hj=>by
   have:i=j:=by lia
   subst this;exact Int.le_refl _) xwl
  generalize a0=a1 at k1 d1 ⊢;refine waD (ziM ?_);refine waD (wpS_mono (Q:=λc st'=>∃ a x neq,c=(none,x,neq)/\st'=setArr st a/\Kp b lo (lo+nrem) a/\1<=x/\x<=nrem/\neq+1<=x/\DIn r a lo x/\∀ k,lo+x-(neq+1)<=k->k<lo+x->rk r a k=rk r a (lo+x-1)) (wpS_forRange (I:=λx c st'=>∃ a neq,c=(none,x,neq)/\st'=setArr st a/\Kp b lo (lo+nrem) a/\neq+1<=x/\DIn r a lo x/\∀ k,lo+x-(neq+1)<=k->k<lo+x->rk r a k=rk r a (lo+x-1)) ?_ ?_ ⟨a1,0,rfl,rfl,k1,xwl,d1,λk h h'=>by rw[show k=lo+(n+1)-1 by lia]⟩) ?_)
  ·rintro x c st' hx hxn ⟨a,neq,rfl,rfl,ka,q1,dd,ee⟩;dsimp only;have sz:=ka.size;refine waD (lt a ka (lo+x) (lo+x-1) xwl xwl ?_);dsimp only;refine zbD (λc5=>?_) (λc5=>?_)
   ·have c5':=of_decide_eq_true c5;refine zbD (λc6=>?_) (λc6=>?_)
    ·refine waD (zd7 (waE ?_));have sm:=zfx (r:=r) (a:=a) (i:=lo+x-(neq+1)) (j:=lo+x) xwl ee;refine ⟨_,0,rfl,rfl,ka.mir xwl xwl hn,xwl,λi j hi hij hj=>?_,λk h h'=>by rw[show k=lo+(x+1)-1 by lia]⟩;rw[sm,sm];exact dstep a x xwl dd xwl i j hi hij hj
    ·exact waE ⟨a,0,rfl,rfl,ka,xwl,dstep a x xwl dd xwl,λk h h'=>by rw[show k=lo+(x+1)-1 by lia]⟩
   ·have c5':¬ rk r a (lo+x)<rk r a (lo+x-1):=λz=>c5 (wat z);refine waD (lt a ka (lo+x-1) (lo+x) xwl xwl ?_);dsimp only;refine zbD (λc8=>?_) (λc8=>?_)
    ·exact waE ⟨a,x,neq,rfl,rfl,ka,xwl,xwl,q1,dd,ee⟩
    ·have c8':¬ rk r a (lo+x-1)<rk r a (lo+x):=λz=>c8 (wat z);refine waE ⟨a,neq+1,rfl,rfl,ka,xwl,dstep a x xwl dd xwl,λk h h'=>?_⟩;rw[show lo+(x+1)-1=lo+x by lia];by_cases z:k=lo+x
     ·rw[z]
     ·have:=ee k xwl xwl;omega
  ·rintro c st' ⟨a,neq,rfl,rfl,ka,q1,dd,ee⟩;rw[show max (n+1) nrem=nrem by omega] at q1 dd ee ⊢;exact ⟨a,nrem,neq,rfl,rfl,ka,h1,wal _,q1,dd,ee⟩
  ·rintro c st' ⟨a,x,neq,rfl,rfl,ka,q0,q1,q2,dd,ee⟩;dsimp only;have sz:=ka.size;refine zbD (λc7=>?_) (λc7=>?_)
   ·have sm:=zfx (r:=r) (a:=a) (i:=lo+x-(neq+1)) (j:=lo+x) xwo ee;refine waD (zd7 (waD (zd7 ?_)));have ka':=ka.mir (i:=lo+x-(neq+1)) (j:=lo+x) xwl xwl hn;have dd':DIn r (mir a (lo+x-(neq+1)) (lo+x)) lo x:=λi j hi hij hj=>by rw[sm,sm];exact dd i j hi hij hj
    generalize mir a (lo+x-(neq+1)) (lo+x)=a2 at ka' dd' ⊢;have k3:=ka'.mir (i:=lo) (j:=lo+x) (wal _) xwl hn;have so3:=zgn (by rw[ka'.size];lia) dd';generalize mir a2 lo (lo+x)=a3 at k3 so3 ⊢;refine waD (asc a3 k3 x q0 q1 so3 _ (λy n h1 h2 Q q=>fstep a3 k3 n h1 h2 Q q _ λc=>rfl) _ λn g1 g2 so cs=>?_);exact waE (h a3 n k3 xwo g2 so)
   ·refine waD (zd7 ?_);have k3:=ka.mir (i:=lo) (j:=lo+x) (wal _) xwo hn;have so3:=zgn (by rw[ka.size];omega) dd;generalize mir a lo (lo+x)=a3 at k3 so3 ⊢;refine waD (asc a3 k3 x q0 q1 so3 _ (λy n h1 h2 Q q=>fstep a3 k3 n h1 h2 Q q _ λc=>rfl) _ λn g1 g2 so cs=>?_);exact waE (h a3 n k3 xwo g2 so)
end
variable{r:Keyed->Int}
inductive zky(r:Keyed->Int)(a:Array Keyed):List (Nat×Nat×Nat)->Nat->Nat->Prop
 |nil {s:Nat}:zky r a [] s s
 |cons {s n p e:Nat} {l:List (Nat×Nat×Nat)} (h1:1<=n) (hs:SIn r a s n) (t:zky r a l (s+n) e):zky r a ((s,n,p)::l) s e
theorem zky.le{a:Array Keyed}:∀{l:List (Nat×Nat×Nat)}{s e:Nat},zky r a l s e->s+l.length<=e
 |[],_,_,.nil=>by simp
 |_::_,_,_,.cons h1 hs t=>by have:=t.le;simp;lia
theorem SIn.same{a a':Array Keyed}{lo n:Nat}(h:SIn r a lo n)(e:∀ i,lo<=i->i<lo+n->a'[i]? = a[i]?):SIn r a' lo n:=λi j hi hij hj=>by rw[ze0 (e i hi xwl),ze0 (e j xwl hj)];exact h i j hi hij hj
theorem zky.same{a a':Array Keyed}:∀{l:List (Nat×Nat×Nat)}{s e:Nat},zky r a l s e->(∀ i,s<=i->i<e->a'[i]? = a[i]?)->zky r a' l s e
 |[],_,_,.nil,_=>.nil
 |_::_,_,_,.cons h1 hs t,h=>.cons h1 (hs.same λi g1 g2=>h i g1 (by have:=t.le;lia)) (t.same λi g1 g2=>h i xwl g2)
theorem zky.join{a:Array Keyed}:∀{l m:List (Nat×Nat×Nat)}{s k e:Nat},zky r a l s k->zky r a m k e->zky r a (l++m) s e
 |[],_,_,_,_,.nil,h=>h
 |_::_,_,_,_,_,.cons h1 hs t,h=>.cons h1 hs (t.join h)
theorem zky.snoc{a:Array Keyed}{l:List (Nat×Nat×Nat)}{s e n p:Nat}(h:zky r a l s e)(h1:1<=n)(hs:SIn r a e n):zky r a (l++[(e,n,p)]) s (e+n):=h.join (.cons h1 hs .nil)
section
variable{prog:Program}{w:World}{A:Around}{E:Value->Shared->Prop}{s:Shared}
structure Sg(kd:SortKind)(r:Keyed->Int)(b:Array Keyed)(lo:Nat)(st:SortSt):Prop where
 kd:kindOf st=kd
 ok:failedOf st=none
 pm:(arrOf st).Perm b
 rs:zky r (arrOf st) (pendingOf st).toList 0 lo
end
end Ts
end
section
namespace Ts
open PySem PySem.W PyProof.Rows
inductive IL:List Value->List Int->Prop
 |nil:IL [] []
 |cons {a:Int} {t:Tok} {vs:List Value} {l:List Int} (h:IL vs l):IL (.int a t::vs) (a::l)
theorem IL.len{vs:List Value}{l:List Int}(h:IL vs l):vs.length=l.length:=by
 induction h with
 |nil=>rfl
 |cons h ih=>simp[ih]
def lxB:List Int->List Int->Bool
 |[],[]=>false
 |[],_::_=>true
 |_::_,[]=>false
 |x::xs,y::ys=>if x=y then lxB xs ys else decide (x<y)
section
variable{prog:Program}{w:World}{A:Around}{E:Value->Shared->Prop}{s:Shared}
theorem zoZ{c:Bool}{a b:Int}{t u:Tok}{Q:Bool->Shared->Prop}(h:Q (decide (a<b)) s):wpAny (model prog w) A (oneLt' c (.int a t) (.int b u)) Q E s:=by
 cases c with
 |true=>exact oneLt_int h
 |false =>
  rw[oneLt'_eq];simp only[Bool.false_eq_true,if_false];exact wab (richCompare_gives (op:=.Lt) (typeIs_int s _ t) (typeIs_int s _ u) PySem.F.slot_int_lt PySem.F.entry_int_lt (PySem.F.args_int_lt_2 _ _) (gives_int_lt _ _ t u) (λx=>nomatch x) (wpAny_truthy_bool h))
theorem zoK{c:Bool}{Q:Bool->Shared->Prop}{xs:List Value}{l:List Int}(hx:IL xs l):∀{ys:List Value}{m:List Int}{i:Nat}{fin:Bool},IL ys m->fin=decide (l.length<m.length)->Q (lxB l m) s->KatLex prog w A c fin Q (xs.zip ys) i s:=by
 induction hx with
 |nil =>
  intro ys m i fin hy hf q;rw[List.zip_nil_left];refine kat_nil ?_;cases hy with
  |nil=>rw[hf];exact q
  |cons h=>rw[hf];simpa [lxB] using q
 |@cons a t vs l h ih =>
  intro ys m i fin hy hf q;cases hy with
  |nil=>rw[List.zip_nil_right];refine kat_nil ?_;rw[hf];simpa [lxB] using q
  |@cons b u ws k h' =>
   rw[List.zip_cons_cons];refine kat_cons (wpAny_eqBool_int (kat_go (λe=>kat_yes (ih h' (by rw[hf];simp) ?_)) λe=>kat_no (zoZ ?_)))
   ·rw[beq_iff_eq] at e;unfold lxB at q;rw[if_pos e] at q;exact q
   ·have e':¬ a=b:=by simpa using e
    unfold lxB at q;rw[if_neg e'] at q;exact q
theorem zkP{c:Bool}{st:SortSt}{p q:Keyed}{x y:Addr}{ox oy:Obj}{xs ys:Array Value}{n k:Nat}{l m:List Int}{Q:Option Bool->SortSt->Prop}(hk:kindOf st=tuples' c)(px:p.1=.ref x)(py:q.1=.ref y)(hx:s.heap.get? x=some ox)(dx:ox.data=.seq xs n)(hy:s.heap.get? y=some oy)(dy:oy.data=.seq ys k)(ix:IL xs.toList l)(iy:IL ys.toList m)
  (h:Q (some (lxB l m)) st):wpS (model prog w) A E s (lt' p q) Q st:=by
 rw[lt'_eq];refine waD (wpS_get ?_);rw[hk,px,py];refine waD (wpS_lift (wpAny_attempt (kat_lt hx dx hy dy (zoK ix iy ?_ ⟨rfl,?_⟩))))
 ·rw[<- ix.len,<- iy.len,Array.length_toList,Array.length_toList]
 ·exact waE h
end
theorem lxB_irr:∀ a:List Int,lxB a a=false
 |[]=>rfl
 |x::xs=>by unfold lxB;rw[if_pos rfl];exact lxB_irr xs
theorem lxB_tr:∀{a b c:List Int},lxB a b=true->lxB b c=true->lxB a c=true
 |[],[],_,h,_=>by cases h
 |[],_::_,[],_,h=>by cases h
 |[],_::_,_::_,_,_=>rfl
 |_::_,[],_,h,_=>by cases h
 |_::_,_::_,[],_,h=>by cases h
 |x::xs,y::ys,z::zs,h,h'=>by
  unfold lxB at h h' ⊢;by_cases e1:x=y
  ·subst e1;rw[if_pos rfl] at h;by_cases e2:x=z
   ·rw[if_pos e2] at h' ⊢;exact lxB_tr h h'
   ·rw[if_neg e2] at h' ⊢;exact h'
  ·rw[if_neg e1,decide_eq_true_eq] at h;by_cases e2:y=z
   ·subst e2;rw[if_neg e1,decide_eq_true_eq];exact h
   ·rw[if_neg e2,decide_eq_true_eq] at h';rw[if_neg xwo,decide_eq_true_eq];omega
theorem lxB_tot:∀{a b:List Int},lxB a b=false->lxB b a=false->a=b
 |[],[],_,_=>rfl
 |[],_::_,h,_=>by cases h
 |_::_,[],_,h=>by cases h
 |x::xs,y::ys,h,h'=>by
  unfold lxB at h h';by_cases e1:x=y
  ·subst e1;rw[if_pos rfl] at h h';rw[lxB_tot h h']
  ·rw[if_neg e1,decide_eq_false_iff_not] at h;rw[if_neg (Ne.symm e1),decide_eq_false_iff_not] at h';omega
theorem zjL{α:Type}{p q:α->Bool}(hpq:∀ x,p x=true->q x=true):∀{L:List α},(L.filter p).length<=(L.filter q).length/\(∀ a∈L,q a=true->p a=false->(L.filter p).length<(L.filter q).length)
 |[]=>⟨wal _,λa h=>by cases h⟩
 |x::L=>by
  obtain ⟨h1,h2⟩:=zjL (p:=p) (q:=q) hpq (L:=L);cases hp:p x with
  |true =>
   have hq:=hpq x hp;rw[List.filter_cons_of_pos hp,List.filter_cons_of_pos hq,List.length_cons,List.length_cons];refine ⟨xwo,λa ha qa pa=>?_⟩;rcases wap.mp ha with z|z
   ·subst z;rw[hp] at pa;cases pa
   ·have:=h2 a z qa pa;omega
  |false =>
   rw[List.filter_cons_of_neg (by rw[hp];simp)];cases hq:q x with
   |true =>
    rw[List.filter_cons_of_pos hq,List.length_cons];exact ⟨xwo,λa ha qa pa=>by omega⟩
   |false =>
    rw[List.filter_cons_of_neg (by rw[hq];simp)];refine ⟨h1,λa ha qa pa=>?_⟩;rcases wap.mp ha with z|z
    ·subst z;rw[hq] at qa;cases qa
    ·exact h2 a z qa pa
def zsm(Ls:List (List Int))(a:List Int):Int:=((Ls.filter λl=>lxB l a).length:Nat)
theorem znI{Ls:List (List Int)}{a b:List Int}(ha:a∈Ls)(h:lxB a b=true):zsm Ls a<zsm Ls b:=by have:=(zjL (p:=λl=>lxB l a) (q:=λl=>lxB l b) (λx hx=>lxB_tr hx h) (L:=Ls)).2 a ha h (lxB_irr a);unfold zsm;omega
theorem zoq{Ls:List (List Int)}{a b:List Int}(ha:a∈Ls)(hb:b∈Ls):decide (zsm Ls a<zsm Ls b)=lxB a b:=by
 cases h:lxB a b with
 |true=>exact wat (znI ha h)
 |false =>
  refine waw λz=>?_;cases h':lxB b a with
  |true=>have:=znI hb h';omega
  |false=>rw[lxB_tot h h'] at z;omega
section
variable{prog:Program}{w:World}{A:Around}{s:Shared}
theorem zru{c:Bool}{tk:Keyed->List Int}{Ls:List (List Int)}:Cp prog w A s (tuples' c) (λp=>tk p∈Ls/\∃ x o xs n,p.1=.ref x/\s.heap.get? x=some o/\o.data=.seq xs n/\IL xs.toList (tk p)) (λp=>zsm Ls (tk p)):=by intro E p q st Q hp hq hk h;obtain ⟨m1,x,o,xs,n,e1,e2,e3,e4⟩:=hp;obtain ⟨m2,y,o',ys,k,g1,g2,g3,g4⟩:=hq;refine zkP hk e1 g1 e2 e3 g2 g3 e4 g4 ?_;rw[<- zoq m1 m2];exact h
end
section
variable{prog:Program}{w:World}{A:Around}{E:Value->Shared->Prop}{s:Shared}
theorem zjB(vs:List Value):(pairsOf vs).map (·.2)=vs.toArray:=by
 unfold pairsOf;apply Array.ext
 ·simp
 ·intro i h1 h2;simp
theorem zqd{x:Addr}{vs:List Value}{n:Nat}{P:PySem.Fin->Shared->Prop}(ho:s.heap.get? x=some (seqObj "list" vs.toArray n))(h2:vs.length<2)
  (h:P (.done (.ret .none)) { s with heap:=sortedHeap s.heap x vs vs.toArray }) :
  wpAny (model prog w) A (Builtin.«list.sort» ⟨[.ref x],[]⟩) P E s:=by
 have hn2:vs.toArray.size<2:=by rw[List.size_toArray];exact h2
 rw[list_sort_plain];refine wab (listItems_at ho rfl (wab (listUpdate_at ho rfl ?_)));have g1:=get?_update_seq ho λ_=>(#[]:Array Value)
 refine wab (seqEpoch_at g1 rfl (wab (wpAny_newTuple (wab (wpAny_newList (wpAny_holding ?_))))));have g6:=waa (seqObj "list" #[] 0) (waa (seqObj "tuple" vs.toArray 0) g1);show wpAny _ A _ P E { s with heap:=((s.heap.update x (Obj.mapSeq λ_=>#[])).push (seqObj "tuple" vs.toArray 0)).push (seqObj "list" #[] 0) };dsimp only;rw[if_pos hn2];refine wab (wad ?_);rw[if_pos hn2,StateT.run_pure];refine wab (wad (wab (seqEpoch_at g6 rfl (wab (listUpdate_at g6 rfl ?_ (hsz2:=by rw[Array.size_map];show (pairsOf vs).size<=_;rw[pairsOf_size,sizeLine_eq];omega))))));simp only[bne_self_eq_false,Bool.false_eq_true,if_false];refine wad ?_;have h':P (.done (.ret .none)) { s with heap:=sortedHeap s.heap x vs ((pairsOf vs).map (·.2)) }:=by rw[zjB];exact h
 exact h'
def intsOf(h:Heap):Value->List Int
 |.ref x=>match h.get? x with
  |some o=>match o.data with
   |.seq xs _=>xs.toList.map λv=>match v with
    |.int a _=>a
    |_=>0
   |_=>[]
  |none=>[]
 |_=>[]
theorem zux{xs:List Value}{l:List Int}(h:IL xs l):(xs.map λv=>match v with|.int a _=>a|_=>0)=l:=by
 induction h with
 |nil=>rfl
 |cons h ih=>rw[List.map_cons,ih]
structure TupAt(h:Heap)(v:Value)(l:List Int):Prop where
 ex:∃ x o xs n,v=.ref x/\h.get? x=some o/\o.cls=.type "tuple"/\o.data=.seq xs n/\IL xs.toList l
 ne:l≠[]
theorem TupAt.ints{h:Heap}{v:Value}{l:List Int}(t:TupAt h v l):intsOf h v=l:=by obtain ⟨x,o,xs,n,rfl,ho,_,hd,hi⟩:=t.ex;unfold intsOf;simp only[ho,hd];exact zux hi
theorem TupAt.keep{h h':Heap}{v:Value}{l:List Int}(k:∀ b o,h.get? b=some o->h'.get? b=some o)(t:TupAt h v l):TupAt h' v l:=by obtain ⟨x,o,xs,n,e,ho,hc,hd,hi⟩:=t.ex;exact ⟨⟨x,o,xs,n,e,k _ _ ho,hc,hd,hi⟩,t.ne⟩
theorem zq8{h:Heap}:∀{vs:List Value},(∀ v∈vs,∃ l,TupAt h v l)->∃ fs,KatTups h vs fs/\fs.length=vs.length/\∀ f∈fs,∃ a t,f=.int a t
 |[],_=>⟨[],.nil,rfl,xws⟩
 |v::vs,H=>by
  obtain ⟨fs,h1,h2,h3⟩:=zq8 (vs:=vs) λv hv=>H v (wah _ hv);obtain ⟨l,t⟩:=H v wau;obtain ⟨x,o,xs,n,rfl,ho,hc,hd,hi⟩:=t.ex;have:∃ a k,xs[0]? = some (.int a k):=by
   have hx:xs.toList[0]? = xs[0]? := by rw[Array.getElem?_toList]
   rw[<- hx];have:=t.ne;revert hi;generalize xs.toList=ys;intro hi;cases hi with
   |nil=>exact absurd rfl this
   |cons h=>exact ⟨_,_,rfl⟩
  obtain ⟨a,k,hf⟩:=this;refine ⟨_,KatTups.cons ho hc hd hf h1,by simp[h2],λf hf=>?_⟩;rcases wap.mp hf with rfl|hf
  ·exact ⟨a,k,rfl⟩
  ·exact h3 f hf
theorem zkq{α β:Type}{x y:Array α}(f:α->β)(h:x.Perm y):(x.toList.map f).Perm (y.toList.map f):=(Array.perm_iff_toList_perm.mp h).map f
def rkT(h:Heap)(vs:List Value)(p:Keyed):Int:=zsm (vs.map (intsOf h)) (intsOf h p.1)
def PT(h:Heap)(vs:List Value)(p:Keyed):Prop:=p.1∈vs/\p.2=p.1/\∃ l,TupAt h p.1 l
theorem zqA{h:Heap}{vs:List Value}(ht:∀ v∈vs,∃ l,TupAt h v l):∀ p∈(pairsOf vs).toList,PT h vs p:=λk hk=>by
 have:k.1∈vs/\k.2=k.1:=by unfold pairsOf at hk;obtain ⟨i,hi,rfl⟩:=List.mem_iff_getElem.mp hk;simp
 exact ⟨this.1,this.2,ht _ this.1⟩
theorem zvb{h':Heap}{vs:List Value}(k:∀ b o,s.heap.get? b=some o->h'.get? b=some o):Cp prog w A { s with heap:=h' } (tuples' true) (PT s.heap vs) (rkT s.heap vs):=by
 intro E p q st Q hp hq hk h;obtain ⟨m1,_,l,t⟩:=hp;obtain ⟨m2,_,m,u⟩:=hq;refine zru (prog:=prog) (w:=w) (A:=A) (s:={ s with heap:=h' }) (c:=true) (tk:=λp=>intsOf s.heap p.1) (Ls:=vs.map (intsOf s.heap)) E p q st Q ?_ ?_ hk h
 ·obtain ⟨x,o,xs,n,e,ho,hc,hd,hi⟩:=t.ex;exact ⟨List.mem_map_of_mem m1,x,o,xs,n,e,k _ _ ho,hd,by rw[t.ints];exact hi⟩
 ·obtain ⟨x,o,xs,n,e,ho,hc,hd,hi⟩:=u.ex;exact ⟨List.mem_map_of_mem m2,x,o,xs,n,e,k _ _ ho,hd,by rw[u.ints];exact hi⟩
theorem zsg{h':Heap}{vs:List Value}(ht:∀ v∈vs,∃ l,TupAt s.heap v l)(hv:0<vs.length)(k:∀ b o,s.heap.get? b=some o->h'.get? b=some o)(Q:SortKind->Shared->Prop)(E:Value->Shared->Prop)(q:Q (tuples' true) { s with heap:=h' }):wpAny (model prog w) A (keyKind' vs.toArray) Q E { s with heap:=h' }:=by
 obtain ⟨fs,h1,h2',h3⟩:=zq8 (h:=h') (vs:=vs) λv hv=>by obtain ⟨l,t⟩:=ht v hv;exact ⟨l,t.keep k⟩
 exact kat_kind (s:={ s with heap:=h' }) (T:=.type "int") h1 xwo (λv hv=>by obtain ⟨a,t,rfl⟩:=h3 v hv;exact Looks.of_pure rfl) rfl q
theorem zuo{h:Heap}{vs:List Value}{out:Array Keyed}(pm:out.Perm (pairsOf vs))(ht:∀ v∈vs,∃ l,TupAt h v l)(so:SIn (rkT h vs) out 0 vs.length):(out.map (·.2)).toList.Perm vs/\(out.map (·.2)).toList.Pairwise (λa b=>lxB (intsOf h b) (intsOf h a)=false):=by
 have hs:out.size=vs.length:=by rw[pm.size_eq];exact pairsOf_size vs
 have hp:(out.map (·.2)).toList.Perm vs:=by have:=zkq (·.2) pm;rw[<- Array.toList_map,<- Array.toList_map,zjB] at this;exact this
 have hm:∀ x∈out.toList,PT h vs x:=λx hx=>zqA ht x ((Array.perm_iff_toList_perm.mp pm).mem_iff.mp hx);refine ⟨hp,?_⟩;rw[List.pairwise_iff_getElem];intro i j hi hj hij;rw[Array.length_toList,Array.size_map] at hi hj;simp only[Array.getElem_toList,Array.getElem_map];have e1:=hm out[i] (Array.getElem_mem_toList hi);have e2:=hm out[j] (Array.getElem_mem_toList hj);rw[e1.2.1,e2.2.1];have:=so i j (Nat.zero_le _) (Nat.le_of_lt hij) xwo;unfold rk at this;rw[Array.getElem?_eq_getElem hi,Array.getElem?_eq_getElem hj] at this;have r:=zoq (Ls:=vs.map (intsOf h)) (List.mem_map_of_mem (f:=intsOf h) e2.1) (List.mem_map_of_mem (f:=intsOf h) e1.1);rw[<- r];unfold rkT at this;dsimp only at this;exact waw xwo
theorem zt9{α:Type}{R:α->α->Prop}:∀{vs:List α},vs.length<2->vs.Pairwise R
 |[],_=>.nil
 |[a],_=>by simp
 |a::b::r,h=>by simp at h;omega
end
end Ts
end
section
namespace PV
open PySem PySem.Spec L2
def leL(a b:List Int):Bool:=!Ts.lxB b a
def zrV(a:List Int):List (List Int)->List (List Int)
 |[]=>[a]
 |b::r=>if leL a b=true then a::b::r else b::zrV a r
def zfM:List (List Int)->List (List Int)
 |[]=>[]
 |a::r=>zrV a (zfM r)
theorem zhd(a:List Int):∀ l:List (List Int),(zrV a l).Perm (a::l)
 |[]=>.refl _
 |b::r=>by
  unfold zrV;split
  ·exact .refl _
  ·exact ((zhd a r).cons b).trans (.swap a b r)
theorem ze5:∀ l:List (List Int),(zfM l).Perm l
 |[]=>.refl _
 |a::r=>(zhd a _).trans ((ze5 r).cons a)
theorem zum{a b c:List Int}(h:leL a b=true)(h':leL b c=true):leL a c=true:=by
 unfold leL at *;rw[Bool.not_eq_true'] at *;cases e:Ts.lxB c a with
 |false=>rfl
 |true =>
  cases e1:Ts.lxB a b with
  |true=>rw[Ts.lxB_tr e e1] at h';cases h'
  |false =>
   rw[Ts.lxB_tot e1 h] at e;rw[e] at h';cases h'
theorem zrz{a b:List Int}(h:leL a b=false):leL b a=true:=by
 unfold leL at *;rw[Bool.not_eq_false'] at h;rw[Bool.not_eq_true'];cases e:Ts.lxB a b with
 |false=>rfl
 |true=>exact absurd (Ts.lxB_tr e h) (by rw[Ts.lxB_irr];simp)
theorem zpl{a b:List Int}(h:leL a b=true)(h':leL b a=true):a=b:=by unfold leL at *;rw[Bool.not_eq_true'] at *;exact Ts.lxB_tot h' h
theorem zlR(a:List Int):∀ l:List (List Int),l.Pairwise (λx y=>leL x y=true)->(zrV a l).Pairwise (λx y=>leL x y=true)
 |[],_=>by simp[zrV]
 |b::r,h=>by
  unfold zrV;rw[List.pairwise_cons] at h;split
  ·rename_i z;refine List.pairwise_cons.mpr ⟨λx hx=>?_,List.pairwise_cons.mpr h⟩;rcases wap.mp hx with rfl|hx
   ·exact z
   ·exact zum z (h.1 x hx)
  ·rename_i z;refine List.pairwise_cons.mpr ⟨λx hx=>?_,zlR a r h.2⟩;rcases wap.mp ((zhd a r).mem_iff.mp hx) with rfl|hx
   ·exact zrz (by simpa using z)
   ·exact h.1 x hx
theorem zgP:∀ l:List (List Int),(zfM l).Pairwise (λx y=>leL x y=true)
 |[]=>.nil
 |a::r=>zlR a _ (zgP r)
theorem ziL:∀{l m:List (List Int)},l.Perm m->l.Pairwise (λx y=>leL x y=true)->m.Pairwise (λx y=>leL x y=true)->l=m
 |[],m,p,_,_=>by rw[p.symm.eq_nil]
 |a::l,[],p,_,_=>by have:=p.length_eq;simp at this
 |a::l,b::m,p,h,k=>by
  rw[List.pairwise_cons] at h k;have ab:a=b:=by
   have h1:leL a b=true:=by
    rcases wap.mp (p.mem_iff.mpr (wau:b∈b::m)) with e|e
    ·subst e;unfold leL;rw[Ts.lxB_irr];rfl
    ·exact h.1 b e
   have h2:leL b a=true:=by
    rcases wap.mp (p.mem_iff.mp (wau:a∈a::l)) with e|e
    ·subst e;unfold leL;rw[Ts.lxB_irr];rfl
    ·exact k.1 a e
   exact zpl h1 h2
  subst ab;rw[ziL (List.Perm.cons_inv p) h.2 k.2]
theorem zkz:∀{as:List Addr}{us:List Value},zba (as.map V.ref) us->us=as.map Value.ref
 |[],_,.nil=>rfl
 |a::as,_,.cons h t=>by cases h;rw[zkz t];rfl
theorem zfO:∀(as:List Addr),zba (as.map V.ref) (as.map Value.ref)
 |[]=>.nil
 |a::as=>.cons rfl (zfO as)
theorem ztm:∀{ns:List Int}{us:List Value},zba (ns.map V.int) us->Ts.IL us ns
 |[],_,.nil=>.nil
 |n::ns,_,.cons ⟨t,h⟩ r=>by subst h;exact .cons (ztm r)
def zrS:List Dt->Option (List (List Int))
 |[]=>some []
 |.tup x::r=>match ziY x,zrS r with
  |some (a::l),some ls=>some ((a::l)::ls)
  |_,_=>none
 |_=>none
def zu7(l:List Int):Dt:=.tup (l.map .int)
theorem zji{K:W.Frag}{G:Hp}:∀{ds:List Dt}{vs:List V}{ls:List (List Int)},za1 K G ds vs->zrS ds=some ls->∃ ps:List (Addr×List Int),vs=(ps.map λq=>V.ref q.1)/\ps.map (·.2)=ls/\∀ q∈ps,zhJ K G q.1 (q.2.map V.int)/\q.2≠[]
 |[],_,ls,h,e=>by rw[h.nil_inv];simp[zrS] at e;subst e;exact ⟨[],rfl,rfl,xws⟩
 |d::r,_,ls,h,e=>by
  obtain ⟨v,t,rfl,h1,h2⟩:=h.cons_inv;unfold zrS at e;split at e
  ·rename_i e0;cases e0
  ·rename_i x r' e0;cases e0;split at e
   ·rename_i a l ls' e1 e2;cases e;obtain ⟨ps,q1,q2,q3⟩:=zji h2 e2;obtain ⟨ad,us,rfl,m1,m2⟩:=ze4 h1;rw[zgF m2 e1] at m1;refine ⟨(ad,a::l)::ps,by rw[q1];rfl,by rw[List.map_cons,q2],λq hq=>?_⟩;rcases wap.mp hq with rfl|hq
    ·exact ⟨m1,xws⟩
    ·exact q3 q hq
   ·cases e
  ·cases e
theorem zkc{K:W.Frag}{G:Hp}:∀{ps:List (Addr×List Int)},(∀ q∈ps,zhJ K G q.1 (q.2.map V.int)/\q.2≠[])->za1 K G ((ps.map (·.2)).map zu7) (ps.map λq=>V.ref q.1)
 |[],_=>za1.nil
 |q::ps,h=>by refine za1.cons ?_ (zkc λz hz=>h z (wah _ hz));unfold zu7 Rep;exact ⟨q.1,_,rfl,(h q wau).1,zgO _⟩
section
variable{X:Cx}{C:Cn}{fa:De}{pos:Pos}
end
end PV
end
section
namespace Tx1
def x5:Nat->Nat
 |0=>0
 |n+1=>5 * x5 n+1
theorem zqS(a:Nat):∀ b,x5 (a+b)=5 ^ b * x5 a+x5 b
 |0=>by simp[x5]
 |b+1=>by rw[Nat.add_succ,x5,zqS a b,x5,Nat.pow_succ,Nat.mul_add,<- Nat.mul_assoc,Nat.mul_comm 5 (5 ^ b),Nat.add_assoc]
theorem zqz:∀ d,x5 d % 2=d % 2
 |0=>rfl
 |d+1=>by have:=zqz d;rw[x5];lia
theorem p5:∀ d,(5 ^ d) % 4=1
 |0=>rfl
 |d+1=>by have:=p5 d;rw[Nat.pow_succ];lia
theorem zqB:∀(k d:Nat),2 ^ k ∣ x5 d->2 ^ k ∣ d
 |0,d,_=>by simp
 |k+1,d,h=>by
  have h2:2 ∣ x5 d:=Nat.dvd_trans (by rw[Nat.pow_succ];exact Nat.dvd_mul_left _ _) h;have hp:=zqz d;have hd:d % 2=0:=by lia
  obtain ⟨e,rfl⟩ : ∃ e,d=e+e:=⟨d / 2,xwl⟩
  rw[zqS] at h;have e4:=p5 e;obtain ⟨m,hm⟩ : ∃ m,5 ^ e+1=2 * (2 * m+1):=⟨5 ^ e / 4,xwl⟩
  have hx:5 ^ e * x5 e+x5 e=2 * ((2 * m+1) * x5 e):=by rw[<- Nat.mul_assoc,<- hm,Nat.add_mul,Nat.one_mul]
  rw[hx,Nat.pow_succ,Nat.mul_comm (2 ^ k) 2] at h;have h3:2 ^ k ∣ (2 * m+1) * x5 e:=Nat.dvd_of_mul_dvd_mul_left xwd h;have hc:Nat.Coprime (2 ^ k) (2 * m+1):=Nat.Coprime.pow_left k (by rw[Nat.coprime_comm];unfold Nat.Coprime;rw[Nat.gcd_comm,Nat.gcd_rec];simp)
  have h4:=zqB k e (hc.dvd_of_dvd_mul_left h3);obtain ⟨c,hc'⟩:=h4;exact ⟨c,by rw[Nat.pow_succ,hc',Nat.mul_assoc,Nat.mul_comm 2 c,<- Nat.mul_assoc,Nat.mul_comm _ 2,Nat.two_mul]⟩
theorem ztS:∀ d,5 ^ d=4 * x5 d+1
 |0=>rfl
 |d+1=>by rw[Nat.pow_succ,ztS d,x5];lia
def it5(M a:Nat):Nat->Nat
 |0=>a
 |r+1=>(it5 M a r * 5+1) % M
theorem zq5{M a:Nat}(ha:a<M):∀ r,it5 M a r=(5 ^ r * a+x5 r) % M
 |0=>by simp[it5,x5,Nat.mod_eq_of_lt ha]
 |r+1=>by rw[it5,zq5 ha r,Nat.mul_comm,Nat.add_mod,Nat.mul_mod,Nat.mod_mod,<- Nat.mul_mod,<- Nat.add_mod,Nat.mul_add,x5,Nat.pow_succ,Nat.mul_comm (5 ^ r) 5,Nat.mul_assoc,Nat.add_assoc]
theorem zqR{M a:Nat}(ha:a<M):∀ r,it5 M a r<M
 |0=>ha
 |r+1=>Nat.mod_lt _ xwl
theorem zkK{M a:Nat}(r:Nat):∀ d,it5 M a (r+d)=it5 M (it5 M a r) d
 |0=>rfl
 |d+1=>by rw[Nat.add_succ,it5,zkK r d,it5]
theorem zpr{k b d:Nat}(hb:b<2 ^ k)(h:it5 (2 ^ k) b d=b):2 ^ k ∣ d:=by
 rw[zq5 hb,ztS,show (4 * x5 d+1) * b+x5 d=b+x5 d * (4 * b+1) by rw[Nat.add_mul,Nat.one_mul,Nat.mul_add,Nat.mul_one,Nat.mul_assoc,Nat.mul_left_comm 4,Nat.add_comm _ b,Nat.add_assoc]] at h;have h1:2 ^ k ∣ x5 d * (4 * b+1):=by
  have h2:(b+x5 d * (4 * b+1)) % 2 ^ k=b % 2 ^ k:=by rw[h,Nat.mod_eq_of_lt hb]
  have:=Nat.sub_mod_eq_zero_of_mod_eq h2;rw[Nat.add_sub_cancel_left] at this;exact Nat.dvd_of_mod_eq_zero this
 have hc:Nat.Coprime (2 ^ k) (4 * b+1):=Nat.Coprime.pow_left k (by unfold Nat.Coprime;rw[Nat.gcd_rec,show (4 * b+1) % 2=1 by lia];rfl)
 exact zqB k d (hc.dvd_of_dvd_mul_right h1)
theorem hole:∀(a b:List Nat),a.Nodup->(∀ x∈a,x∈b)->b.length<=a.length->∀ x∈b,x∈a
 |[],b,_,_,hl,x,hx=>by cases b <;> simp at *
 |y::a,b,hn,hs,hl,x,hx=>by
  by_cases hxy:x=y
  ·rw[hxy];exact wau
  ·rw[List.nodup_cons] at hn;refine wah _ (hole a (b.erase y) hn.2 (λz hz=>?_) ?_ x ((List.mem_erase_of_ne hxy).mpr hx))
   ·have hzy:z≠y:=λh=>hn.1 (by rw[<- h];exact hz);exact (List.mem_erase_of_ne hzy).mpr (hs z (wah _ hz))
   ·rw[List.length_erase_of_mem (hs y List.mem_cons_self)];simp at hl;lia
theorem zrt{k a e:Nat}(ha:a<2 ^ k)(he:e<2 ^ k):∃ r,r<2 ^ k/\it5 (2 ^ k) a r=e:=by
 have hn:((List.range (2 ^ k)).map λr=>it5 (2 ^ k) a r).Nodup:=by refine List.pairwise_map.mpr (List.pairwise_iff_getElem.mpr λi j hi hj hij h=>?_);rw[List.length_range] at hi hj;rw[List.getElem_range,List.getElem_range,show j=i+(j-i) by lia,zkK] at h;have:=Nat.le_of_dvd xwl (zpr (zqR ha i) h.symm);lia
 have:=hole _ (List.range (2 ^ k)) hn (λx hx=>by obtain ⟨r,_,rfl⟩:=List.mem_map.mp hx;exact List.mem_range.mpr (zqR ha r)) xws e (List.mem_range.mpr he)
 obtain ⟨r,hr,h⟩:=List.mem_map.mp this;exact ⟨r,List.mem_range.mp hr,h⟩
end Tx1
end
section
namespace Tx1
open PySem PySem.SetTable
theorem zhZ{xs:Array Nat}{j:Nat}(hr:xs.toList.Pairwise (· < ·)):∀(fuel lo hi:Nat),hi-lo<=fuel->lo<=hi->hi<=xs.size ->
  (∀ i x,xs[i]? = some x->i<lo->x<j)->(∀ i x,xs[i]? = some x->hi<=i->j<=x) ->
  below.go xs j fuel lo hi<=xs.size/\(∀ i x,xs[i]? = some x->i<below.go xs j fuel lo hi->x<j)/\(∀ i x,xs[i]? = some x->below.go xs j fuel lo hi<=i->j<=x)
 |0,lo,hi,hf,hl,hs,h1,h2=>by
  have:lo=hi:=by lia
  subst this;exact ⟨hs,h1,h2⟩
 |fuel+1,lo,hi,hf,hl,hs,h1,h2=>by
  unfold below.go;by_cases hlt:lo<hi
  ·rw[if_pos hlt];have hm:(lo+hi) / 2<xs.size:=by lia
   have hg:xs.getD ((lo+hi) / 2) j=xs[(lo+hi) / 2]:=by simp[Array.getD,hm]
   have hp:∀ a b (ha:a<xs.size) (hb:b<xs.size),a<b->xs[a]<xs[b]:=λa b ha hb hab=>by have:=List.pairwise_iff_getElem.mp hr a b (by simpa using ha) (by simpa using hb) hab;simpa using this
   dsimp only;rw[hg];by_cases hc:xs[(lo+hi) / 2]<j
   ·rw[if_pos hc];refine zhZ hr fuel _ hi xwl xwl hs (λi x hx hi'=>?_) h2;obtain ⟨hi2,rfl⟩:=Array.getElem?_eq_some_iff.mp hx;by_cases he:i=(lo+hi) / 2
    ·subst he;exact hc
    ·exact Nat.lt_trans (hp i _ hi2 hm xwl) hc
   ·rw[if_neg hc];refine zhZ hr fuel lo _ xwl xwl xwl h1 (λi x hx hi'=>?_);obtain ⟨hi2,rfl⟩:=Array.getElem?_eq_some_iff.mp hx;by_cases he:i=(lo+hi) / 2
    ·subst he;lia
    ·have:=hp _ i hm hi2 xwl;lia
  ·rw[if_neg hlt];have:lo=hi:=by lia
   subst this;exact ⟨hs,h1,h2⟩
theorem zfr{xs:Array Nat}{j:Nat}(hr:xs.toList.Pairwise (· < ·)):below xs j<=xs.size/\(∀ i x,xs[i]? = some x->i<below xs j->x<j)/\(∀ i x,xs[i]? = some x->below xs j<=i->j<=x) :=
 zhZ hr xs.size 0 xs.size xwl xwl (wal _) (λi x hx h=>absurd h xwl) (λi x hx h=>by obtain ⟨h2,_⟩:=Array.getElem?_eq_some_iff.mp hx;lia)
theorem znT(j:Nat):has #[] j=false:=rfl
structure TO(t:SetTable)(n:Nat):Prop where
 pow:∃ k,t.mask+1=2 ^ k/\3<=k
 dum:t.dummies=#[]
 siz:t.place.size=n
 ris:t.place.toList.Pairwise (· < ·)
 low:∀ x∈t.place.toList,x<=t.mask
theorem zfL{t:SetTable}{n:Nat}(T:TO t n)(j:Nat):(t.slot j=.empty/\j∉t.place.toList)\/∃ i,t.slot j=.live i/\i<n/\t.place[i]? = some j:=by
 unfold slot;rw[T.dum,znT];dsimp only;by_cases h:(t.place[below t.place j]? == some j)=true
 ·rw[if_pos h];have h':=eq_of_beq h;obtain ⟨h2,_⟩:=Array.getElem?_eq_some_iff.mp h';exact .inr ⟨_,rfl,by rw[<- T.siz];exact h2,h'⟩
 ·rw[if_neg h];refine .inl ⟨rfl,λhm=>h ?_⟩;obtain ⟨i,hi,he⟩:=List.getElem_of_mem hm;have hi':i<t.place.size:=by simpa using hi
  have hg:t.place[i]? = some j:=by rw[Array.getElem?_eq_getElem hi'];simpa using he
  obtain ⟨b0,b1,b2⟩:=zfr (j:=j) T.ris;by_cases hlt:i<below t.place j
  ·exact absurd (b1 i j hg hlt) (waM _)
  ·have hbs:below t.place j<t.place.size:=by lia
   by_cases heq:below t.place j=i
   ·rw[heq,hg];simp
   ·have h3:=b2 _ _ (Array.getElem?_eq_getElem hbs) (wal _);have h4:=List.pairwise_iff_getElem.mp T.ris (below t.place j) i (by simpa using hbs) hi xwl;rw[he] at h4;have h5:t.place.toList[below t.place j]'(by simpa using hbs)=t.place[below t.place j]:=by simp
    rw[h5] at h4;lia
theorem zlz:∀(a b:List Nat),a.Nodup->(∀ x∈a,x∈b)->a.length<=b.length
 |[],b,_,_=>Nat.zero_le _
 |y::a,b,hn,hs=>by rw[List.nodup_cons] at hn;have hy:=hs y wau;have:=zlz a (b.erase y) hn.2 (λz hz=>(List.mem_erase_of_ne (λh=>hn.1 (by rw[<- h];exact hz))).mpr (hs z (wah _ hz)));rw[List.length_erase_of_mem hy] at this;have:=List.length_pos_of_mem hy;rw[List.length_cons];lia
theorem gap{t:SetTable}{n:Nat}(T:TO t n)(h:n<=t.mask):∃ e,e<=t.mask/\e∉t.place.toList:=by refine Classical.byContradiction λhc=>?_;have:=zlz (List.range (t.mask+1)) t.place.toList List.nodup_range (λx hx=>Classical.byContradiction λhx'=>hc ⟨x,by have:=List.mem_range.mp hx;lia,hx'⟩);have h2:=T.siz;simp at this;lia
def lp(mask:Nat):Nat->Nat×Nat->Nat×Nat
 |0,q=>q
 |r+1,q=>lp mask r (leap mask q.1 q.2)
theorem zqV(mask:Nat):∀ a b q,lp mask (a+b) q=lp mask b (lp mask a q)
 |0,b,q=>by rw[Nat.zero_add];rfl
 |a+1,b,q=>by rw[Nat.succ_add];exact zqV mask a b _
theorem zrc(mask:Nat):∀ r q,(lp mask r q).2=q.2 / 32 ^ r
 |0,q=>by simp[lp]
 |r+1,q=>by rw[lp,zrc mask r];show q.2 / 32 / 32 ^ r=_;rw[Nat.div_div_eq_div_mul,Nat.pow_succ,Nat.mul_comm]
theorem zrb(mask:Nat):∀ r q,q.1<mask+1->(lp mask r q).1<mask+1
 |0,q,h=>h
 |r+1,q,h=>zrb mask r _ (Nat.mod_lt _ (Nat.succ_pos _))
theorem znx(mask:Nat):∀ r i,lp mask r (i,0)=(it5 (mask+1) i r,0)
 |0,i=>rfl
 |r+1,i=>by
  have h:∀ a b,it5 (mask+1) ((a * 5+1) % (mask+1)) b=(it5 (mask+1) a (b+1)):=λa b=>by rw[Nat.add_comm b 1,zkK];rfl
  show lp mask r ((i * 5+1+0 / 32) % (mask+1),0 / 32)=_;rw[Nat.zero_div,Nat.add_zero,znx mask r,h]
theorem znL{mask k:Nat}(hk:mask+1=2 ^ k){i p e:Nat}(hi:i<mask+1)(hp:p<2 ^ 64)(he:e<=mask):∃ r,r<turns mask/\(lp mask r (i,p)).1=e:=by
 have h13:lp mask 13 (i,p)=((lp mask 13 (i,p)).1,0):=Prod.ext rfl (by rw[zrc];exact Nat.div_eq_of_lt (was hp xwd))
 have hl:=zrb mask 13 (i,p) hi;obtain ⟨r,hr,h⟩:=zrt (k:=k) (e:=e) (by rw[<- hk];exact hl) xwl;refine ⟨13+r,by unfold turns;lia,?_⟩;rw[zqV,h13,znx,hk];exact h
theorem zj3{mask e:Nat}{owner:Array (Option Nat)}(he:owner.getD e (some 0)=none):∀(fuel i p:Nat),(∃ r,r<fuel/\(lp mask r (i,p)).1=e) ->
  ∃ j,layClean.free mask owner fuel i p=some j/\owner.getD j (some 0)=none
 |0,i,p,⟨r,hr,_⟩=>absurd hr (Nat.not_lt_zero _)
 |fuel+1,i,p,⟨r,hr,h⟩=>by
  unfold layClean.free;cases hf:(List.range (runEnd mask i+1-i)).find? λk=>(owner.getD (i+k) (some 0)).isNone with
  |some k=>exact ⟨i+k,rfl,by simpa using List.find?_some hf⟩
  |none =>
   cases r with
   |zero =>
    have h0:=List.find?_eq_none.mp hf 0 (List.mem_range.mpr (by unfold runEnd;split <;> lia));exact absurd (by rw[Nat.add_zero,show i=e from h,he];rfl) h0
   |succ r=>exact zj3 he fuel _ _ ⟨r,xwl,h⟩
theorem zf2{α β:Type} [DecidableEq α] {f g:α->Option β} {j:α} {y:β} (hj:f j=none) (hg:g j=some y) (hs:∀ x,x≠j->g x=f x) :
  ∀ l:List α,l.Nodup->j∈l->(l.filterMap g).Perm (y::l.filterMap f)
 |[],_,h=>by simp at h
 |x::l,hn,h=>by
  rw[List.nodup_cons] at hn;by_cases hx:x=j
  ·subst hx;have e:∀ l':List α,(∀ z∈l',z∈l)->l'.filterMap g=l'.filterMap f:=λl'=>by
    induction l' with
    |nil=>intro _;rfl
    |cons z l' ih =>
     intro h;rw[List.filterMap_cons,List.filterMap_cons,hs z λh'=>hn.1 (h' ▸ h z List.mem_cons_self),ih λy hy=>h y (List.mem_cons_of_mem _ hy)]
   rw[List.filterMap_cons,hg,List.filterMap_cons,hj,e l λ_ h=>h]
  ·have hm:j∈l:=(wap.mp h).resolve_left λh'=>hx h'.symm;have ih:=zf2 hj hg hs l hn.2 hm;rw[List.filterMap_cons,hs x hx,List.filterMap_cons];cases f x with
   |none=>exact ih
   |some z=>exact (List.Perm.cons z ih).trans (List.Perm.swap _ _ _)
def lv(mask:Nat)(owner:Array (Option Nat)):List (Nat×Nat):=(List.range (mask+1)).filterMap λj=>(owner.getD j none).map (j,·)
theorem zth{mask j m:Nat}{owner:Array (Option Nat)}(hz:owner.size=mask+1)(hj:owner.getD j (some 0)=none) :
  (lv mask (owner.setIfInBounds j (some m))).Perm ((j,m)::lv mask owner):=by
 have hl:j<owner.size:=by refine Classical.byContradiction λh=>?_;simp[Array.getD,h] at hj
 refine zf2 (j:=j) ?_ ?_ (λx hx=>?_) _ List.nodup_range (List.mem_range.mpr xwl)
 ·simp[Array.getD,hl] at hj ⊢;exact hj
 ·simp[Array.getD,hl]
 ·by_cases hxl:x<owner.size
  ·simp[Array.getD,hxl,Array.getElem_setIfInBounds,Ne.symm hx]
  ·simp[Array.getD,hxl]
theorem zu0{mask:Nat}{owner:Array (Option Nat)}(hz:owner.size=mask+1)(h:∀ e,e<=mask->owner.getD e (some 0)≠none):(lv mask owner).length=mask+1:=by
 have:∀ l:List Nat,(∀ x∈l,x<=mask)->(l.filterMap λj=>(owner.getD j none).map (j,·)).length=l.length:=by
  intro l
  induction l with
  |nil=>intro _;rfl
  |cons x l ih =>
   intro hl;have hx:=hl x wau;have hxl:x<owner.size:=by lia
   have h':=h x hx;obtain ⟨z,hz'⟩ : ∃ z,owner.getD x none=some z:=by
    cases ho:owner.getD x none with
    |some z=>exact ⟨z,rfl⟩
    |none =>
     refine absurd ?_ h';simp[Array.getD,hxl] at ho ⊢;exact ho
   rw[List.filterMap_cons,hz'];simp only[Option.map_some,wan];rw[ih λz hz=>hl z (List.mem_cons_of_mem _ hz)]
 rw[lv,this _ λx hx=>by have:=List.mem_range.mp hx;lia];simp
theorem zn1(h:Int):bits h<2 ^ 64:=by unfold bits;have h1:=Int.emod_lt_of_pos h (show (0:Int)<2 ^ 64 by decide);have h2:=Int.emod_nonneg h (show (2 ^ 64:Int)≠0 by decide);lia
def zei(mask:Nat)(acc:Option (Array (Option Nat)×Nat))(h:Int):Option (Array (Option Nat)×Nat):=do
 let (owner,k) <- acc;let j <- layClean.free mask owner (turns mask) (bits h % (mask+1)) (bits h)
 pure (owner.setIfInBounds j (some k),k+1)
theorem zuz{t:SetTable}{n j:Nat}(T:TO t n)(hj:j<=t.mask)(hn:j∉t.place.toList) :
  TO (t.put j).1 (n+1)/\(t.put j).1.mask=t.mask/\(t.put j).1.led=t.led/\(t.put j).1.plain=t.plain/\(t.put j).1.moves=t.moves:=by
 obtain ⟨b0,b1,b2⟩:=zfr (j:=j) T.ris;have hL:(insertAt t.place (below t.place j) j).toList=t.place.toList.take (below t.place j)++j::t.place.toList.drop (below t.place j):=by rw[toList_insertAt]
 refine ⟨⟨T.pow,?_,?_,?_,?_⟩,rfl,rfl,rfl,rfl⟩
 ·show (if has t.dummies j then _ else _)=_;rw[T.dum,znT];rfl
 ·show (insertAt t.place (below t.place j) j).size=_;rw[<- Array.length_toList,(insertAt_perm _ _ _).length_eq];simp[T.siz]
 ·show (insertAt t.place (below t.place j) j).toList.Pairwise _;rw[hL];have hr:=T.ris;rw[<- List.take_append_drop (below t.place j) t.place.toList] at hr;obtain ⟨r1,r2,r3⟩:=List.pairwise_append.mp hr;have ha:∀ x∈t.place.toList.take (below t.place j),x<j:=λx hx=>by obtain ⟨i,hi,he⟩:=List.getElem_of_mem hx;rw[List.length_take] at hi;rw[List.getElem_take] at he;exact b1 i x (by rw[<- Array.getElem?_toList,List.getElem?_eq_getElem xwl,he]) xwl
  have hb:∀ x∈t.place.toList.drop (below t.place j),j<x:=λx hx=>by obtain ⟨i,hi,he⟩:=List.getElem_of_mem hx;rw[List.length_drop] at hi;rw[List.getElem_drop] at he;have h1:=b2 (below t.place j+i) x (by rw[<- Array.getElem?_toList,List.getElem?_eq_getElem xwl,he]) xwl;have h2:x≠j:=λh=>hn (by rw[<- h];exact List.mem_of_mem_drop hx);lia
  exact List.pairwise_append.mpr ⟨r1,List.pairwise_cons.mpr ⟨hb,r2⟩,λa ha' b hb'=>by
   rcases wap.mp hb' with rfl|hb'
   ·exact ha a ha'
   ·exact r3 a ha' b hb'⟩
 ·intro x hx;have hx':x∈(insertAt t.place (below t.place j) j).toList:=hx;have:=(insertAt_perm _ _ _).mem_iff.mp hx';rw[Array.toList_push,List.mem_append,List.mem_singleton] at this;rcases this with h|rfl
  ·exact T.low x h
  ·exact hj
def ad(t:SetTable):Nat->Probe->Probe
 |0,p=>p
 |m+1,p=>ad t m (t.advance p)
theorem zfS(t:SetTable):∀ a b p,ad t (a+b) p=ad t b (ad t a p)
 |0,b,p=>by rw[Nat.zero_add];rfl
 |a+1,b,p=>by rw[Nat.succ_add];exact zfS t a b _
def PIn(t:SetTable)(p:Probe):Prop:=p.j+p.more<=t.mask/\p.dummy=none
def run(t:SetTable)(i q:Nat):Probe:={ j:=i,more:=runEnd t.mask i-i,i,perturb:=q,dummy:=none }
theorem zfm{mask i:Nat}(h:i<=mask):i+(runEnd mask i-i)<=mask/\runEnd mask i-i<=9:=by unfold runEnd;split <;> lia
theorem zq6{t:SetTable}{i q:Nat}(h:i<=t.mask):PIn t (run t i q):=⟨(zfm h).1,rfl⟩
theorem znU{t:SetTable}{p:Probe}(h:PIn t p):PIn t (t.advance p):=by
 obtain ⟨h1,h2⟩:=h;unfold advance;by_cases hm:p.more > 0
 ·rw[if_pos hm];exact ⟨by dsimp only;lia,h2⟩
 ·rw[if_neg hm];exact ⟨(zfm (show (leap t.mask p.i p.perturb).1<=t.mask from Nat.lt_succ_iff.mp (Nat.mod_lt _ (Nat.succ_pos _)))).1,h2⟩
theorem zqX(t:SetTable):∀(m j i q:Nat),ad t m { j:=j,more:=m,i:=i,perturb:=q,dummy:=none }={ j:=j+m,more:=0,i:=i,perturb:=q,dummy:=none }
 |0,j,i,q=>rfl
 |m+1,j,i,q=>by show ad t m (t.advance _)=_;unfold advance;rw[if_pos (Nat.succ_pos m)];dsimp only;rw[Nat.add_sub_cancel,zqX t m,Nat.add_assoc,Nat.add_comm 1 m]
theorem ziW(t:SetTable)(i q:Nat):ad t (runEnd t.mask i-i+1) (run t i q)=run t (leap t.mask i q).1 (leap t.mask i q).2:=by rw[zfS,show ad t (runEnd t.mask i-i) (run t i q)=_ from zqX t _ i i q];rfl
theorem zri(t:SetTable):∀(r i q:Nat),i<=t.mask->∃ m,m<=10 * r/\(ad t m (run t i q)).j=(lp t.mask r (i,q)).1
 |0,i,q,_=>⟨0,wal _,rfl⟩
 |r+1,i,q,h=>by obtain ⟨m,h1,h2⟩:=zri t r (leap t.mask i q).1 (leap t.mask i q).2 (Nat.lt_succ_iff.mp (Nat.mod_lt _ (Nat.succ_pos _)));refine ⟨runEnd t.mask i-i+1+m,by have:=(zfm h).2;lia,?_⟩;rw[zfS,ziW,h2];rfl
theorem zms{t:SetTable}{n:Nat}(T:TO t n)(hn:n<=t.mask)(h:Int):PIn t (t.probeStart h)/\∃ m,m<10 * turns t.mask/\t.slot (ad t m (t.probeStart h)).j=.empty:=by
 have hi:bits h % (t.mask+1)<=t.mask:=Nat.lt_succ_iff.mp (Nat.mod_lt _ (Nat.succ_pos _));obtain ⟨e,he,hne⟩:=gap T hn;obtain ⟨k,hk,_⟩:=T.pow;obtain ⟨r,hr,hre⟩:=znL hk (Nat.lt_succ_iff.mpr hi) (zn1 h) he;obtain ⟨m,hm,hme⟩:=zri t r (bits h % (t.mask+1)) (bits h) hi;refine ⟨zq6 hi,m,xwl,?_⟩;rw[show t.probeStart h=run t (bits h % (t.mask+1)) (bits h) from rfl,hme,hre];rcases zfL T e with h|⟨i,_,_,h⟩
 ·exact h.1
 ·exact absurd (by obtain ⟨h2,h3⟩:=Array.getElem?_eq_some_iff.mp h;rw[<- h3];exact Array.getElem_mem_toList h2) hne
theorem znq{n:Nat}:∀(fuel k:Nat),n<2 ^ (k+fuel)->∃ k',k<=k'/\sizeAbove.go n fuel (2 ^ k)=2 ^ k'/\n<2 ^ k'/\(k'=k\/2 ^ k'<=2 * n)
 |0,k,h=>⟨k,wal _,rfl,h,.inl rfl⟩
 |fuel+1,k,h=>by
  unfold sizeAbove.go;by_cases hc:2 ^ k<=n
  ·rw[if_pos hc,<- Nat.pow_succ];obtain ⟨k',a,b,c,d⟩:=znq fuel (k+1) (by rw[show k+1+fuel=k+(fuel+1) by lia];exact h);refine ⟨k',xwl,b,c,.inr ?_⟩;rcases d with rfl|d
   ·rw[Nat.pow_succ];lia
   ·exact d
  ·rw[if_neg hc];exact ⟨k,wal _,rfl,xwl,.inl rfl⟩
theorem zrJ{n:Nat}(h:n<2 ^ 20):∃ k,3<=k/\sizeAbove n=2 ^ k/\n<2 ^ k/\2 ^ k<=2 * n+8:=by
 obtain ⟨k,a,b,c,d⟩:=znq (n:=n) 64 3 (was h xwd);refine ⟨k,a,b,c,?_⟩;rcases d with rfl|d
 ·lia
 ·lia
end Tx1
end
section
namespace Tx1
open PySem PySem.SetTable PyProof.Rows
def RowAt(h:Heap)(ns:List Int)(r:Addr):Prop:=∃ o items m,h.get? r=some o/\o.cls=.type "tuple"/\o.data=.seq items m/\IntsAre items.toList ns
theorem zj9{prog:Program}{w:World}:∀{vs:List Value}{ns:List Int},IntsAre vs ns->ItemsAre (intKind prog w) ns vs
 |_,_,.nil=>.nil
 |_,_,.cons n t h=>.cons (intKind_is prog w n t) (zj9 h)
theorem RowAt.key{prog:Program}{w:World}{h:Heap}{ns:List Int}{r:Addr}(x:RowAt h ns r):IsTupleKey (intKind prog w) h ns r :=
 let ⟨o,items,m,a,b,c,d⟩:=x;⟨o,items,m,a,b,c,zj9 d⟩
section
variable{prog:Program}{w:World}{A:Around}{E:Value->Shared->Prop}{s:Shared}
theorem zgN{M:Model}(n:Nat){Q:Bool->Shared->Prop}(vs:List Value)(ns:List Int)(hi:IntsAre vs ns){f:Value->Option Bool×PUnit->Sem (ForInStep (Option Bool×PUnit))}{Q':Option Bool×PUnit->Shared->Prop}
  (hf:∀ n t b,f (.int n t) b=pure (.yield (none,⟨⟩))) (h:Q' (none,⟨⟩) s):wpAny M A (forIn vs (none,⟨⟩) f) Q' E s:=by
 induction hi with
 |nil=>exact wad h
 |cons n t _ ih=>rw[List.forIn_cons,hf];exact wab (wad ih)
theorem zmf{ns:List Int}{r:Addr}{Q:Bool->Shared->Prop}(x:RowAt s.heap ns r)(h:Q true s):wpAny (model prog w) A (hashByValue 8 (.ref r)) Q E s:=by
 have hT:=(x.key (prog:=prog) (w:=w)).typeIs;obtain ⟨o,items,m,ho,hc,hd,hi⟩:=x;unfold hashByValue;refine wab (wpAny_specialOf hT F.slot_tuple_hash.lookup ?_);dsimp only;refine wab (wpAny_seqItems ho hd ?_);refine wab ?_;show wpAny _ _ (forIn items _ _) _ _ s;rw[<- Array.forIn_toList];refine zgN 0 (Q:=Q) items.toList ns hi (λn t b=>?_) ?_
 ·simp[hashByValue]
 ·exact wad h
theorem zgy{M:Model}{ns:List Int}{r:Addr}{Q:Bool->Shared->Prop}(x:RowAt s.heap ns r)(h:Q false s):wpAny M A (ofAClassStatement 8 (.ref r)) Q E s:=by
 obtain ⟨o,items,m,ho,hc,hd,hi⟩:=x;unfold ofAClassStatement;refine wab (wpAny_typeOf_ref ho ?_);rw[hc];dsimp only;refine wab (wad ?_);simp only[Bool.not_true,Bool.false_eq_true,if_false];refine wab (wpAny_seqItems ho hd ?_);dsimp only;refine wab ?_;show wpAny _ _ (forIn items _ _) _ _ s;rw[<- Array.forIn_toList];refine zgN 0 (Q:=Q) items.toList ns hi (λn t b=>?_) ?_
 ·simp[ofAClassStatement]
 ·exact wad h
theorem zjK{ns:List Int}{r:Addr}{Q:Bool->Shared->Prop}(x:RowAt s.heap ns r):∀(vs:List Value),(∀ v∈vs,∃ b kb,v=.ref b/\RowAt s.heap kb b)->Q false s ->
  wpAny (model prog w) A (searchCouldBeSeen (.ref r) vs) Q E s:=by
 intro vs hv h;unfold searchCouldBeSeen;refine wab ?_;refine wpAny_forIn_list _ (λzbo b s'=>b.1=none/\s'=s/\∀ v∈zbo,∃ b kb,v=.ref b/\RowAt s.heap kb b) _ ?_ ?_ _ _ ⟨rfl,rfl,hv⟩
 ·rintro v zbo ⟨b1,b2⟩ s' ⟨hb,rfl,hr⟩;obtain ⟨b,kb,rfl,hkb⟩:=hr _ wau;have ht:∀ v∈zbo,∃ b kb,v=.ref b/\RowAt s'.heap kb b:=λv hv=>hr v (wah _ hv);dsimp only;by_cases hab:(r == b)=true
  ·simp only[hab,Bool.true_or,if_true];exact wad ⟨rfl,rfl,ht⟩
  ·simp only[hab,carriedByValue,Bool.false_and,Bool.or_self,Bool.false_eq_true,if_false];refine wab (wpAny_eqIsQuiet_tuple (x.key (prog:=prog) (w:=w)) ?_);simp only[Bool.not_true,Bool.false_eq_true,if_false];refine wab (wpAny_eqIsQuiet_tuple (hkb.key (prog:=prog) (w:=w)) ?_);simp only[Bool.not_true,Bool.false_eq_true,if_false];refine wab (zgy x ?_);simp only[Bool.false_eq_true,if_false];refine wab (zgy hkb ?_);simp only[Bool.false_eq_true,if_false];exact wad ⟨rfl,rfl,ht⟩
 ·rintro ⟨b1,b2⟩ s' ⟨hb,rfl,_⟩;simp only at hb;subst hb;exact wad h
end
structure TH(a:Addr)(led:Bool)(es:Array (Int×Value))(t:SetTable):Prop where
 to:TO t es.size
 room:es.size * 5<t.mask * 3
 most:t.mask+1<=8 * es.size+8
 led:t.led=led
 plain:t.plain=true
def TS(h:Heap)(a:Addr)(led:Bool)(L:List (List Int×Addr)):Prop :=
 ∃ o es ep t,h.get? a=some o/\o.ExactSet/\o.data=.set es ep t/\TH a led es t/\(es.toList.map (·.2)).Perm (L.map λx=>.ref x.2)
theorem zc8{t:SetTable}{n:Nat}(T:TO t n)(hn:n<=t.mask):t.fits n=true:=by simp[SetTable.fits,SetTable.fill,T.siz,T.dum,hn]
theorem zqE{t:SetTable}{n:Nat}(T:TO t n):t.gaveWay=false:=by
 obtain ⟨k,h,h3⟩:=T.pow;obtain ⟨k,rfl⟩ : ∃ k',k=k'+1:=⟨k-1,xwl⟩
 rw[Nat.pow_succ] at h;unfold SetTable.gaveWay;have:t.mask % 2=1:=by lia
 simp[this]
section
variable{prog:Program}{w:World}{A:Around}{E:Value->Shared->Prop}{s:Shared}
theorem zp9{n:Nat}(h:n<1001):grown n=n * 4:=by unfold grown;rw[if_neg xwl]
end
theorem RowAt.keep{h h':Heap}{ns:List Int}{r:Addr}(x:RowAt h ns r)(k:∀ o,h.get? r=some o->h'.get? r=some o):RowAt h' ns r :=
 x.elim λo ⟨i,m,a,b⟩=>⟨o,i,m,k o a,b⟩
theorem TS.keep{h h':Heap}{a:Addr}{led:Bool}{L}(x:TS h a led L)(k:∀ o,h.get? a=some o->h'.get? a=some o):TS h' a led L :=
 x.elim λo ⟨e,p,t,q,b⟩=>⟨o,e,p,t,k o q,b⟩
section
variable{prog:Program}{w:World}{A:Around}{E:Value->Shared->Prop}{s:Shared}
end
def zqu(led:Bool):Obj:={ cls:=.type "set",dict:=none,data:=.set #[] 0 (.fresh 0 0 led) }
section
variable{prog:Program}{w:World}{A:Around}{E:Value->Shared->Prop}{s:Shared}
def zeY(w:World):Bool:=!w.params.followText "set-order"
theorem zrO(a:Value){Q:Value->Shared->Prop}(h:Q (.ref s.heap.objs.size) { s with heap:=s.heap.push (zqu (zeY w)) }) :
  codeAny (model prog w) A (.call (.builtin "set.__new__") ⟨[.type "set",a],[]⟩) (wants Q E) s:=by
 refine codeAny_of_tree ?_;show wpAny _ A.in1 (checkBuiltinCall "set.__new__" ⟨[.type "set",a],[]⟩ >>= λ_=>again _) _ _ s;refine wab (wpAny_of_eq (F.newCall_set_1 a) (wad ⟨plainId_quiet F.plain_set_new _,codeAny_builtin F.entry_set_new ?_⟩));rw[Around.under_plainId F.plain_set_new _];unfold Builtin.«set.__new__» Builtin.Frozenset.newClass;have hsub:=sub_set_self;obtain ⟨hp,g,d,tk,os⟩:=s;dsimp only
 wp_walk
 refine wpAny_askSetting (wad ?_);dsimp only[newObj];exact wab (wpAny_alloc (wad (wad h)))
set_option maxHeartbeats 1600000 in
end
theorem zde:Slot "set_iterator" "__next__" "set_iterator.__next__" :=
 .of (owner:="set_iterator") (n:="__next__") (by rw[typeLookup_type,builtinLookup_eq_fast];kernel_rfl) xwD xwD xwD (by first|exact .inl xwD|exact .inr xwD) (by rw[isSubtype_type];kernel_rfl)
theorem ziG:entryFor table "set_iterator.__next__"=some Builtin.«set_iterator.__next__» := entryFor_of_fast xwk
theorem zjC(a:Value):argsOk "set_iterator.__next__" ⟨[a],[]⟩:=by unfold argsOk;kernel_rfl
theorem zjM:entryFor table "set.__iter__"=some Builtin.«frozenset.__iter__» := entryFor_alias (id':="frozenset.__iter__") xwk rfl xwD xwk
theorem znm{α:Type}:∀(l:List α)(i:Nat)(h:i<l.length),(l[i]::l.eraseIdx i).Perm l
 |x::l,0,_=>List.Perm.refl _
 |x::l,i+1,h=>by simp only[wan] at h;exact (List.Perm.swap x (l[i]'xwl) _).trans (List.Perm.cons x (znm l i xwl))
theorem zoz{α:Type}(nx:Nat->Nat):∀(fuel k:Nat)(left:List α)(out:Array α),left.length=fuel->(pickOrder.go nx fuel k left out).toList.Perm (out.toList++left)
 |0,k,left,out,h=>by have:left=[]:=List.length_eq_zero_iff.mp h;subst this;unfold pickOrder.go;simp
 |fuel+1,k,left,out,h=>by unfold pickOrder.go;have hl:nx k % left.length<left.length:=Nat.mod_lt _ xwl;rw[List.getElem?_eq_getElem hl];dsimp only;refine (zoz nx fuel (k+1) _ _ (by rw[List.length_eraseIdx_of_lt hl];lia)).trans ?_;rw[Array.toList_push,List.append_assoc];exact (List.Perm.refl _).append (znm left _ hl)
theorem zox{α:Type}(nx:Nat->Nat)(xs:Array α):(pickOrder nx xs).toList.Perm xs.toList:=by have:=zoz nx xs.size 0 xs.toList #[] xws;simpa [pickOrder] using this
def ord(w:World)(a:Addr)(ep:Nat)(es:Array (Int×Value)):Array (Int×Value):=if w.params.followText "set-order" then pickOrder (w.params.setOrder a ep) es else es
theorem zgo(w:World)(a:Addr)(ep:Nat)(es:Array (Int×Value)):(ord w a ep es).toList.Perm es.toList:=by
 unfold ord;split
 ·exact zox _ _
 ·exact List.Perm.refl _
theorem zlF{t:SetTable}{n:Nat}(T:TO t n):below t.place 0=0/\∀ i j,t.place[i]? = some j->below t.place (j+1)=i+1:=by
 constructor
 ·obtain ⟨b0,b1,_⟩:=zfr (j:=0) T.ris;cases hb:below t.place 0 with
  |zero=>rfl
  |succ m=>exact absurd (b1 0 _ (Array.getElem?_eq_getElem xwl) xwl) (Nat.not_lt_zero _)
 ·intro i j hj;obtain ⟨hi,he⟩:=Array.getElem?_eq_some_iff.mp hj;obtain ⟨b0,b1,b2⟩:=zfr (j:=j+1) T.ris;have h1:¬ below t.place (j+1)<=i:=λh=>by have:=b2 i j hj h;lia
  refine Classical.byContradiction λhc=>?_;have hlt:i+1<t.place.size:=by lia
  have h2:=b1 (i+1) _ (Array.getElem?_eq_getElem hlt) xwl;have h3:=List.pairwise_iff_getElem.mp T.ris i (i+1) (by simpa using hi) (by simpa using hlt) xwl;simp only[Array.getElem_toList] at h3;lia
def zsC(h:Heap)(I S:Addr)(w:World)(es:Array (Int×Value))(ep:Nat)(t:SetTable)(i:Nat):Prop :=
 ∃ o slot,h.get? I=some o/\o.cls=.type "set_iterator"/\o.data=.fields #[.int (slot:Nat) 0,.int i 0,.ref S,.int es.size 0,.int ep 0]/\(w.params.followText "set-order"=false->below t.place slot=i)
section
variable{prog:Program}{w:World}{A:Around}{E:Value->Shared->Prop}{s:Shared}
theorem zrn{S:Addr}{o:Obj}{es:Array (Int×Value)}{ep:Nat}{t:SetTable}{Q:Array (Int×Value)->Shared->Prop}(hb:w.params.followText "set-order"=true)(ho:s.heap.get? S=some o)(hd:o.data=.set es ep t)(hf:t.fits es.size=true)
  (h:Q (ord w S ep es) s):wpAny (model prog w) A (setWalk S) Q E s:=by
 unfold setWalk;refine wab (wpAny_setState_of ho hd hf ?_);dsimp only;unfold setsByText;refine wab (wab (wpAny_askSetting (wad ?_)));show wpAny _ _ (if w.params.followText "set-order"=true then _ else _) _ _ _;rw[if_pos hb];refine wab (wpAny_askSetting (wad ?_));unfold ord at h;rw[if_pos hb] at h;exact h
theorem zrH{S:Addr}{o:Obj}{es:Array (Int×Value)}{ep slot i:Nat}{t:SetTable}{Q:Option (Value×Nat)->Shared->Prop}(ho:s.heap.get? S=some o)(hd:o.data=.set es ep t)(T:TH S (!w.params.followText "set-order") es t)
  (hs:w.params.followText "set-order"=false->below t.place slot=i)
  (h1:∀ x slot',(ord w S ep es)[i]? = some x->(w.params.followText "set-order"=false->below t.place slot'=i+1)->Q (some (x.2,slot')) s)
  (h2:(ord w S ep es)[i]? = none->Q none s):wpAny (model prog w) A (setNext S slot i ep) Q E s:=by
 have hf:=zc8 T.to (by have:=T.room;lia);unfold setNext;refine wab (wpAny_setState_of ho hd hf ?_);dsimp only;unfold setsByText;refine wab (wab (wpAny_askSetting (wad ?_)));show wpAny _ _ (if w.params.followText "set-order"=true then _ else _) _ _ _;by_cases hb:w.params.followText "set-order"=true
 ·rw[if_pos hb];simp only[bne_self_eq_false,Bool.false_eq_true,if_false];refine wab (zrn hb ho hd hf (wad ?_));cases hx:(ord w S ep es)[i]? with
  |none=>exact h2 hx
  |some x=>exact h1 x slot hx λh=>by rw[hb] at h;cases h
 ·rw[if_neg hb];have hb':w.params.followText "set-order"=false:=by simpa using hb
  have hld:t.led=true:=by rw[T.led,hb'];rfl
  show wpAny _ _ (if (!t.plain && decide (es.size > 1))=true then _ else _) _ _ _;rw[T.plain,if_neg xws];refine wab ?_;show wpAny _ _ (if (!t.led && !es.isEmpty)=true then _ else _) _ _ _;rw[hld,if_neg xws];refine wad (wad ?_);rw[hs hb'];have ho':ord w S ep es=es:=by unfold ord;rw[if_neg hb]
  rw[ho'] at h1 h2;have hz:=T.to.siz;cases hx:es[i]? with
  |none=>exact h2 hx
  |some x =>
   obtain ⟨hi,_⟩:=Array.getElem?_eq_some_iff.mp hx;have hp:t.place[i]? = some t.place[i]:=Array.getElem?_eq_getElem xwl;rw[hp];exact h1 x _ hx λ_=>(zlF T.to).2 i _ hp
theorem TH.fits{S:Addr}{b:Bool}{es:Array (Int×Value)}{t:SetTable}(T:TH S b es t):t.fits es.size=true:=zc8 T.to (by have:=T.room;lia)
theorem zmL{I:Addr}{o:Obj}{xs:Array Value}{Q:Array Value->Shared->Prop}{M:Model}(ho:s.heap.get? I=some o)(hd:o.data=.fields xs)(h:Q xs s):wpAny M A (fieldsOf (.ref I)) Q E s:=by unfold fieldsOf;refine wab (wpAny_load ho ?_);rw[hd];exact wad h
theorem zhA{I S:Addr}{o:Obj}{es:Array (Int×Value)}{ep i:Nat}{t:SetTable}{Q:Option Value->Shared->Prop}(hh:A.handled=none)(ho:s.heap.get? S=some o)(hd:o.data=.set es ep t)(T:TH S (!w.params.followText "set-order") es t)
  (hi:zsC s.heap I S w es ep t i) (hSI:S≠I)
  (h1:∀ x h',(ord w S ep es)[i]? = some x->zsC h' I S w es ep t (i+1)->Heap.SameBut I s.heap h'->Q (some x.2) { s with heap:=h' })
  (h2:∀ h',(ord w S ep es)[i]? = none->Heap.ExtBut I s.heap h'->Q none { s with heap:=h' }):wpAny (model prog w) A (pyNext (.ref I)) Q E s:=by
 obtain ⟨oI,slot,hoI,hcI,hdI,hsl⟩:=hi;have hT:s.TypeIs (.ref I) "set_iterator":=⟨oI,hoI,hcI⟩
 unfold pyNext;refine wab (wpAny_attempt (wpAny_callSpecial?_slot (name:=Str.ofString "__next__") hT zde (wpAny_call_entry zde hT ziG ?_ (zjC _))));show wpAny _ _ (fieldsOf (.ref I) >>= _) _ _ s;refine wab (zmL hoI hdI ?_);dsimp only;unfold setEntries;refine wab (wab (wpAny_setState_of ho hd T.fits (wad ?_)));dsimp only;simp only[bne_self_eq_false,Bool.false_eq_true,if_false,Int.toNat_natCast];refine wab (zrH (A:=A.in1) ho hd T hsl (λx slot' hx hs'=>?_) λhx=>?_)
 ·dsimp only;refine wab (wpAny_setField hoI hdI xws ?_);have hg1:=Heap.get?_update_self (Obj.mapFields λxs=>xs.setIfInBounds 0 (rawInt slot')) hoI (Obj.isFreed_of_fields (Obj.data_mapFields hdI _));refine wab (wpAny_setField hg1 (Obj.data_mapFields hdI _) xws (wad ⟨x.2,rfl,wad (h1 x _ hx ⟨_,slot',Heap.get?_update_self _ hg1 (Obj.isFreed_of_fields (Obj.data_mapFields (Obj.data_mapFields hdI _) _)),?_,?_,hs'⟩ ((Heap.SameBut.update ..).trans (Heap.SameBut.update ..)))⟩))
  ·exact (Obj.cls_mapFields ..).trans ((Obj.cls_mapFields ..).trans hcI)
  ·rw[Obj.data_mapFields (Obj.data_mapFields hdI _)];simp[rawInt]
 ·dsimp only;refine wab (wpAny_setField hoI hdI xws ?_);refine wab ?_;simp only[newExc,newTuple];refine wab (wpAny_newObj_type ?_ (by size_fits));refine wab (m:=firstArgMember _ _) (wpAny_of_eq (a:=Value.none) (by first|rfl|(simp only[firstArgMember];rfl)) ?_);refine wpAny_newObj_type ?_ (by size_fits);simp only[raiseNew];refine wab (wpAny_handled ?_);rw[show A.in1.handled=none from hh];refine wab (wad (wpAny_throw ?_));refine wab (wpAny_isInstance (T:="StopIteration") (b:=true) ⟨_,waj _ rfl,rfl⟩ isSubtype_stop ?_);exact wad (h2 _ hx (((Heap.SameBut.update ..).extBut.push _).push _))
end
theorem zgb:Slot "set_iterator" "__iter__" "set_iterator.__iter__" :=
 .of (owner:="set_iterator") (n:="__iter__") (by rw[typeLookup_type,builtinLookup_eq_fast];kernel_rfl) xwD xwD xwD (by first|exact .inl xwD|exact .inr xwD) (by rw[isSubtype_type];kernel_rfl)
theorem ziv:entryFor table "set_iterator.__iter__"=some Builtin.«dict_keyiterator.__iter__» := entryFor_alias (id':="dict_keyiterator.__iter__") xwk rfl xwD xwk
theorem zjr(a:Value):argsOk "set_iterator.__iter__" ⟨[a],[]⟩:=by unfold argsOk;kernel_rfl
def itO(S:Addr)(n ep:Nat):Obj:={ cls:=.type "set_iterator",data:=.fields #[.int (0:Nat) 0,.int (0:Nat) 0,.ref S,.int n 0,.int ep 0] }
section
variable{prog:Program}{w:World}{A:Around}{E:Value->Shared->Prop}{s:Shared}
theorem zpJ{S:Addr}{o:Obj}{es:Array (Int×Value)}{ep:Nat}{t:SetTable}{Q:Value->Shared->Prop}(ho:s.heap.get? S=some o)(hc:o.cls=.type "set")(hd:o.data=.set es ep t)(T:TH S (zeY w) es t)
  (h:Q (.ref s.heap.objs.size) { s with heap:=s.heap.push (itO S es.size ep) }):wpAny (model prog w) A (pyIter (.ref S)) Q E s:=by
 have hT:s.TypeIs (.ref S) "set":=⟨o,ho,hc⟩
 refine wpAny_pyIter_slot hT F.slot_set_iter (wpAny_call_entry F.slot_set_iter hT zjM ?_ (F.args_set_iter_1 _));show wpAny _ _ (Builtin.Frozenset.sizeOf S >>= _) _ _ s;unfold Builtin.Frozenset.sizeOf setEntries;refine wab (wab (wab (wpAny_setState_of ho hd T.fits (wad (wad ?_)))));unfold setDrawn;refine wab (wab (wpAny_setState_of ho hd T.fits ?_));dsimp only;unfold setsByText;refine wab (wab (wpAny_askSetting (wad (wad ?_))));show wpAny _ _ (if (!_ && (!t.plain && _))=true then _ else _) _ _ _;rw[T.plain,if_neg xws];refine wab (wad ?_);unfold setEpoch;refine wab (wab (wpAny_setState_of ho hd T.fits (wad ?_)));exact wab (wpAny_newObj_type (wad ⟨_,rfl,"set_iterator",_,⟨_,waj _ rfl,rfl⟩,zde.lookup,h⟩))
theorem zqj(hh:A.handled=none){I S:Addr}(hne:S≠I){es:Array (Int×Value)}{ep:Nat}{t:SetTable}(T:TH S (zeY w) es t) :
  Walks prog w A I [I,S] [I] es.size (λi v=>∃ x,(ord w S ep es)[i]? = some x/\v=x.2) (λi h=>zsC h I S w es ep t i/\∃ o,h.get? S=some o/\o.data=.set es ep t) where
 sub:=λb hb=>by simp at hb;simp[hb]
 frame:=λi h h' st hk=>by obtain ⟨⟨o,sl,a,b⟩,o2,c,d⟩:=st;exact ⟨⟨o,sl,hk I xws o a,b⟩,o2,hk S xws o2 c,d⟩
 item:=λi s Q E hi st hQ=>by
  obtain ⟨st1,o,ho,hd⟩:=st;have hz:(ord w S ep es).size=es.size:=by rw[<- Array.length_toList,(zgo w S ep es).length_eq,Array.length_toList]
  refine zhA hh ho hd T st1 hne (λx h' hx hs hb=>?_) λh' hx he=>?_
  ·exact hQ _ h' s.toks ⟨x,hx,rfl⟩ ⟨hs,o,by rw[hb.2 S hne];exact ho,hd⟩ λb o hb' e=>hb.extBut b o (λh=>hb' (by simp[h])) e
  ·rw[Array.getElem?_eq_none_iff] at hx;lia
 done:=λs Q E st hQ=>by
  obtain ⟨st1,o,ho,hd⟩:=st;have hz:(ord w S ep es).size=es.size:=by rw[<- Array.length_toList,(zgo w S ep es).length_eq,Array.length_toList]
  refine zhA hh ho hd T st1 hne (λx h' hx hs hb=>?_) λh' hx he=>?_
  ·obtain ⟨hi,_⟩:=Array.getElem?_eq_some_iff.mp hx;lia
  ·exact hQ h' s.toks λb o hb e=>he b o (λh=>hb (by simp[h])) e
 self:=λi s Q E st hQ=>by
  obtain ⟨⟨o,sl,ho,hc,_⟩,_⟩:=st;have hT:s.TypeIs (.ref I) "set_iterator":=⟨o,ho,hc⟩
  refine wpAny_pyIter_slot hT zgb (wpAny_call_entry zgb hT ziv ?_ (zjr _));show wpAny _ _ (ret (.ref I)) _ _ s;exact wad ⟨_,rfl,"set_iterator",_,hT,zde.lookup,hQ⟩
end
section
variable{prog:Program}{w:World}{A:Around}{E:Value->Shared->Prop}{s:Shared}
theorem zkM{S:Addr}{L:List (List Int×Addr)}{Q:List Value->Shared->Prop}(hh:A.handled=none)(hS:TS s.heap S (zeY w) L)(hL:L.length<=1000)
  (hQ:∀ h' tk acc,acc.Perm (L.map λx=>Value.ref x.2)->(∀ b o,s.heap.get? b=some o->h'.get? b=some o)->s.heap.objs.size<h'.objs.size->Q acc { s with heap:=h',toks:=tk }) :
  wpAny (model prog w) A (collect (.ref S)) Q E s:=by
 obtain ⟨o,es,ep,t,ho,hex,hd,T,hp⟩:=hS;have hsz:es.size=L.length:=by have:=hp.length_eq;simpa using this
 have hlt:=wai ho;unfold collect;refine wab (wpAny_runValue (codeAny_builtin F.entry_proto_collect ?_));rw[Around.under_plainId F.plain_proto_collect _];show wpAny _ A.in1 (newList [] >>= λl=>again (.builtin "list.__iadd__" ⟨[l,.ref S],[]⟩)) _ _ s;refine wab (wpAny_newObj_type ?_);refine wad ⟨plainId_quiet F.plain_list_iadd _,codeAny_builtin F.entry_list_iadd ?_⟩;rw[Around.under_plainId F.plain_list_iadd _];generalize hh1:s.heap.push { cls:=.type "list",data:=.seq ([]:List Value).toArray }=h1;have hg:h1.get? s.heap.objs.size=some { cls:=.type "list",data:=.seq ([]:List Value).toArray }:=by rw[<- hh1];exact waj _ rfl
 have ho1:h1.get? S=some o:=by rw[<- hh1];exact waa _ ho
 have hk1:∀ b o,s.heap.get? b=some o->h1.get? b=some o:=λb o e=>by rw[<- hh1];exact waa _ e
 have hz1:h1.objs.size=s.heap.objs.size+1:=by rw[<- hh1];exact Heap.size_push ..
 have hT:Shared.TypeIs { s with heap:=h1 } (.ref S) "set":=⟨o,ho1,hex.1⟩
 show wpAny _ A.in1 (Builtin.List.listExtendWith (.ref s.heap.objs.size) (.ref S) (.ref s.heap.objs.size)) _ _ _;unfold Builtin.List.listExtendWith;refine wab (wpAny_typeOf hT ?_);have e1:Builtin.List.listSameRef (.ref s.heap.objs.size) (.ref S)=false:=by simp[Builtin.List.listSameRef,Nat.ne_of_gt hlt]
 have e2:(Value.type "set" == Value.type "list")=false:=by decide
 have e3:(Value.type "set" == Value.type "tuple")=false:=by decide
 simp only[e1,e2,e3,Bool.or_false,Bool.false_eq_true,if_false];refine wab (zpJ (A:=A.in1) ho1 hex.1 hd T ?_);have hT2:Shared.TypeIs { s with heap:=h1.push (itO S es.size ep) } (.ref S) "set":=⟨o,waa _ ho1,hex.1⟩
 refine wab (wpAny_holding ?_);unfold Builtin.List.listLengthHint;refine wab (wpAny_specialOf hT2 F.slot_set_len.lookup ?_);have hid:splitId "set.__len__"=some ("set","__len__"):=by decide +kernel
 dsimp only;rw[hid];dsimp only;refine wab (wpAny_isInstance (b:=true) hT2 sub_set_self ?_);simp only[Bool.not_true,Bool.false_eq_true,if_false];rw[if_pos (show _=true by decide +kernel)];refine wab (wpAny_typeOf hT2 ?_);refine wad ?_;rw[if_pos (show _=true by decide +kernel)];refine wab (wpAny_rule ?_);refine wab ?_;generalize hh2:h1.push (itO S es.size ep)=h2;have hg2:h2.get? s.heap.objs.size=some { cls:=.type "list",data:=.seq ([]:List Value).toArray }:=by rw[<- hh2];exact waa _ hg
 have hi2:h2.get? (s.heap.objs.size+1)=some (itO S es.size ep):=by rw[<- hh2,<- hz1];exact waj _ rfl
 have hk2:∀ b o,s.heap.get? b=some o->h2.get? b=some o:=λb o e=>by rw[<- hh2];exact waa _ (hk1 b o e)
 show wpAny _ A.in1 (updateSeq s.heap.objs.size (·.push .none) >>= λ_=>updateSeq s.heap.objs.size (·.pop)) _ _ _;refine wab (wpAny_updateSeq hg2 rfl ?_);have hg3:=Heap.get?_update_self (Obj.mapSeq (·.push Value.none)) hg2 rfl;refine wpAny_updateSeq hg3 rfl ?_;have hg4:=Heap.get?_update_self (Obj.mapSeq (·.pop)) hg3 rfl;have oth:∀ b o,b≠s.heap.objs.size->h2.get? b=some o->((h2.update s.heap.objs.size (Obj.mapSeq (·.push Value.none))).update s.heap.objs.size (Obj.mapSeq (·.pop))).get? b=some o :=
  λb o hb e=>(Heap.get?_update_other _ _ (Ne.symm hb)).trans ((Heap.get?_update_other _ _ (Ne.symm hb)).trans e)
 generalize hh3:(h2.update s.heap.objs.size (Obj.mapSeq (·.push Value.none))).update s.heap.objs.size (Obj.mapSeq (·.pop))=h3 at hg4 oth ⊢;show wpAny _ _ (again (.builtin "list.extend.loop" ⟨[.ref s.heap.objs.size,.ref h1.objs.size,.ref s.heap.objs.size],[]⟩)) _ _ _;rw[hz1];have hSI:S≠s.heap.objs.size+1:=waN (Nat.lt_succ_of_lt hlt);refine wad ⟨plainId_quiet F.plain_extend_loop _,codeAny_extend_loopS ((zqj (ep:=ep) (A:=A.in1) (by simpa using hh) hSI T).toS) (by rw[hsz,sizeLine_eq];lia) _ (by simp only[wap,wak,or_false,not_or];exact ⟨waN (Nat.lt_succ_self _),Nat.ne_of_gt hlt⟩) _ es.size 0 _ _ _ rfl (Nat.zero_le _) ⟨⟨_,0,oth _ _ (Nat.ne_of_gt (Nat.lt_succ_self _)) hi2,rfl,rfl,λ_=>(zlF T.to).1⟩,o,oth _ _ (waN hlt) (hk2 _ _ ho),hd⟩ hg4 (ItemsOf.nil _) λs' acc' c' hm hS' hacc=>?_⟩
 obtain ⟨hz,hitem⟩:=hacc;have eacc:acc'.toList=(ord w S ep es).toList.map (·.2):=by
  refine List.ext_getElem? λj=>?_;rw[Array.getElem?_toList,List.getElem?_map,Array.getElem?_toList];have hz':(ord w S ep es).size=es.size:=by rw[<- Array.length_toList,(zgo w S ep es).length_eq,Array.length_toList]
  cases hj:acc'[j]? with
  |none =>
   rw[Array.getElem?_eq_none_iff] at hj;rw[Array.getElem?_eq_none_iff.mpr xwl];rfl
  |some v =>
   obtain ⟨x,hx,rfl⟩:=hitem j v hj;rw[hx];rfl
 show wpAny _ A (load s.heap.objs.size >>= _) _ _ s';refine wab (wpAny_load hS' (wad ?_));obtain ⟨h',g',d',tk',os'⟩:=s';have eg:g'=s.gens:=hm.gens;have ed:d'=s.drawn:=hm.drawn;have eo:os'=s.os:=hm.os;subst eg;subst ed;subst eo;refine hQ h' tk' acc'.toList (by rw[eacc];exact ((zgo w S ep es).map _).trans hp) (λb o' e=>?_) (wai hS');have hb:=wai e;refine hm.heap b o' ?_ (oth b o' (waN hb) (hk2 b o' e));simp only[wap,wak,or_false,not_or];exact ⟨waN hb,waN (Nat.lt_succ_of_lt hb)⟩
end
end Tx1
end
section
namespace Ts
open PySem PySem.Spec PySem.Builtin PyProof.Rows
variable{r:Keyed->Int}
def zhI:StateT SortSt Sem Unit:=sortPriv% PySem.Builtin.sortRuns
section
variable{prog:Program}{w:World}{A:Around}{E:Value->Shared->Prop}{s:Shared}
theorem Sg.arrF{kd:SortKind}{b:Array Keyed}{lo hi:Nat}{st:SortSt}(h:Sg kd r b lo st){a:Array Keyed}(k:Kp (arrOf st) lo hi a):Sg kd r b lo (setArr st a) :=
 ⟨h.kd,h.ok,k.pm.trans h.pm,h.rs.same λi _ hi=>k.out i (.inl hi)⟩
theorem zmq{n:Nat}(h1:1<=n)(h:n<64):(sortPriv% PySem.Builtin.minRun) n n 0=n:=by
 obtain ⟨k,rfl⟩ : ∃ k,n=k+1:=⟨n-1,xwl⟩
 show (if k+1<64 then k+1+0 else _)=_;rw[if_pos h]
theorem zhw{kd:SortKind}{P:Keyed->Prop}(C:Cp prog w A s kd P r){b:Array Keyed}(hP:∀ x∈b.toList,P x){st:SortSt}{Q:Unit->SortSt->Prop}(h0:Sg kd r b 0 st)(hp0:pendingOf st=#[])(hsz:1<=b.size)(h64:b.size<64)
  (h:∀ st',Sg kd r b b.size st'->(pendingOf st').size<=1->Q () st'):wpS (model prog w) A E s zhI Q st:=by
 have sz:(arrOf st).size=b.size:=h0.pm.size_eq;unfold zhI;refine waD (wpS_get ?_);have ez:((sortPriv% PySem.Builtin.SortState.a) st).size=b.size:=sz;rw[ez];refine waD (wpS_mono (Q:=λc st'=>c.1=none/\Sg kd r b b.size st'/\(pendingOf st').size<=1) (wpS_forRange (I:=λt c st'=>∃ lo,c=(none,lo)/\Sg kd r b lo st'/\(lo=0/\pendingOf st'=#[]\/lo=b.size)/\(pendingOf st').size<=1/\t<=lo) ?_ ?_ ⟨0,rfl,h0,.inl ⟨rfl,hp0⟩,by rw[hp0];decide,xwl⟩) ?_)
 ·rintro t c st1 _ ht ⟨lo,rfl,S1,hlo,hpz,htl⟩;dsimp only;refine zbD (λc1=>?_) (λc1=>?_)
  ·have:lo=b.size:=by rcases hlo with h|h <;> lia
   subst this;exact waE ⟨rfl,S1,hpz⟩
  obtain ⟨rfl,hp1⟩ : lo=0/\pendingOf st1=#[]:=by
   rcases hlo with h|h
   ·exact h
   ·exact absurd (show lo ≥ b.size by lia) c1
  have z1:(arrOf st1).size=b.size:=S1.pm.size_eq;have p1:∀ x∈(arrOf st1).toList,P x:=λx hx=>hP x ((Array.perm_iff_toList_perm.mp S1.pm).mem_iff.mp hx);refine waD (zi9 C rfl S1.kd p1 xwl xwl λa n ka n1 n2 so=>?_);dsimp only;have S2:=S1.arrF ka;have za:=ka.size;have last:∀(st2:SortSt)(N:Nat),N=b.size->Sg kd r b 0 st2->pendingOf st2=#[]->SIn r (arrOf st2) 0 N->∃ lo,((none,0+N):Option Unit×Nat)=(none,lo)/\Sg kd r b lo (setPending st2 ((pendingOf st2).push (0,N,0)))/\(lo=0/\pendingOf (setPending st2 ((pendingOf st2).push (0,N,0)))=#[]\/lo=b.size)/\(pendingOf (setPending st2 ((pendingOf st2).push (0,N,0)))).size<=1/\t+1<=lo:=λst2 N hN S3 hp2 so3=>by
   refine ⟨0+N,rfl,⟨S3.kd,S3.ok,S3.pm,?_⟩,.inr xwl,?_,xwl⟩
   ·show zky r (arrOf st2) ((pendingOf st2).push (0,N,0)).toList 0 (0+N);rw[Array.toList_push];exact S3.rs.snoc xwl so3
   ·show ((pendingOf st2).push (0,N,0)).size<=1;rw[hp2];exact wal _
  rw[zmq hsz h64];refine zbD (λc2=>?_) (λc2=>?_)
  ·refine waD (ziM ?_);have hN:min (b.size-0) b.size=b.size:=by lia
   rw[hN];refine waD (zg2 C (st:=setArr st1 a) S2.kd (λx hx=>p1 x ((Array.perm_iff_toList_perm.mp ka.pm).mem_iff.mp hx)) (show 0+b.size<=a.size by lia) xwl xwl so λa' pm out so3=>?_);refine zbD (λc3=>absurd c3 xws) (λ_=>?_);have S3:=S2.arrF ⟨pm,out⟩;have so3:SIn r (arrOf (setArr (setArr st1 a) a')) 0 b.size:=so3;have hp2:pendingOf (setArr (setArr st1 a) a')=#[]:=hp1;generalize setArr (setArr st1 a) a'=st2 at S3 so3 hp2 ⊢;refine waD (wpS_get ?_);cases hb:(pendingOf st2).back? with
   |none =>
    dsimp only;exact waD (wpS_modify (waE (last st2 b.size rfl S3 hp2 so3)))
   |some v=>rw[hp2] at hb;cases hb
  ·have hn:n=b.size:=by lia
   have so3:SIn r (arrOf (setArr st1 a)) 0 n:=so;have hp2:pendingOf (setArr st1 a)=#[]:=hp1;generalize setArr st1 a=st2 at S2 so3 hp2 ⊢;refine waD (wpS_get ?_);cases hb:(pendingOf st2).back? with
   |none =>
    dsimp only;exact waD (wpS_modify (waE (last st2 n hn S2 hp2 so3)))
   |some v=>rw[hp2] at hb;cases hb
 ·rintro c st' ⟨lo,rfl,S,g1,g2,g3⟩;have:lo=b.size:=by rcases g1 with h|h <;> lia
  subst this;exact ⟨rfl,S,g2⟩
 ·rintro ⟨c1,c⟩ st' ⟨e,S,g⟩;dsimp only at e ⊢;subst e;dsimp only;refine waD (wpS_mono (Q:=λc st'=>c.1=none/\Sg kd r b b.size st'/\(pendingOf st').size<=1) (wpS_forRange (I:=λt c st'=>c=(none,())/\Sg kd r b b.size st'/\(pendingOf st').size<=1) ?_ ?_ ⟨rfl,S,g⟩) ?_)
  ·rintro t c st1 _ ht ⟨rfl,S1,g⟩;refine waD (wpS_get ?_);exact zbD (λc1=>waE ⟨rfl,S1,g⟩) (λc1=>absurd g c1)
  ·rintro c st1 ⟨rfl,S1,g⟩;exact ⟨rfl,S1,g⟩
  ·rintro ⟨c1,c⟩ st1 ⟨e,S1,g⟩;dsimp only at e ⊢;subst e;exact waE (h st1 S1 g)
end
end Ts
end
section
namespace Ts
open PySem PyProof.Rows
section
variable{prog:Program}{w:World}{A:Around}{E:Value->Shared->Prop}{s:Shared}{r:Keyed->Int}
theorem zku{kd:SortKind}{PK:Keyed->Prop}{x:Addr}{vs:List Value}{n:Nat}{P:Fin->Shared->Prop}(ho:s.heap.get? x=some (seqObj "list" vs.toArray n))(h2:2<=vs.length)(h64:vs.length<64)
  (hkk:∀(h':Heap),(∀ b o,b≠x->s.heap.get? b=some o->h'.get? b=some o)->∀(Q:SortKind->Shared->Prop)(E:Value->Shared->Prop),Q kd { s with heap:=h' }->wpAny (model prog w) A (keyKind' vs.toArray) Q E { s with heap:=h' })
  (C:∀(h':Heap),(∀ b o,b≠x->s.heap.get? b=some o->h'.get? b=some o)->Cp prog w A { s with heap:=h' } kd PK r) (hP:∀ p∈(pairsOf vs).toList,PK p)
  (h:∀ out:Array Keyed,out.Perm (pairsOf vs)->SIn r out 0 vs.length->P (.done (.ret .none)) { s with heap:=sortedHeap s.heap x vs (out.map (·.2)) }) :
  wpAny (model prog w) A (Builtin.«list.sort» ⟨[.ref x],[]⟩) P E s:=by
 have hx:=wai ho;have hn2:¬ vs.toArray.size<2:=by rw[List.size_toArray];lia
 rw[list_sort_plain];refine wab (listItems_at ho rfl (wab (listUpdate_at ho rfl ?_)));have g1:=get?_update_seq ho λ_=>(#[]:Array Value)
 have keep:∀ b o,b≠x->s.heap.get? b=some o->(s.heap.update x (Obj.mapSeq λ_=>#[])).get? b=some o:=λb o hb e=>((Heap.SameBut.update s.heap x (Obj.mapSeq λ_=>#[])).2 b hb).trans e;refine wab (seqEpoch_at g1 rfl (wab (wpAny_newTuple (wab (wpAny_newList (wpAny_holding ?_))))));have k6:∀ b o,b≠x->s.heap.get? b=some o->(((s.heap.update x (Obj.mapSeq λ_=>#[])).push (seqObj "tuple" vs.toArray 0)).push (seqObj "list" #[] 0)).get? b=some o:=λb o hb e=>waa _ (waa _ (keep b o hb e));have g6:=waa (seqObj "list" #[] 0) (waa (seqObj "tuple" vs.toArray 0) g1);have hps:(pairsOf vs).size=vs.length:=pairsOf_size vs;show wpAny _ A _ P E { s with heap:=((s.heap.update x (Obj.mapSeq λ_=>#[])).push (seqObj "tuple" vs.toArray 0)).push (seqObj "list" #[] 0) };dsimp only;rw[if_neg hn2];refine wab (hkk _ k6 _ _ ?_);rw[if_neg hn2];have run:=zhw (E:=E) (C _ k6) hP (st:=SortSt.mk' kd (pairsOf vs) #[] 7 none) (Q:=λ_ st'=>Sg kd r (pairsOf vs) (pairsOf vs).size st'/\(pendingOf st').size<=1) ⟨rfl,rfl,.refl _,.nil⟩ rfl xwl xwl λst' S p=>⟨S,p⟩
 refine wab (wpAny_mono run ?_ λ_ _ e=>e);rintro ⟨⟨⟩,st'⟩ s' ⟨rfl,S,hp⟩;dsimp only at S hp ⊢;have so:SIn r (arrOf st') 0 vs.length:=by
  have rs:=S.rs;rw[hps] at rs;cases hl:(pendingOf st').toList with
  |nil =>
   rw[hl] at rs;generalize hv:vs.length=L at rs h2;cases rs;lia
  |cons p q =>
   have hq:q=[]:=by have:=congrArg List.length hl;rw[Array.length_toList,List.length_cons] at this;exact List.length_eq_zero_iff.mp xwl
   subst hq;rw[hl] at rs;generalize hv:vs.length=L at rs h2 ⊢;cases rs with
   |cons h1 hs t =>
    cases t;rw[Nat.zero_add];exact hs
 refine wab (seqEpoch_at g6 rfl (wab (listUpdate_at g6 rfl ?_ (hsz2:=by rw[Array.size_map,S.pm.size_eq,hps];rw[sizeLine_eq];lia))));rw[S.ok];simp only[bne_self_eq_false,Bool.false_eq_true,if_false];exact wad (h (arrOf st') S.pm so)
end
end Ts
end
section
namespace Tx1
open PySem PySem.SetTable PyProof.Rows Ts
section
variable{prog:Program}{w:World}{A:Around}{E:Value->Shared->Prop}{s:Shared}
theorem sorted_set64{S:Addr}{L:List (List Int×Addr)}{Q:Value->Shared->Prop}(hh:A.handled=none)(hS:TS s.heap S (zeY w) L)(hL:L.length<64)(ht:∀ x∈L,TupAt s.heap (.ref x.2) x.1)
  (h:∀ h' tk a c (out:List Value),out.Perm (L.map λx=>Value.ref x.2)->out.Pairwise (λa b=>lxB (intsOf s.heap b) (intsOf s.heap a)=false)->(∀ b o,s.heap.get? b=some o->h'.get? b=some o)->s.heap.objs.size<=a ->
   h'.get? a=some (seqObj "list" out.toArray c)->Q (.ref a) { s with heap:=h',toks:=tk }) :
  wpAny (model prog w) A (call (.builtin "sorted") [.ref S]) Q E s:=by
 refine Calls.call_function_entry kind_sorted plain_sorted entry_sorted (args_sorted1 (.ref S)) ?_;unfold Builtin.«sorted»;refine wab (m:=checkCount "sorted" 1 1 _) (wad (wab (zkM (by simpa using hh) hS xwl λh1 tk acc pm k1 hlt=>?_)));have hlen:acc.length<64:=by rw[pm.length_eq,List.length_map];exact hL
 have hz:acc.length<=sizeLine:=by rw[sizeLine_eq];lia
 have hle:s.heap.objs.size<=h1.objs.size:=Nat.le_of_lt hlt;have htt:∀ v∈acc,∃ l,TupAt h1 v l:=λv hv=>by obtain ⟨x,hx,rfl⟩:=List.mem_map.mp (pm.mem_iff.mp hv);exact ⟨x.1,(ht x hx).keep k1⟩
 have hint:∀ v∈acc,intsOf h1 v=intsOf s.heap v:=λv hv=>by obtain ⟨x,hx,rfl⟩:=List.mem_map.mp (pm.mem_iff.mp hv);rw[(ht x hx).ints,((ht x hx).keep k1).ints]
 refine wab (wpAny_newList ?_ hz);generalize hh2:h1.push (seqObj "list" acc.toArray 0)=h2;have ff:h2.get? h1.objs.size=some (seqObj "list" acc.toArray 0):=by rw[<- hh2];exact waj _ rfl
 have k2:∀ b o,h1.get? b=some o->h2.get? b=some o:=λb o e=>by rw[<- hh2];exact waa _ e
 have hz2:h2.objs.size=h1.objs.size+1:=by rw[<- hh2];exact size_push' ..
 have fin:∀ out:List Value,out.Perm acc->out.Pairwise (λa b=>lxB (intsOf h1 b) (intsOf h1 a)=false)->Q (.ref h1.objs.size) { s with heap:=sortedHeap h2 h1.objs.size acc out.toArray,toks:=tk }:=λout p1 p2=>by
  obtain ⟨c,hc⟩:=sortedHeap_at (out:=out.toArray) ff;refine h _ tk h1.objs.size c out (p1.trans pm) ?_ (λb o e=>?_) hle hc
  ·refine List.Pairwise.imp_of_mem (λ{a b} ha hb hab=>?_) p2;rw[<- hint _ (p1.mem_iff.mp ha),<- hint _ (p1.mem_iff.mp hb)];exact hab
  ·have hb:=wai (k1 b o e);rw[sortedHeap_old (Nat.ne_of_lt hb) (by rw[hz2];exact Nat.lt_succ_of_lt hb)];exact k2 b o (k1 b o e)
 have up:∀(h3:Heap),(∀ b o,b≠h1.objs.size->h2.get? b=some o->h3.get? b=some o)->∀ b o,h1.get? b=some o->h3.get? b=some o:=λh3 k b o e=>k b o (waN (wai e)) (k2 b o e);refine wab (wpAny_holding (wpAny_call_entry slot_list_sort ⟨_,ff,rfl⟩ entry_list_sort ?_ (args_list_sort _)));by_cases hfew:acc.length<2
 ·exact zqd (s:={ s with heap:=h2,toks:=tk }) ff hfew ⟨_,rfl,wad ⟨_,rfl,fin acc (.refl _) (zt9 hfew)⟩⟩
 ·refine zku (s:={ s with heap:=h2,toks:=tk }) (kd:=tuples' true) (r:=rkT h1 acc) (PK:=PT h1 acc) ff xwl hlen (λh3 k Q E q=>zsg (s:={ s with heap:=h1,toks:=tk }) htt xwl (up h3 k) Q E q) (λh3 k=>zvb (s:={ s with heap:=h1,toks:=tk }) (up h3 k)) (zqA htt) λout pm' so=>?_;obtain ⟨h4,h5⟩:=zuo pm' htt so;have:=fin _ h4 h5;rw[Array.toArray_toList] at this;exact ⟨_,rfl,wad ⟨_,rfl,this⟩⟩
end
end Tx1
end
section
namespace Tx1
open PySem PySem.SetTable
def pt(t:SetTable)(h:Int)(m:Nat):Nat:=(ad t m (t.probeStart h)).j
def Rc(t:SetTable)(S:List Nat)(h:Int)(j:Nat):Prop:=∃ m,m<10 * turns t.mask/\pt t h m=j/\∀ m',m'<m->pt t h m'∈S
theorem zqb{t t':SetTable}(h:t'.mask=t.mask)(p:Probe):t'.advance p=t.advance p:=by unfold advance;rw[h]
theorem zmM{t t':SetTable}(h:t'.mask=t.mask):∀ m p,ad t' m p=ad t m p
 |0,p=>rfl
 |m+1,p=>by rw[ad,ad,zqb h,zmM h m]
theorem zni{t t':SetTable}(h:t'.mask=t.mask)(hh:Int)(m:Nat):pt t' hh m=pt t hh m:=by unfold pt;rw[zmM h,show t'.probeStart hh=t.probeStart hh by unfold probeStart;rw[h]]
theorem Rc.up{t t':SetTable}{S S':List Nat}{h:Int}{j:Nat}(x:Rc t S h j)(hm:t'.mask=t.mask)(hs:∀ y∈S,y∈S'):Rc t' S' h j:=by obtain ⟨m,a,b,c⟩:=x;exact ⟨m,by rw[hm];exact a,by rw[zni hm];exact b,λm' h'=>by rw[zni hm];exact hs _ (c m' h')⟩
theorem zsz{t:SetTable}{n:Nat}(T:TO t n){j:Nat}(h:t.slot j≠.empty):j∈t.place.toList:=by
 rcases zfL T j with h'|⟨i,_,_,h'⟩
 ·exact absurd h'.1 h
 ·obtain ⟨h2,h3⟩:=Array.getElem?_eq_some_iff.mp h';rw[<- h3];exact Array.getElem_mem_toList h2
theorem zsd{t:SetTable}{n:Nat}(T:TO t n){i j:Nat}(h:t.place[i]? = some j):t.slot j=.live i:=by
 rcases zfL T j with h'|⟨i',h1,_,h'⟩
 ·obtain ⟨h2,h3⟩:=Array.getElem?_eq_some_iff.mp h;exact absurd (by rw[<- h3];exact Array.getElem_mem_toList h2) h'.2
 ·obtain ⟨a1,a2⟩:=Array.getElem?_eq_some_iff.mp h;obtain ⟨b1,b2⟩:=Array.getElem?_eq_some_iff.mp h';have:i=i':=by
   have key:∀ a b (ha:a<t.place.size) (hb:b<t.place.size),a<b->t.place[a]<t.place[b]:=λa b ha hb hab=>by have:=List.pairwise_iff_getElem.mp T.ris a b (by simpa using ha) (by simpa using hb) hab;simpa using this
   rcases Nat.lt_trichotomy i i' with z|z|z
   ·have:=key i i' a1 b1 z;lia
   ·exact z
   ·have:=key i' i b1 a1 z;lia
  rw[this];exact h1
theorem zqJ{t:SetTable}{n:Nat}(T:TO t n)(hashAt:Nat->Int)(h:Int):∀(fuel m c:Nat),PIn t (ad t c (t.probeStart h))->t.slot (pt t h (c+m))=.empty->m<fuel->(∀ c',c'<c->pt t h c'∈t.place.toList) ->
  (∃ d,probe.go t hashAt h fuel (ad t c (t.probeStart h))=some (.empty (pt t h (c+d)) none)/\d<=m/\pt t h (c+d)<=t.mask/\pt t h (c+d)∉t.place.toList/\∀ c',c'<c+d->pt t h c'∈t.place.toList) \/
  (∃ i d,probe.go t hashAt h fuel (ad t c (t.probeStart h))=some (.candidate (pt t h (c+d)) i (ad t (c+d+1) (t.probeStart h)))/\t.slot (pt t h (c+d))=.live i/\i<n/\PIn t (ad t (c+d+1) (t.probeStart h))/\d<m/\∀ c',c'<c+d+1->pt t h c'∈t.place.toList)
 |0,m,c,_,_,hm,_=>absurd hm (Nat.not_lt_zero _)
 |fuel+1,m,c,hp,he,hm,hc=>by
  unfold probe.go;have hj:(ad t c (t.probeStart h)).j=pt t h c:=rfl;have hn1:t.advance (ad t c (t.probeStart h))=ad t (c+1) (t.probeStart h):=by rw[zfS];rfl
  rw[hj];rcases zfL T (pt t h c) with ⟨h1,h2⟩|⟨i,h1,h2,h3⟩
  ·rw[h1];exact .inl ⟨0,by rw[hp.2];rfl,Nat.zero_le _,by have:=hp.1;rw[hj] at this;show pt t h c<=_;lia,h2,hc⟩
  ·rw[h1];dsimp only;have hin:=zsz T (j:=pt t h c) (by rw[h1];simp);have hc1:∀ c',c'<c+1->pt t h c'∈t.place.toList:=λc' h'=>by
    by_cases e:c'=c
    ·rw[e];exact hin
    ·exact hc c' xwl
   cases m with
   |zero=>exact absurd (h1.symm.trans he) xws
   |succ m =>
    by_cases hq:(hashAt i == h)=true
    ·rw[if_pos hq,hn1];exact .inr ⟨i,0,rfl,h1,h2,by rw[Nat.add_zero,<- hn1];exact znU hp,Nat.succ_pos _,hc1⟩
    ·rw[if_neg hq,hn1];rcases zqJ T hashAt h fuel m (c+1) (by rw[<- hn1];exact znU hp) (by rw[show c+1+m=c+(m+1) by lia];exact he) xwl hc1 with ⟨d,a,b,c0,e,f⟩|⟨i',d,a,b,c0,e,f,g⟩
     ·refine .inl ⟨d+1,?_,xwl,?_,?_,?_⟩ <;> rw[show c+(d+1)=c+1+d by lia]
      ·exact a
      ·exact c0
      ·exact e
      ·exact f
     ·refine .inr ⟨i',d+1,?_,?_,c0,?_,xwl,?_⟩ <;> rw[show c+(d+1)=c+1+d by lia]
      ·exact a
      ·exact b
      ·exact e
      ·exact g
theorem zre{t:SetTable}{n i0:Nat}(T:TO t n)(hashAt:Nat->Int)(h:Int)(h0:hashAt i0=h):∀(fuel d c:Nat),t.slot (pt t h (c+d))=.live i0->(∀ c',c'<c+d->pt t h c'∈t.place.toList)->d<fuel ->
  ∃ i d',probe.go t hashAt h fuel (ad t c (t.probeStart h))=some (.candidate (pt t h (c+d')) i (ad t (c+d'+1) (t.probeStart h)))/\t.slot (pt t h (c+d'))=.live i/\i<n/\d'<=d/\(d'=d->i=i0)
 |0,d,c,_,_,hm=>absurd hm (Nat.not_lt_zero _)
 |fuel+1,d,c,hs,hc,hm=>by
  unfold probe.go;have hj:(ad t c (t.probeStart h)).j=pt t h c:=rfl;have hn1:t.advance (ad t c (t.probeStart h))=ad t (c+1) (t.probeStart h):=by rw[zfS];rfl
  rw[hj];cases d with
  |zero =>
   rw[Nat.add_zero] at hs;rw[hs];dsimp only;rw[h0,if_pos xws,hn1];rcases zfL T (pt t h c) with ⟨h1,_⟩|⟨i,h1,h2,_⟩
   ·rw[hs] at h1;cases h1
   ·rw[hs] at h1;cases h1;exact ⟨i0,0,rfl,hs,h2,wal _,λ_=>rfl⟩
  |succ d =>
   rcases zfL T (pt t h c) with ⟨_,h2⟩|⟨i,h1,h2,_⟩
   ·exact absurd (hc c xwl) h2
   ·rw[h1];dsimp only;by_cases hq:(hashAt i == h)=true
    ·rw[if_pos hq,hn1];exact ⟨i,0,rfl,h1,h2,Nat.zero_le _,λz=>absurd z xwl⟩
    ·rw[if_neg hq,hn1];obtain ⟨i',d',a,b,e,f,g⟩:=zre T hashAt h h0 fuel d (c+1) (by rw[show c+1+d=c+(d+1) by lia];exact hs) (λc' h'=>hc c' xwl) xwl;refine ⟨i',d'+1,?_,?_,e,xwl,λz=>g xwl⟩ <;> rw[show c+(d'+1)=c+1+d' by lia]
     ·exact a
     ·exact b
theorem zjv{t:SetTable}{owner:Array (Option Nat)}:∀(fuel i p j:Nat),i<=t.mask->layClean.free t.mask owner fuel i p=some j ->
  ∃ m,m<10 * fuel/\(ad t m (run t i p)).j=j/\∀ m',m'<m->owner.getD (ad t m' (run t i p)).j (some 0)≠none
 |0,i,p,j,_,h=>by simp[layClean.free] at h
 |fuel+1,i,p,j,hi,h=>by
  unfold layClean.free at h;have hr:=(zfm hi).2;have hge:i<=runEnd t.mask i:=by unfold runEnd;split <;> lia
  have hrun:∀ m,m<=runEnd t.mask i-i->(ad t m (run t i p)).j=i+m:=λm hm=>by
   have key:∀(m k j0:Nat),m<=k->(ad t m { j:=j0,more:=k,i:=i,perturb:=p,dummy:=none }).j=j0+m:=λm=>by
    induction m with
    |zero=>intro k j0 _;rfl
    |succ m ih =>
     intro k j0 hk;show (ad t m (t.advance _)).j=_;unfold advance;rw[if_pos (show k > 0 by lia)];dsimp only;rw[ih (k-1) (j0+1) xwl];lia
   exact key m _ i hm
  cases hf:(List.range (runEnd t.mask i+1-i)).find? λk=>(owner.getD (i+k) (some 0)).isNone with
  |some k =>
   rw[hf] at h;have e:i+k=j:=waB h;have hk:=List.mem_range.mp (List.mem_of_find?_eq_some hf);refine ⟨k,xwl,by rw[hrun k xwl,e],λm' hm'=>?_⟩;rw[hrun m' xwl];obtain ⟨_,as,bs,e1,e2⟩:=List.find?_eq_some_iff_append.mp hf;have hlen:as.length=k:=by
    have:(List.range (runEnd t.mask i+1-i))[as.length]? = some k:=by rw[e1];simp
    rw[List.getElem?_range (by have:=congrArg List.length e1;simp at this;lia)] at this;exact waB this
   have hmem:m'∈as:=by
    have:(List.range (runEnd t.mask i+1-i))[m']? = as[m']? := by rw[e1,List.getElem?_append_left xwl]
    rw[List.getElem?_range xwl] at this;exact waI this.symm
   have:=e2 m' hmem;intro hn;rw[hn] at this;cases this
  |none =>
   rw[hf] at h;have hl:(leap t.mask i p).1<=t.mask:=Nat.lt_succ_iff.mp (Nat.mod_lt _ (Nat.succ_pos _));obtain ⟨m,m1,m2,m3⟩:=zjv fuel (leap t.mask i p).1 (leap t.mask i p).2 j hl h;refine ⟨runEnd t.mask i-i+1+m,xwl,by rw[zfS,ziW];exact m2,λm' hm'=>?_⟩;by_cases hle:m'<=runEnd t.mask i-i
   ·rw[hrun m' hle];have:=List.find?_eq_none.mp hf m' (List.mem_range.mpr xwl);intro hn;rw[hn] at this;exact this rfl
   ·have:=m3 (m'-(runEnd t.mask i-i+1)) xwl;rw[<- ziW,<- zfS] at this;rwa [show runEnd t.mask i-i+1+(m'-(runEnd t.mask i-i+1))=m' by lia] at this
theorem zrN(t:SetTable)(h:Int):∀ m,PIn t (ad t m (t.probeStart h))
 |0=>zq6 (Nat.lt_succ_iff.mp (Nat.mod_lt _ (Nat.succ_pos _)))
 |m+1=>by rw[zfS];exact znU (zrN t h m)
theorem zuY(t:SetTable)(h:Int)(m:Nat):pt t h m<=t.mask:=by have:=(zrN t h m).1;unfold pt;lia
def OK(t:SetTable)(all:List Int)(owner:Array (Option Nat)):Prop :=
 ∀ j k,owner.getD j none=some k->∃ h,all[k]? = some h/\∃ m,m<10 * turns t.mask/\pt t h m=j/\∀ m',m'<m->owner.getD (pt t h m') (some 0)≠none
theorem zjZ{t:SetTable}{k:Nat}(hk:t.mask+1=2 ^ k)(all:List Int):∀(hs pre:List Int)(owner:Array (Option Nat)),all=pre++hs->owner.size=t.mask+1->(lv t.mask owner).length=pre.length->((lv t.mask owner).map (·.2)).Perm (List.range pre.length)->pre.length+hs.length<=t.mask+1->OK t all owner ->
  ∃ owner',hs.foldl (zei t.mask) (some (owner,pre.length))=some (owner',pre.length+hs.length)/\owner'.size=t.mask+1/\((lv t.mask owner').map (·.2)).Perm (List.range (pre.length+hs.length))/\OK t all owner'
 |[],pre,owner,_,h1,_,h2,_,ho=>⟨owner,rfl,h1,h2,ho⟩
 |h::hs,pre,owner,ha,h1,h2,h3,h4,ho=>by
  rw[List.length_cons] at h4;obtain ⟨e,he,hn⟩ : ∃ e,e<=t.mask/\owner.getD e (some 0)=none:=Classical.byContradiction λhc=>by have:=zu0 h1 λe he hn=>hc ⟨e,he,hn⟩;lia
  obtain ⟨j,hj,hjn⟩:=zj3 hn (turns t.mask) (bits h % (t.mask+1)) (bits h) (znL hk (Nat.mod_lt _ (Nat.succ_pos _)) (zn1 h) he);have hp:=zth (m:=pre.length) h1 hjn;have hp2:=hp.map (·.2);have hl:j<owner.size:=by refine Classical.byContradiction λh=>?_;simp[Array.getD,h] at hjn
  have hne:∀ x,owner.getD x (some 0)≠none->(owner.setIfInBounds j (some pre.length)).getD x (some 0)≠none:=λx hx=>by
   by_cases hxl:x<owner.size
   ·by_cases hxj:j=x
    ·subst hxj;simp[Array.getD,hxl]
    ·simp[Array.getD,hxl,Array.getElem_setIfInBounds,hxj] at hx ⊢;exact hx
   ·simp[Array.getD,hxl]
  obtain ⟨o',r1,r2,r3,r4⟩:=zjZ hk all hs (pre++[h]) (owner.setIfInBounds j (some pre.length)) (by rw[ha];simp) (by simpa using h1) (by rw[hp.length_eq];simp[h2]) (by
   refine hp2.trans ?_;rw[List.map_cons,List.length_append,List.length_singleton,List.range_succ];exact (List.Perm.cons _ h3).trans (List.perm_append_singleton _ _).symm) (by simp;lia) (λx k hx=>by
   by_cases hxj:j=x
   ·subst hxj;simp[Array.getD,hl] at hx;subst hx;obtain ⟨m,m1,m2,m3⟩:=zjv (t:=t) _ _ _ _ (Nat.lt_succ_iff.mp (Nat.mod_lt _ (Nat.succ_pos _))) hj;exact ⟨h,by rw[ha];simp,m,m1,m2,λm' hm'=>hne _ (m3 m' hm')⟩
   ·have hx':owner.getD x none=some k:=by
     by_cases hxl:x<owner.size
     ·simp[Array.getD,hxl,Array.getElem_setIfInBounds,hxj] at hx ⊢;exact hx
     ·simp[Array.getD,hxl] at hx
    obtain ⟨h',a,m,b,c,d⟩:=ho x k hx';exact ⟨h',a,m,b,c,λm' hm'=>hne _ (d m' hm')⟩)
  rw[List.length_append,List.length_singleton] at r1 r3;refine ⟨o',?_,r2,?_,r4⟩
  ·rw[List.foldl_cons];show hs.foldl (zei t.mask) (zei t.mask (some (owner,pre.length)) h)=_;unfold zei;simp only[hj,Option.bind_eq_bind,Option.bind_some,pure];have e:(λacc h=>zei t.mask acc h)=zei t.mask:=rfl;rw[List.length_cons,show pre.length+(hs.length+1)=pre.length+1+hs.length by lia];exact r1
  ·rw[List.length_cons,show pre.length+(hs.length+1)=pre.length+1+hs.length by lia];exact r3
theorem zpP{mask k fi mo:Nat}{le pl:Bool}(hk:mask+1=2 ^ k)(hk3:3<=k)(hs:Array Int)(hl:hs.size<=mask+1) :
  ∃ t order,laid mask fi mo le pl hs=some (t,order)/\TO t hs.size/\t.mask=mask/\t.led=le/\t.plain=pl/\order.toList.Perm (List.range hs.size) /\
   order.size=t.place.size/\∀(i j k:Nat)(h:Int),t.place[i]? = some j->order[i]? = some k->hs[k]? = some h->Rc t t.place.toList h j:=by
 have key:∀ t0:SetTable,t0.mask=mask->∃ o,layClean mask hs=some o/\((lv mask o).map (·.2)).Perm (List.range hs.size)/\o.size=mask+1/\OK t0 hs.toList o:=λt0 h0=>by
  subst h0;obtain ⟨o,h1,h2,h3,h4⟩:=zjZ (t:=t0) hk hs.toList hs.toList [] (Array.replicate (t0.mask+1) none) rfl xws (by simp[lv,Array.getD]) (by simp[lv,Array.getD]) (by simpa using hl) (λj k hx=>by by_cases hxl:j<t0.mask+1 <;> simp[Array.getD,hxl] at hx)
  refine ⟨o,?_,by simpa using h3,h2,h4⟩;unfold layClean;rw[<- Array.foldl_toList];show (hs.toList.foldl (zei t0.mask) _).map _=_;have h1':hs.toList.foldl (zei t0.mask) (some (Array.replicate (t0.mask+1) none,0))=some (o,0+hs.toList.length):=h1;rw[h1'];rfl
 obtain ⟨o,hc,h3,hz,hOK⟩:=key { (SetTable.fresh 0 0 false) with mask:=mask } rfl;have hlen:(lv mask o).length=hs.size:=by have:=h3.length_eq;simpa using this
 refine ⟨_,_,by unfold laid;rw[hc];rfl,⟨⟨k,hk,hk3⟩,rfl,?_,?_,?_⟩,rfl,rfl,rfl,?_,?_,?_⟩
 ·show (List.map _ (lv mask o)).toArray.size=_;simp[hlen]
 ·show ((lv mask o).map (·.1)).Pairwise _;refine List.pairwise_map.mpr ?_;unfold lv;refine List.pairwise_filterMap.mpr ?_;refine List.Pairwise.imp (λ{a b} hab x hx y hy=>?_) (List.pairwise_lt_range (n:=mask+1));obtain ⟨_,_,rfl⟩:=Option.map_eq_some_iff.mp hx;obtain ⟨_,_,rfl⟩:=Option.map_eq_some_iff.mp hy;exact hab
 ·intro x hx;obtain ⟨y,hy,rfl⟩:=List.mem_map.mp (show x∈(lv mask o).map (·.1) from hx);obtain ⟨z,hz,hy⟩:=List.mem_filterMap.mp hy;obtain ⟨_,_,rfl⟩:=Option.map_eq_some_iff.mp hy;have:=List.mem_range.mp hz;show z<=mask;lia
 ·have:=h3;simpa [lv] using this
 ·show (List.map _ (lv mask o)).toArray.size=(List.map _ (lv mask o)).toArray.size;simp
 ·intro i j k' h hi hk' hh;have hi1:(lv mask o)[i]?.map (·.1)=some j:=by have:((lv mask o).map (·.1)).toArray[i]? = some j:=hi;simpa using this
  have hk1:(lv mask o)[i]?.map (·.2)=some k':=by have:((lv mask o).map (·.2)).toArray[i]? = some k':=hk';simpa using this
  obtain ⟨y,hy,e1⟩:=Option.map_eq_some_iff.mp hi1;rw[hy] at hk1;have e2:y.2=k':=waB hk1;obtain ⟨z,hz',hzz⟩:=List.mem_filterMap.mp (waI hy);obtain ⟨q,hq,e3⟩:=Option.map_eq_some_iff.mp hzz;subst e3;dsimp only at e1 e2;subst e1 e2;have hmem:∀ x,x<=mask->o.getD x (some 0)≠none->x∈(lv mask o).map (·.1):=λx hx ho=>by
   have hxl:x<o.size:=by lia
   cases hox:o.getD x none with
   |none=>exact absurd (by simp[Array.getD,hxl] at hox ⊢;exact hox) ho
   |some v=>exact List.mem_map.mpr ⟨(x,v),List.mem_filterMap.mpr ⟨x,List.mem_range.mpr xwl,by rw[hox];rfl⟩,rfl⟩
  obtain ⟨h',a,m,b,c,d⟩:=hOK _ _ hq;rw[Array.getElem?_toList,hh] at a;cases a;exact Rc.up (t:={ (SetTable.fresh 0 0 false) with mask:=mask }) ⟨m,b,c,λm' hm'=>hmem _ (zuY _ _ _) (d m' hm')⟩ rfl λ_ hy=>hy
end Tx1
end
section
namespace Tx1
open PySem PySem.SetTable PyProof.Rows
def RI(t:SetTable)(es:Array (Int×Value)):Prop:=∀(i j:Nat)(e:Int×Value),t.place[i]? = some j->es[i]? = some e->Rc t t.place.toList e.1 j
theorem RowAt.uniq{h:Heap}{a b:List Int}{r:Addr}(x:RowAt h a r)(y:RowAt h b r):a=b:=by
 obtain ⟨o,i,m,h1,_,h3,h4⟩:=x;obtain ⟨o',i',m',g1,_,g3,g4⟩:=y;rw[h1] at g1;cases g1;rw[h3] at g3;cases g3;have key:∀{vs:List Value}{a b:List Int},IntsAre vs a->IntsAre vs b->a=b:=λ{vs a b} p=>by
  induction p generalizing b with
  |nil=>intro q;cases q;rfl
  |cons n t _ ih=>intro q;cases q with|cons n' t' q'=>rw[ih q']
 exact key h4 g4
theorem zse{t:SetTable}{n j:Nat}{es:Array (Int×Value)}{e:Int×Value}(T:TO t n)(hj:j<=t.mask)(hn:j∉t.place.toList)(hz:es.size=n)(R:RI t es)(hr:Rc t t.place.toList e.1 j):RI (t.put j).1 (insertAt es (t.put j).2 e):=by
 obtain ⟨b0,_,_⟩:=zfr (j:=j) T.ris;have hL:(t.put j).1.place.toList=t.place.toList.take (below t.place j)++j::t.place.toList.drop (below t.place j):=toList_insertAt ..;have hE:(insertAt es (t.put j).2 e).toList=es.toList.take (below t.place j)++e::es.toList.drop (below t.place j):=toList_insertAt ..;have hsub:∀ y∈t.place.toList,y∈(t.put j).1.place.toList:=λy hy=>by
  rw[hL];rw[<- List.take_append_drop (below t.place j) t.place.toList] at hy;rcases wax.mp hy with h|h
  ·exact waS _ h
  ·exact waA _ (wah _ h)
 have hp:=T.siz;intro i j' e' h1 h2;rw[<- Array.getElem?_toList,hL] at h1;rw[<- Array.getElem?_toList,hE] at h2;have l1:(t.place.toList.take (below t.place j)).length=below t.place j:=by simp;lia
 have l2:(es.toList.take (below t.place j)).length=below t.place j:=by simp;lia
 rcases Nat.lt_trichotomy i (below t.place j) with z|z|z
 ·rw[List.getElem?_append_left xwl,List.getElem?_take,if_pos z,Array.getElem?_toList] at h1 h2;exact (R i j' e' h1 h2).up rfl hsub
 ·subst z;rw[List.getElem?_append_right xwl,l1] at h1;rw[List.getElem?_append_right xwl,l2] at h2;simp at h1 h2;subst h1 h2;exact hr.up rfl hsub
 ·rw[List.getElem?_append_right xwl,l1,List.getElem?_cons,if_neg xwl,List.getElem?_drop,Array.getElem?_toList] at h1;rw[List.getElem?_append_right xwl,l2,List.getElem?_cons,if_neg xwl,List.getElem?_drop,Array.getElem?_toList] at h2;exact (R _ j' e' h1 h2).up rfl hsub
theorem znZ{t:SetTable}{n fuel m c:Nat}{f:Nat->Int}{h:Int}{G:Option Met}(T:TO t n)(hG:probe.go t f h fuel (ad t c (t.probeStart h))=G)(he:t.slot (pt t h (c+m))=.empty)(hm:m<fuel)(hc:∀ c',c'<c->pt t h c'∈t.place.toList) :
  (∃ d,G=some (.empty (pt t h (c+d)) none)/\d<=m/\pt t h (c+d)<=t.mask/\pt t h (c+d)∉t.place.toList/\∀ c',c'<c+d->pt t h c'∈t.place.toList) \/
  (∃ i d,G=some (.candidate (pt t h (c+d)) i (ad t (c+d+1) (t.probeStart h)))/\t.slot (pt t h (c+d))=.live i/\i<n/\d<m/\∀ c',c'<c+d+1->pt t h c'∈t.place.toList):=by
 subst hG;rcases zqJ T f h fuel m c (zrN t h c) he hm hc with ⟨d,a⟩|⟨i,d,a1,a2,a3,_,a4⟩
 ·exact .inl ⟨d,a⟩
 ·exact .inr ⟨i,d,a1,a2,a3,a4⟩
theorem znt{t:SetTable}{n fuel d c i0:Nat}{f:Nat->Int}{h:Int}{G:Option Met}(T:TO t n)(hG:probe.go t f h fuel (ad t c (t.probeStart h))=G)(h0:f i0=h)(hs:t.slot (pt t h (c+d))=.live i0)(hc:∀ c',c'<c+d->pt t h c'∈t.place.toList)(hm:d<fuel) :
  ∃ i d',G=some (.candidate (pt t h (c+d')) i (ad t (c+d'+1) (t.probeStart h)))/\t.slot (pt t h (c+d'))=.live i/\i<n/\d'<=d/\(d'=d->i=i0):=by
 subst hG;exact zre T f h h0 fuel d c hs hc hm
section
variable{prog:Program}{w:World}{A:Around}{E:Value->Shared->Prop}{s:Shared}
theorem zgB{a r:Addr}{o:Obj}{es:Array (Int×Value)}{ep:Nat}{t:SetTable}{k:List Int}{h:Int}{Q:SetFound->Shared->Prop}(hu:A.units<cLine)
  (ho:s.heap.get? a=some o) (hd:o.data=.set es ep t) (T:TO t es.size) (hn:es.size<=t.mask) (x:RowAt s.heap k r)
  (hes:∀ e∈es.toList,∃ b kb,e.2=.ref b/\RowAt s.heap kb b/\kb≠k) (hQ:∀ j,j<=t.mask->j∉t.place.toList->Rc t t.place.toList h j->Q (.free j false) s) :
  ∀(fuel m c:Nat)(st:Option Probe),st.getD (t.probeStart h)=ad t c (t.probeStart h)->t.slot (pt t h (c+m))=.empty->(∀ c',c'<c->pt t h c'∈t.place.toList)->c+m<10 * turns t.mask->m<fuel ->
   wpAny (model prog w) A (setSearchFrom a (.ref r) h true fuel st) Q E s
 |0,m,c,st,_,_,_,_,hm=>absurd hm (Nat.not_lt_zero _)
 |fuel+1,m,c,st,hp,he,hc,ht,hm=>by
  unfold setSearchFrom;refine wab (wpAny_setState_of ho hd (zc8 T hn) ?_);dsimp only;rw[zqE T];simp only[Bool.false_eq_true,if_false];unfold SetTable.probe;rw[hp];generalize hG:probe.go t _ h (10 * turns t.mask) (ad t c (t.probeStart h))=G;rcases znZ T hG he xwl hc with ⟨d,rfl,hd',hj,hjn,hin⟩|⟨i,d,rfl,hs,hi,hmm,hin⟩
  ·exact wad (hQ _ hj hjn ⟨c+d,xwl,rfl,hin⟩)
  ·dsimp only;obtain ⟨b,kb,hb,hkb,hne⟩:=hes es[i] (Array.getElem_mem_toList hi);have hei:es[i]? = some (es[i].1,.ref b):=by rw[Array.getElem?_eq_getElem hi,<- hb]
   by_cases hl:(!t.led)=true;rw[if_pos hl]
   rotate_left
   rw[if_neg hl]
   rotate_left
   refine wab (zjK x _ (λv hv=>?_) ?_)
   ·obtain ⟨e,he',rfl⟩:=List.mem_map.mp hv;obtain ⟨b,kb,h1,h2,_⟩:=hes e (by rw[Array.toList_filter] at he';exact (List.mem_filter.mp he').1)
    exact ⟨b,kb,h1,h2⟩
   simp only[Bool.false_eq_true,if_false]
   all_goals
    rw[hei];dsimp only;refine wab (wpAny_holding (wpAny_eqBool_tuple hu (hkb.key (prog:=prog) (w:=w)) x.key ?_));rw[decide_eq_false hne];refine wab (wpAny_setState_of ho hd (zc8 T hn) ?_);simp only[Bool.and_false,Bool.false_eq_true,if_false,sameMemory,beq_self_eq_true,if_true];rw[hs];dsimp only;rw[hei];dsimp only;refine wab (wpAny_isSame_ref_self (wab (wad ?_)));exact zgB hu ho hd T hn x hes hQ fuel (m-(d+1)) (c+d+1) _ rfl (by rw[show c+d+1+(m-(d+1))=c+m by lia];exact he) hin xwl xwl
theorem zhz{a r:Addr}{o:Obj}{es:Array (Int×Value)}{ep i0:Nat}{t:SetTable}{k:List Int}{h:Int}{Q:SetFound->Shared->Prop}(hu:A.units<cLine)
  (ho:s.heap.get? a=some o) (hd:o.data=.set es ep t) (T:TO t es.size) (hn:es.size<=t.mask) (x:RowAt s.heap k r)
  (hes:∀ e∈es.toList,∃ b kb,e.2=.ref b/\RowAt s.heap kb b) {e0:Int×Value} (h0:es[i0]? = some e0) (hh0:e0.1=h) (hk0:∀ b kb,e0.2=.ref b->RowAt s.heap kb b->kb=k) (hQ:Q (.there none) s) :
  ∀(fuel d c:Nat)(st:Option Probe),st.getD (t.probeStart h)=ad t c (t.probeStart h)->t.slot (pt t h (c+d))=.live i0->(∀ c',c'<c+d->pt t h c'∈t.place.toList)->d<10 * turns t.mask->d<fuel ->
   wpAny (model prog w) A (setSearchFrom a (.ref r) h true fuel st) Q E s
 |0,d,c,st,_,_,_,_,hm=>absurd hm (Nat.not_lt_zero _)
 |fuel+1,d,c,st,hp,he,hc,ht,hm=>by
  unfold setSearchFrom;refine wab (wpAny_setState_of ho hd (zc8 T hn) ?_);dsimp only;rw[zqE T];simp only[Bool.false_eq_true,if_false];unfold SetTable.probe;rw[hp];generalize hG:probe.go t _ h (10 * turns t.mask) (ad t c (t.probeStart h))=G;obtain ⟨i,d',rfl,hs,hi,hle,heq⟩:=znt T hG (by show (es[i0]?.map (·.1)).getD 0=h;rw[h0];exact hh0) he hc ht;dsimp only;obtain ⟨b,kb,hb,hkb⟩:=hes es[i] (Array.getElem_mem_toList hi);have hei:es[i]? = some (es[i].1,.ref b):=by rw[Array.getElem?_eq_getElem hi,<- hb]
  by_cases hl:(!t.led)=true;rw[if_pos hl]
  rotate_left
  rw[if_neg hl]
  rotate_left
  refine wab (zjK x _ (λv hv=>?_) ?_)
  ·obtain ⟨e,he',rfl⟩:=List.mem_map.mp hv;exact hes e (by rw[Array.toList_filter] at he';exact (List.mem_filter.mp he').1)
  simp only[Bool.false_eq_true,if_false]
  all_goals
   rw[hei];dsimp only;refine wab (wpAny_holding (wpAny_eqBool_tuple hu (hkb.key (prog:=prog) (w:=w)) x.key ?_));by_cases hne:kb=k
   ·rw[decide_eq_true hne];refine wab (wpAny_setState_of ho hd (zc8 T hn) ?_);simp only[Bool.and_true,if_true];exact wad hQ
   ·rw[decide_eq_false hne];refine wab (wpAny_setState_of ho hd (zc8 T hn) ?_);simp only[Bool.and_false,Bool.false_eq_true,if_false,sameMemory,beq_self_eq_true,if_true];rw[hs];dsimp only;rw[hei];dsimp only;refine wab (wpAny_isSame_ref_self (wab (wad ?_)));have hlt:d'<d:=by
     rcases Nat.lt_or_ge d' d with z|z
     ·exact z
     ·have e1:=heq xwl;subst e1;rw[hei] at h0;cases h0;exact absurd (hk0 b kb rfl hkb) hne
    exact zhz hu ho hd T hn x hes h0 hh0 hk0 hQ fuel (d-(d'+1)) (c+d'+1) _ rfl (by rw[show c+d'+1+(d-(d'+1))=c+d by lia];exact he) (λc' h'=>hc c' xwl) xwl xwl
end
def HK(prog:Program)(w:World)(k:List Int):Int:=tupleKeyHash (intKind prog w) k
def TS2(prog:Program)(w:World)(h:Heap)(a:Addr)(led:Bool)(L:List (List Int×Addr)):Prop :=
 ∃ o es ep t,h.get? a=some o/\o.ExactSet/\o.data=.set es ep t/\TH a led es t/\(es.toList.map (·.2)).Perm (L.map λx=>.ref x.2)/\RI t es/\∀ e∈es.toList,∃ x∈L,e.2=.ref x.2/\e.1=HK prog w x.1
theorem TS2.ts{prog:Program}{w:World}{h:Heap}{a:Addr}{led:Bool}{L}(x:TS2 prog w h a led L):TS h a led L :=
 let ⟨o,e,p,t,q,b,c,d,f,_⟩:=x;⟨o,e,p,t,q,b,c,d,f⟩
theorem TS2.keep{prog:Program}{w:World}{h h':Heap}{a:Addr}{led:Bool}{L}(x:TS2 prog w h a led L)(k:∀ o,h.get? a=some o->h'.get? a=some o):TS2 prog w h' a led L :=
 x.elim λo ⟨e,p,t,q,b⟩=>⟨o,e,p,t,k o q,b⟩
section
variable{prog:Program}{w:World}{A:Around}{E:Value->Shared->Prop}{s:Shared}
theorem zmy{a:Addr}{o:Obj}{es:Array (Int×Value)}{ep:Nat}{t:SetTable}{led:Bool}{Q:Unit->Shared->Prop}(ho:s.heap.get? a=some o)(hd:o.data=.set es ep t)(T:TO t es.size)(hn:es.size<=t.mask)(hl:es.size<1001)
  (hQ:∀ es' t',es'.toList.Perm es.toList->TO t' es'.size->4 * es.size<=t'.mask->t'.mask+1<=8 * es.size+8->t'.led=t.led->t'.plain=t.plain->RI t' es'->Q () { s with heap:=s.heap.update a (Obj.putSet es' t') }) :
  wpAny (model prog w) A (setRelay a (grown es.size)) Q E s:=by
 rw[zp9 hl];unfold setRelay;refine wab (wpAny_setState_of ho hd (zc8 T hn) ?_);obtain ⟨k,h3,hk,hk1,hk2⟩:=zrJ (n:=es.size * 4) (was (m:=1048576) xwl xwd);dsimp only;rw[if_neg (by rw[hk,sizeLine_eq];lia)];have hm:sizeAbove (es.size * 4)-1+1=2 ^ k:=by rw[hk];lia
 obtain ⟨t',order,h1,h2,h4,h5,h6,h7,h8,h9⟩:=zpP (fi:=t.finger) (mo:=t.movedTo (sizeAbove (es.size * 4)-1)) (le:=t.led) (pl:=t.plain) hm h3 (es.map (·.1)) (by simp;lia);have hsz:(es.map (·.1)).size=es.size:=by simp
 rw[hsz] at h2 h7;unfold SetTable.relaid;rw[h1];have hp:(order.filterMap (λi=>es[i]?)).toList.Perm es.toList:=by rw[Array.toList_filterMap];refine (h7.filterMap _).trans ?_;rw[filterMap_getElem?_range]
 have hz:(order.filterMap (λi=>es[i]?)).size=es.size:=by rw[<- Array.length_toList,hp.length_eq,Array.length_toList]
 refine wab ?_;show wpAny _ _ (if ((order.filterMap (λi=>es[i]?)).size != es.size)=true then _ else _) _ _ _;rw[if_neg (by rw[hz];simp)];refine wad ?_;refine wpAny_storeSet_of ho hd (hQ _ _ hp (by rw[hz];exact h2) ?_ ?_ h5 h6 ?_) (by rw[hz,sizeLine_eq];lia)
 ·rw[h4,hk];lia
 ·rw[h4,hk];lia
 ·have hval:∀ i (hi:i<order.size),∃ e,es[order[i]]? = some e:=λi hi=>by have hm:=h7.mem_iff.mp (Array.getElem_mem_toList hi);have:=List.mem_range.mp hm;exact ⟨es[order[i]],Array.getElem?_eq_getElem xwl⟩
  have hat:∀(l:List Nat),(∀ x∈l,∃ e,es[x]? = some e)->∀(i:Nat),(l.filterMap λx=>es[x]?)[i]? = l[i]?.bind λx=>es[x]? := λl=>by
   induction l with
   |nil=>intro _ i;simp
   |cons x l ih =>
    intro hl i;obtain ⟨e,he⟩:=hl x wau;rw[List.filterMap_cons,he];cases i with
    |zero=>simp[he]
    |succ i=>simpa using ih (λy hy=>hl y (wah _ hy)) i
  intro i j' e hi he;rw[<- Array.getElem?_toList,Array.toList_filterMap,hat order.toList (λx hx=>by have:=List.mem_range.mp (h7.mem_iff.mp hx);exact ⟨es[x],Array.getElem?_eq_getElem xwl⟩) i,Array.getElem?_toList] at he
  obtain ⟨k',hk',he'⟩:=Option.bind_eq_some_iff.mp he;exact h9 i j' k' e.1 hi hk' (by rw[Array.getElem?_map,he'];rfl)
theorem zpz{a r:Addr}{led:Bool}{L:List (List Int×Addr)}{k:List Int}{Q:Bool->Shared->Prop}(hu:A.units<cLine)(hS:TS2 prog w s.heap a led L)(hr:∀ x∈L,RowAt s.heap x.1 x.2/\x.1≠k)
  (x:RowAt s.heap k r) (hl:L.length<1000) (hQ:∀ h',Heap.SameBut a s.heap h'->TS2 prog w h' a led ((k,r)::L)->Q true { s with heap:=h' }) :
  wpAny (model prog w) A (setAddHashed a (.ref r) (HK prog w k)) Q E s:=by
 obtain ⟨o,es,ep,t,ho,hex,hd,⟨T,hroom,hmost,hled,hpl⟩,hp,hRI,hKs⟩:=hS;have hn:es.size<=t.mask:=by lia
 have hsz:es.size=L.length:=by have:=hp.length_eq;simpa using this
 have hes:∀ e∈es.toList,∃ b kb,e.2=.ref b/\RowAt s.heap kb b/\kb≠k:=λe he=>by obtain ⟨y,hy,hye⟩:=List.mem_map.mp (hp.mem_iff.mp (List.mem_map.mpr ⟨e,he,rfl⟩));exact ⟨y.2,y.1,hye.symm,hr y hy⟩
 unfold setAddHashed setAddHashedIn;refine wpAny_holding (wab (wpAny_setState_of ho hd (zc8 T hn) ?_));dsimp only;have hb:byScan (.ref r) es=false:=rfl;rw[hb];simp only[Bool.false_eq_true,if_false];obtain ⟨hst,m,hm,hem⟩:=zms T hn (HK prog w k);refine wab ?_;unfold setSearch;refine zgB hu ho hd T hn x hes (λj hj hjn hrc=>?_) 100000 m 0 none rfl (by rw[Nat.zero_add];exact hem) (λ_ z=>absurd z (Nat.not_lt_zero _)) xwl (by unfold turns at hm;lia);have hRI1:=zse (e:=(HK prog w k,Value.ref r)) T hj hjn rfl hRI hrc;obtain ⟨T',e1,e2,e3,e4⟩:=zuz T hj hjn;dsimp only;refine wab (wpAny_setState_of ho hd (zc8 T hn) ?_);dsimp only;rw[e3,hpl];simp only[if_true];refine wab (zmf x ?_);simp only[if_true];have hpe:=insertAt_perm es (t.put j).2 (HK prog w k,Value.ref r);have hse:(insertAt es (t.put j).2 (HK prog w k,Value.ref r)).size=es.size+1:=by rw[<- Array.length_toList,hpe.length_eq];simp
 have hpL:((insertAt es (t.put j).2 (HK prog w k,Value.ref r)).toList.map (·.2)).Perm (((k,r)::L).map λx=>.ref x.2):=by refine (hpe.map _).trans ?_;rw[Array.toList_push,List.map_append];exact (List.perm_append_singleton _ _).trans (List.Perm.cons _ hp)
 have hKs1:∀ e∈(insertAt es (t.put j).2 (HK prog w k,Value.ref r)).toList,∃ x∈(k,r)::L,e.2=.ref x.2/\e.1=HK prog w x.1:=λe he=>by
  have:=hpe.mem_iff.mp he;rw[Array.toList_push,List.mem_append,List.mem_singleton] at this;rcases this with z|rfl
  ·obtain ⟨x,h1,h2⟩:=hKs e z;exact ⟨x,wah _ h1,h2⟩
  ·exact ⟨_,wau,rfl,rfl⟩
 generalize insertAt es (t.put j).2 (HK prog w k,Value.ref r)=es1 at hse hpL hRI1 hKs1 ⊢;generalize (t.put j).1=t1 at T' e1 e2 e3 e4 hRI1 ⊢;refine wab (wpAny_storeSet_of ho hd ?_ (by rw[hse,sizeLine_eq];lia));have hg:∀ es' t',(s.heap.update a (Obj.putSet es' t')).get? a=some { o with data:=.set es' (ep+1) t' }:=λes' t'=>by have:=Heap.get?_update_self (Obj.putSet es' t') ho (by rw[putSet_of es' t' hd];rfl);rw[putSet_of es' t' hd] at this;exact this
 have hsb:=λes' t'=>Heap.SameBut.update s.heap a (Obj.putSet es' t');rw[<- hse] at T';by_cases hf:(!false && t1.tooFull)=true
 ·rw[if_pos hf,<- hse];refine wab (zmy (led:=led) (hg _ _) rfl T' xwl xwl λes' t' p1 p2 p3 p4 p5 p6 p7=>?_);have hs':es'.size=es1.size:=by rw[<- Array.length_toList,p1.length_eq,Array.length_toList]
  refine wad (hQ _ ((hsb _ _).trans (Heap.SameBut.update _ a _)) ⟨_,es',ep+1+1,t',Heap.get?_update_self (Obj.putSet es' t') (hg _ _) rfl,hex,rfl,⟨p2,xwl,xwl,by rw[p5,e2,hled],by rw[p6,e3,hpl]⟩,(p1.map _).trans hpL,p7,λe he=>hKs1 e (p1.mem_iff.mp he)⟩)
 ·rw[if_neg hf];refine wad (hQ _ (hsb _ _) ⟨_,es1,ep+1,t1,hg _ _,hex,rfl,⟨T',?_,xwl,by rw[e2,hled],by rw[e3,hpl]⟩,hpL,hRI1,hKs1⟩);simp only[Bool.not_false,Bool.true_and,SetTable.tooFull,SetTable.fill,T'.siz,T'.dum,war,Array.size_empty,Nat.add_zero] at hf;lia
theorem zs1{a r:Addr}{led:Bool}{L:List (List Int×Addr)}{k:List Int}{Q:Bool->Shared->Prop}(hu:A.units<cLine)(hS:TS2 prog w s.heap a led L)(hr:∀ x∈L,RowAt s.heap x.1 x.2){b0:Addr}(h0:(k,b0)∈L)
  (x:RowAt s.heap k r) (hl:L.length<1000) (hQ:Q false s) :
  wpAny (model prog w) A (setAddHashed a (.ref r) (HK prog w k)) Q E s:=by
 obtain ⟨o,es,ep,t,ho,hex,hd,⟨T,hroom,hmost,hled,hpl⟩,hp,hRI,hKs⟩:=hS;have hn:es.size<=t.mask:=by lia
 have hsz:es.size=L.length:=by have:=hp.length_eq;simpa using this
 have hes:∀ e∈es.toList,∃ b kb,e.2=.ref b/\RowAt s.heap kb b:=λe he=>by obtain ⟨y,hy,hye⟩:=List.mem_map.mp (hp.mem_iff.mp (List.mem_map.mpr ⟨e,he,rfl⟩));exact ⟨y.2,y.1,hye.symm,hr y hy⟩
 unfold setAddHashed setAddHashedIn;refine wpAny_holding (wab (wpAny_setState_of ho hd (zc8 T hn) ?_));dsimp only;have hb:byScan (.ref r) es=false:=rfl;rw[hb];simp only[Bool.false_eq_true,if_false];obtain ⟨e0,he0,hr0⟩:=List.mem_map.mp (hp.mem_iff.mpr (List.mem_map.mpr ⟨_,h0,rfl⟩));obtain ⟨i0,hi0,rfl⟩:=List.getElem_of_mem he0;have hi0':i0<es.size:=by simpa using hi0
 have hg0:es[i0]? = some es[i0]:=Array.getElem?_eq_getElem hi0';simp only[Array.getElem_toList] at hr0 he0;have hk0:∀ b kb,es[i0].2=.ref b->RowAt s.heap kb b->kb=k:=λb kb e1 e2=>by rw[hr0] at e1;cases e1;exact e2.uniq (hr _ h0)
 have hh0:es[i0].1=HK prog w k:=by obtain ⟨y,hy,y1,y2⟩:=hKs _ he0;rw[y2,hk0 y.2 y.1 y1 (hr y hy)]
 have hpl0:i0<t.place.size:=by rw[T.siz];exact hi0'
 obtain ⟨m,m1,m2,m3⟩:=hRI i0 _ _ (Array.getElem?_eq_getElem hpl0) hg0;rw[hh0] at m2 m3;refine wab ?_;unfold setSearch;refine zhz hu ho hd T hn x hes hg0 hh0 hk0 ?_ 100000 m 0 none rfl (by rw[Nat.zero_add,m2];exact zsd T (Array.getElem?_eq_getElem hpl0)) (λc' h'=>m3 c' xwl) m1 (by unfold turns at m1;lia);exact wad hQ
end
def ddS(L:List (List Int×Addr))(x:List Int×Addr):List (List Int×Addr):=if x.1∈L.map (·.1) then L else x::L
def soFar2(rs:List (List Int×Addr))(i:Nat):List (List Int×Addr):=(rs.take i).foldl ddS []
theorem zhf{rs:List (List Int×Addr)}{i:Nat}{x}(h:rs[i]? = some x):soFar2 rs (i+1)=ddS (soFar2 rs i) x:=by obtain ⟨hi,rfl⟩:=wam.mp h;unfold soFar2;rw[List.take_succ_eq_append_getElem hi,List.foldl_append];rfl
theorem zo2:∀(rs L:List (List Int×Addr))(x),x∈rs.foldl ddS L->x∈L\/x∈rs
 |[],L,x,h=>.inl h
 |y::rs,L,x,h=>by
  rcases zo2 rs _ x h with z|z
  ·unfold ddS at z;split at z
   ·exact .inl z
   ·rcases wap.mp z with rfl|z
    ·exact .inr wau
    ·exact .inl z
  ·exact .inr (wah _ z)
theorem znA:∀(rs L:List (List Int×Addr)),(rs.foldl ddS L).length<=L.length+rs.length
 |[],L=>wal _
 |y::rs,L=>by
  have h:=znA rs (ddS L y);have:(ddS L y).length<=L.length+1:=by unfold ddS;split <;> simp
  rw[List.foldl_cons,List.length_cons];lia
theorem soFar2_mem{rs:List (List Int×Addr)}{i:Nat}{x}(h:x∈soFar2 rs i):x∈rs:=by
 rcases zo2 _ _ _ h with z|z
 ·cases z
 ·exact List.mem_of_mem_take z
theorem soFar2_len(rs:List (List Int×Addr))(i:Nat):(soFar2 rs i).length<=i:=by have:=znA (rs.take i) [];unfold soFar2;simp at this ⊢;lia
theorem znj{prog:Program}{w:World}{h:Heap}{a:Addr}{led:Bool}(ho:h.get? a=some (zqu led)):TS2 prog w h a led [] :=
 ⟨_,#[],0,.fresh 0 0 led,ho,⟨rfl,rfl,rfl⟩,rfl,⟨⟨⟨3,rfl,wal _⟩,rfl,rfl,List.Pairwise.nil,λx hx=>by cases hx⟩,show 0 * 5<7 * 3 by decide,show 7+1<=8 * 0+8 by decide,rfl,rfl⟩,List.Perm.refl _,λi j e h1 h2=>by simp at h2,λe he=>by cases he⟩
section
variable{prog:Program}{w:World}{A:Around}{E:Value->Shared->Prop}{s:Shared}
theorem zja{I l S:Addr}{rs:List (List Int×Addr)}{items:Array Value}{led:Bool}{R:Result->Shared->Prop}(hh:A.handled=none)(hu:A.units+1<cLine)(hlI:l≠I)(hSI:S≠I)(hSl:S≠l)
  (hit:items.toList=rs.map λx=>Value.ref x.2) (hrs:rs.length<=1000) :
  ∀(k i:Nat)(h:Heap)(tk:Nat),rs.length=i+k->h.IsListIter I l i->h.IsList l items->TS2 prog w h S led (soFar2 rs i)->(∀ x∈rs,RowAt h x.1 x.2/\x.2≠I/\x.2≠S) ->
   (∀ h' tk',(∀ b o,b≠I->b≠S->h.get? b=some o->h'.get? b=some o)->TS2 prog w h' S led (soFar2 rs rs.length)->R (.ok (.ret .none)) { s with heap:=h',toks:=tk' }) ->
   codeAny (model prog w) A (.builtin "set.update.loop" ⟨[.ref S,.ref I],[]⟩) R { s with heap:=h,toks:=tk }
 |k,i,h,tk,hk,hI,hL,hS,hr,hR=>by
  have hsz:items.size=rs.length:=by rw[<- Array.length_toList,hit,List.length_map]
  refine codeAny_builtin F.entry_set_update_loop ?_;rw[Around.under_plainId F.plain_set_update_loop _];show wpAny _ A.in1 (pyNext (.ref I) >>= _) _ _ _;cases k with
  |zero =>
   refine wab (wpAny_pyNext_list_end (by simpa using hh) hI hL (by rw[Array.getElem?_eq_none_iff];lia) λh' he'=>?_);show wpAny _ A.in1 (ret Value.none) _ _ _;have e:i=rs.length:=by lia
   subst e;exact wad (hR h' tk (λb o b1 _ e=>he' b o b1 e) (hS.keep λo e=>he' S o hSI e))
  |succ k =>
   have hi:i<rs.length:=by lia
   have hri:rs[i]? = some rs[i]:=wac hi;have hxi:items[i]? = some (.ref rs[i].2):=by rw[<- Array.getElem?_toList,hit,List.getElem?_map,hri];rfl
   refine wab (wpAny_pyNext_list_item hI hL hxi λh' hI' hs'=>?_);have hm:=List.getElem_mem hi;have hr':∀ x∈rs,RowAt h' x.1 x.2/\x.2≠I/\x.2≠S:=λx hx=>⟨(hr x hx).1.keep λo e=>by rw[hs'.2 _ (hr x hx).2.1];exact e,(hr x hx).2⟩
   show wpAny _ A.in1 (holding [Value.ref rs[i].2] (setAdd S (.ref rs[i].2)) >>= _) _ _ _;refine wab (wpAny_holding ?_);unfold setAdd;refine wpAny_holding (wab (wpAny_pyHash_tuple (by simpa using hu) ((hr' _ hm).1.key (prog:=prog) (w:=w)) ?_));have hS':=hS.keep (h':=h') λo e=>by rw[hs'.2 _ hSI];exact e
   have hrs':∀ x∈soFar2 rs i,RowAt h' x.1 x.2:=λx hx=>(hr' x (soFar2_mem hx)).1;have hl':(soFar2 rs i).length<1000:=by have:=soFar2_len rs i;lia
   have go:∀ h2,Heap.SameBut S h' h2->TS2 prog w h2 S led (soFar2 rs (i+1))->∀ tk2,codeAny (model prog w) A (.builtin "set.update.loop" ⟨[.ref S,.ref I],[]⟩) R { s with heap:=h2,toks:=tk2 }:=λh2 hsb hS2 tk2 =>
    zja hh hu hlI hSI hSl hit hrs k (i+1) h2 tk2 xwl (hI'.at λo e=>by rw[hsb.2 _ (Ne.symm hSI)];exact e) ((hL.at λo e=>by rw[hs'.2 _ hlI];exact e).at λo e=>by rw[hsb.2 _ (Ne.symm hSl)];exact e) hS2
     (λx hx=>⟨(hr' x hx).1.keep λo e=>by rw[hsb.2 _ (hr x hx).2.2];exact e,(hr x hx).2⟩) λh3 tk3 k3 hS3=>hR h3 tk3 (λb o b1 b2 e=>k3 b o b1 b2 (by rw[hsb.2 b b2,hs'.2 b b1];exact e)) hS3
   by_cases hin:rs[i].1∈(soFar2 rs i).map (·.1)
   ·obtain ⟨y,hy,hye⟩:=List.mem_map.mp hin;refine zs1 (L:=soFar2 rs i) (led:=led) (k:=rs[i].1) (b0:=y.2) (by simpa using hu) hS' hrs' (by rw[<- hye];exact hy) (hr' _ hm).1 hl' ?_;exact wad ⟨plainId_quiet F.plain_set_update_loop _,go h' (Heap.SameBut.refl _ _) (by rw[zhf hri,ddS,if_pos hin];exact hS') _⟩
   ·refine zpz (L:=soFar2 rs i) (led:=led) (k:=rs[i].1) (by simpa using hu) hS' (λx hx=>⟨hrs' x hx,λz=>hin (List.mem_map.mpr ⟨x,hx,z⟩)⟩) (hr' _ hm).1 hl' λh2 hsb hS2=>?_;exact wad ⟨plainId_quiet F.plain_set_update_loop _,go h2 hsb (by rw[zhf hri,ddS,if_neg hin];exact hS2) _⟩
set_option maxHeartbeats 1600000 in
theorem call_set_rows2{l:Addr}{items:Array Value}{rs:List (List Int×Addr)}{Q:Value->Shared->Prop}(hh:A.handled=none)(hu:A.units+9<cLine)(hl:s.heap.IsList l items)
  (hit:items.toList=rs.map λx=>Value.ref x.2) (hr:∀ x∈rs,RowAt s.heap x.1 x.2) (hrs:rs.length<=1000)
  (h:∀ h' tk,TS2 prog w h' s.heap.objs.size (zeY w) (soFar2 rs rs.length)->(∀ b o,s.heap.get? b=some o->h'.get? b=some o)->Q (.ref s.heap.objs.size) { s with heap:=h',toks:=tk }) :
  wpAny (model prog w) A (call (.type "set") [.ref l]) Q E s:=by
 obtain ⟨c,tl,hmro⟩:=F.called_set.mro;have hmade:=F.called_set.made;have hsub:=F.called_set.sub;refine wpAny_call (codeAny_of_tree ?_);show wpAny _ _ (callAny (.type "set") _) _ _ _;refine wad ⟨Code.quiet_builtin _ xwD,codeAny_builtin F.entry_type_call ?_⟩;rw[Around.under_plain (weight_type_call_type "set" [.ref l] []) rfl];have h1:=F.called_set.notType;have h2:=F.called_set.canCreate;have hct:=F.typeCall_set_1 (.ref l)
 repeat (any_goals (first|assumption|wp_step))
 refine codeAny_mono (zrO (.ref l) (E:=E) (Q:=λobj s₁=>obj=.ref s.heap.objs.size/\s₁={ s with heap:=s.heap.push (zqu (zeY w)) }) ⟨rfl,rfl⟩) λr s₁ hr₁=>?_;cases r with
 |error e=>exact hr₁
 |ok fl =>
  cases fl with
  |ret obj =>
   obtain ⟨rfl,rfl⟩:=hr₁;have hS:(s.heap.push (zqu (zeY w))).get? s.heap.objs.size=some (zqu (zeY w)):=waj _ rfl;have hT:Shared.TypeIs { s with heap:=s.heap.push (zqu (zeY w)) } (.ref s.heap.objs.size) "set":=⟨_,hS,rfl⟩
   have hli:=F.called_set.init.lookup;have hbi:=F.called_set.init.bind (.ref s.heap.objs.size)
   repeat (any_goals (first|assumption|wp_step))
   refine codeAny_mono (codeAny_call_builtin (R:=wants (λr s₂=>r=.none/\∃ h' tk,s₂={ s with heap:=h',toks:=tk }/\TS2 prog w h' s.heap.objs.size (zeY w) (soFar2 rs rs.length)/\(∀ b o,s.heap.get? b=some o->h'.get? b=some o)) E) F.called_set.init.plain F.entry_set_init (check_set_init_1 hT ?_)) λr₂ s₂ hr₂=>?_
   ·obtain ⟨ol,hol,hcl,nl,hdl⟩:=hl;obtain ⟨ocls,odict,odata,oslots⟩:=ol;simp only at hcl hdl;subst hcl;subst hdl;have hol':(s.heap.push (zqu (zeY w))).get? l=some { cls:=.type "list",dict:=odict,data:=.seq items nl,slots:=oslots }:=waa _ hol;have hsls:=F.sub_list_set;have hslf:=F.sub_list_frozenset;have hne:(Value.type "list" == Value.type "dict")=false:=by decide
    have hl1:(s.heap.push (zqu (zeY w))).IsList l items:=⟨_,hol',rfl,nl,rfl⟩
    unfold Builtin.«set.__init__» noKeywords Builtin.Frozenset.updateFrom;generalize hPI:pyIter=PI
    wp_walk
    subst hPI;refine wpAny_pyIter_list hl1 (wab (wpAny_runValue ?_));have hlS:l<s.heap.objs.size:=wai hol;have hzI:(s.heap.push (zqu (zeY w))).objs.size=s.heap.objs.size+1:=Heap.size_push ..;refine zja (s:=s) (led:=zeY w) (l:=l) (by simp[hh]) (by simp;lia) (by rw[hzI];exact waN (Nat.lt_succ_of_lt hlS)) (by rw[hzI];exact waN (Nat.lt_succ_self _)) (Nat.ne_of_gt hlS) hit hrs rs.length 0 _ s.toks xwl ⟨_,waj _ rfl,rfl,rfl⟩ (hl1.push _) (znj (waa _ hS)) (λx hx=>?_) λh' tk' k3 hS3=>?_
    ·obtain ⟨o,i,m,ho,q⟩:=hr x hx;have:=wai ho;exact ⟨⟨o,i,m,waa _ (waa _ ho),q⟩,by rw[hzI];exact waN (Nat.lt_succ_of_lt this),waN this⟩
    ·show wpAny _ _ _ _ _ _;refine wad ?_;show wpAny _ _ (ret Value.none) _ _ _;refine wad ⟨rfl,h',tk',rfl,hS3,λb o e=>?_⟩;have:=wai e;exact k3 b o (by rw[hzI];exact waN (Nat.lt_succ_of_lt this)) (waN this) (waa _ (waa _ e))
   ·cases r₂ with
    |error e=>exact hr₂
    |ok fl₂ =>
     cases fl₂ with
     |ret r =>
      obtain ⟨rfl,h',tk,rfl,hS',hk'⟩:=hr₂
      repeat (any_goals (first|assumption|wp_step))
      exact h _ _ hS' hk'
     |_=>exact hr₂.elim
  |_=>exact hr₁.elim
end
end Tx1
end
section
namespace PV
open PySem PySem.Spec L2 PyProof.Rows
def ddL(l:List (List Int)):List (List Int):=l.foldl (λL x=>if x∈L then L else x::L) []
theorem zlH:∀(rs L:List (List Int×Addr)),(rs.foldl Tx1.ddS L).map (·.1)=(rs.map (·.1)).foldl (λL x=>if x∈L then L else x::L) (L.map (·.1))
 |[],L=>rfl
 |y::rs,L=>by rw[List.foldl_cons,zlH rs,List.map_cons,List.foldl_cons];congr 1;unfold Tx1.ddS;split <;> rfl
def zqM(K:W.Frag):List V->Hp->VK->Prop:=λxs H Q=>∃(p:Addr)(ps:List (Addr×List Int)),xs=[.ref p]/\SqL K H p (ps.map λq=>V.ref q.1)/\(∀ q∈ps,SqT K H q.1 (q.2.map V.int)/\q.2≠[])/\ps.length<64 /\
 ∀ ps':List (Addr×List Int),(∀ q∈ps',q∈ps)->ps'.map (·.2)=zfM (ddL (ps.map (·.2)))->∀ l,H l=none->Q (.ref l) (upd H l (.lst (ps'.map λq=>V.ref q.1)))
section
variable{X:Cx}{C:Cn}{fa:De}{x:Expr}{p p2 pos pos2:Pos}
theorem zqv{ta:TA}(hc:X.calm=true)(hu:X.A.units+64<cLine)(hg:Gl X "sorted")(hm:X.mg "sorted"=none)(hg2:Gl X "set")(hm2:X.mg "set"=none)(ha:PA X [x] ta)
  (hs1:starEach [.Call (.Name "set" p2) [x] [] pos2] X.env=(false,eval (.Call (.Name "set" p2) [x] [] pos2) X.env)::starEach [] X.env:=by rfl) (hpl1:(backTo pos (starEach [] X.env)).any (·.1)=false:=by rfl)
  (hs2:starEach [x] X.env=(false,eval x X.env)::starEach [] X.env:=by rfl) (hpl2:(backTo pos2 (starEach [] X.env)).any (·.1)=false:=by rfl) :
  PE X (.Call (.Name "sorted" p) [.Call (.Name "set" p2) [x] [] pos2] [] pos) (tCB (zqM X.K) ta):=by
 intro pS s Y H Q I h;refine wpAny_Call_Name_kw (zfn I hg hm boot_sorted (callWith_builtin1 ?_ hs1 hpl1) xwd xwd);rw[hs1];show wpAny _ _ (spliced ((false,eval _ X.env)::backTo pos (starEach [] X.env))) _ _ s;refine Calls.spliced_cons ?_;refine wpAny_Call_Name_kw (zfn I hg2 hm2 boot_set (callWith_type1 (thn (ha pos2 pS s Y H _ I h) λus s1 ⟨vs,H1,I1,r1,q1⟩=>?_) hs2 hpl2) xwd xwd);obtain ⟨l,ps,rfl,hq,ht,hlen,q⟩:=q1;obtain ⟨u,rfl,ru⟩:=zhQ r1;cases ru;obtain ⟨its,rv,pl,hz⟩:=I1.list hq;have e0:(ps.map λq=>V.ref q.1)=(ps.map (·.1)).map V.ref:=by rw[List.map_map];rfl
 rw[e0] at rv;have ei:=zkz rv;have tup:∀ q∈ps,Ts.TupAt s1.heap (.ref q.1) q.2/\Tx1.RowAt s1.heap q.2 q.1:=λq hq'=>by obtain ⟨h1,h2⟩:=ht q hq';obtain ⟨its',rv',⟨o,ho,hc,n,hd⟩,hz'⟩:=I1.tuple h1;exact ⟨⟨⟨q.1,o,its'.toArray,n,rfl,ho,hc,hd,by simpa using ztm rv'⟩,h2⟩,o,its'.toArray,n,ho,hc,hd,by simpa using L2.intsAre_of rv'⟩
 have hh:=I1.ok.hd hc;refine Tx1.call_set_rows2 (rs:=ps.map λq=>(q.2,q.1)) hh xwl pl.isList (by rw[ei,List.map_map,List.map_map];rfl) (λy hy=>?_) (by rw[List.length_map];lia) λh2 tk2 hS2 k2=>?_
 ·obtain ⟨q,hq',rfl⟩:=List.mem_map.mp hy;exact (tup q hq').2
 refine Calls.spliced_nil ?_;have hS3:=hS2.ts;have hlL:=Tx1.soFar2_len (ps.map λq=>(q.2,q.1)) (ps.map λq=>(q.2,q.1)).length;have hk:=zlH (ps.map λq=>(q.2,q.1)) [];have hmm:∀ y∈Tx1.soFar2 (ps.map λq=>(q.2,q.1)) (ps.map λq=>(q.2,q.1)).length,(y.2,y.1)∈ps:=λy hy=>by obtain ⟨q,hq',rfl⟩:=List.mem_map.mp (Tx1.soFar2_mem hy);exact hq'
 have hk':(Tx1.soFar2 (ps.map λq=>(q.2,q.1)) (ps.map λq=>(q.2,q.1)).length).map (·.1)=ddL (ps.map (·.2)):=by unfold Tx1.soFar2;rw[List.take_length,hk,List.map_map];rfl
 generalize Tx1.soFar2 (ps.map λq=>(q.2,q.1)) (ps.map λq=>(q.2,q.1)).length=L at hS2 hS3 hlL hmm hk';rw[List.length_map] at hlL;have tup2:∀ q∈ps,Ts.TupAt h2 (.ref q.1) q.2:=λq hq'=>(tup q hq').1.keep k2;have tup3:∀ y∈L,Ts.TupAt h2 (.ref y.2) y.1:=λy hy=>tup2 _ (hmm y hy);refine Tx1.sorted_set64 (s:={ s1 with heap:=h2,toks:=tk2 }) hh hS3 xwl tup3 λh3 tk3 a c out pm so k3 hle hat=>?_;have hsz:s1.heap.objs.size<h2.objs.size:=by obtain ⟨o,_,_,_,ho,_⟩:=hS2;exact wai ho
 let back:Value->Addr×List Int:=λv=>(match v with|.ref a=>a|_=>0,Ts.intsOf h2 v)
 have eb:(L.map λy=>Value.ref y.2).map back=L.map λy=>(y.2,y.1):=by rw[List.map_map];refine List.map_congr_left λy hy=>?_;show (y.2,Ts.intsOf h2 (.ref y.2))=_;rw[(tup3 y hy).ints]
 have pm':(out.map back).Perm (L.map λy=>(y.2,y.1)):=by rw[<- eb];exact pm.map back
 have eo:out=((out.map back).map (·.1)).map Value.ref:=by
  rw[List.map_map,List.map_map];have:∀ v∈out,v=((Value.ref ∘ λx=>x.1) ∘ back) v:=λv hv=>by obtain ⟨q,h1,rfl⟩:=List.mem_map.mp (pm.mem_iff.mp hv);rfl
  calc out=out.map id:=(List.map_id _).symm
   _=_:=List.map_congr_left this
 have es:(out.map back).map (·.2)=zfM (ddL (ps.map (·.2))):=by
  refine ziL ((pm'.map _).trans ?_) ?_ (zgP _)
  ·rw[List.map_map,<- hk'];exact (ze5 _).symm
  rw[List.map_map,List.pairwise_map];refine so.imp λ{a b} hab=>?_;show leL (Ts.intsOf h2 a) (Ts.intsOf h2 b)=true;unfold leL;rw[hab];rfl
 have hlen':out.length<=sizeLine:=by rw[pm.length_eq,List.length_map,sizeLine_eq];lia
 have hle':s1.heap.objs.size<=a:=waO (Nat.le_of_lt hsz) hle;have hsub:∀ q∈out.map back,q∈ps:=λq hq'=>by obtain ⟨y,hy,rfl⟩:=List.mem_map.mp (pm'.mem_iff.mp hq');exact hmm y hy
 refine ⟨.ref a,_,I1.laid (t':=tk3) (λb o e=>k3 b o (k2 b o e)) hle' (o:=.lst ((out.map back).map λq=>V.ref q.1)) ⟨?_,out,c,?_,hat⟩,rfl,q _ hsub es _ (I1.hok.fresh hle')⟩
 ·rw[List.length_map,List.length_map];exact hlen'
 ·have e1:((out.map back).map λq=>V.ref q.1)=((out.map back).map (·.1)).map V.ref:=by rw[List.map_map,List.map_map,List.map_map];rfl
  have e2:=zfO ((out.map back).map (·.1));rw[<- eo] at e2;rw[e1];exact e2
def zeE:List Dt->R (List Dt)
 |[.lst l]=>match zrS l with
  |some ls=>if ls.length<64 then .ok ((zfM (ddL ls)).map zu7) else .no
  |none=>.no
 |_=>.no
theorem zpU{K:W.Frag}:FnN K (zqM K) zeE:=λG H vs ds z Q gh hr e k=>by
 unfold zeE at e;split at e
 ·split at e
  ·rename_i ls el;split at e
   ·rename_i hnl;obtain ⟨v,rfl,h1⟩:=zge hr;obtain ⟨a,us,rfl,h2,h3⟩:=zbi h1;cases e;obtain ⟨ps,e1,e2,e3⟩:=zji h3 el;subst e1;rw[<- e2] at hnl;refine ⟨a,ps,rfl,SqL.of (gh _ _ h2),λq hq=>⟨za8 gh (e3 q hq).1.sq,(e3 q hq).2⟩,by simpa using hnl,λps' pm es l hl=>k l _ hl ?_⟩;rw[<- e2,<- es];exact zkc λq hq=>e3 q (pm q hq)
   ·cases e
  ·cases e
 ·cases e
theorem zqs:zlk zeE:=λx n h=>by
 unfold zeE at h;split at h
 ·split at h
  ·split at h <;> cases h
  ·cases h
 ·cases h
theorem zoJ(hc:X.calm=true)(hu:X.A.units+64<cLine)(hg:Gl X "sorted")(hm:X.mg "sorted"=none)(hg2:Gl X "set")(hm2:X.mg "set"=none)(ha:JE X C x fa)
  (hs1:starEach [.Call (.Name "set" p2) [x] [] pos2] X.env=(false,eval (.Call (.Name "set" p2) [x] [] pos2) X.env)::starEach [] X.env:=by rfl) (hpl1:(backTo pos (starEach [] X.env)).any (·.1)=false:=by rfl)
  (hs2:starEach [x] X.env=(false,eval x X.env)::starEach [] X.env:=by rfl) (hpl2:(backTo pos2 (starEach [] X.env)).any (·.1)=false:=by rfl) :
  JN X C (.Call (.Name "sorted" p) [.Call (.Name "set" p2) [x] [] pos2] [] pos) (ze8 zeE (dA fa dA0)) :=
 PE.weak (zqv hc hu hg hm hg2 hm2 (zac ha zaq hs2) hs1 hpl1 hs2 hpl2) λY H Q t=>zin zpU zqs t
end
theorem zfv{X:Cx}{C:Cn}{l:List Stmt}:JSs X C l dNo:=λ_ _ _ _ _ _ ⟨_,_,_,_,p⟩=>p.elim
theorem eqR5(n:Int)(l:Nat):gEq false (.lst (List.replicate l (.lst [.int n]))) (.lst (List.replicate l (.lst [.int n])))=.ok (.bl true):=by
 have h:=eqR n l;unfold gEq at h ⊢;split at h
 ·rename_i c;rw[if_pos c];cases e:eqD (.lst (List.replicate l (.lst [.int n]))) (.lst (List.replicate l (.lst [.int n]))) with
  |true=>rfl
  |false=>rw[e] at h;cases h
 ·cases h
def zmV:Dt->Dt->R Dt
 |.int a,.int b=>.ok (.bl (decide (a<b)))
 |.tup x,.tup y=>match ziY x,ziY y with
  |some a,some b=>.ok (.bl (HT.lexLt a b))
  |_,_=>.no
 |_,_=>.no
def rLtG(K:W.Frag):R2:=λx y H Q=>rI0 (λi j=>.bl (decide (i<j))) x y H Q\/rLtT K x y H Q
section
variable{X:Cx}{C:Cn}{a b:Expr}{fa fb:De}{pos:Pos}
theorem zuw(hu:X.A.units<cLine):OpR X (compareOp .Lt) (rLtG X.K):=by
 intro x y u v pS s Y H Q I hx hy h;rcases h with h|h
 ·exact zou x y u v pS s Y H Q I hx hy h
 ·exact zun hu x y u v pS s Y H Q I hx hy h
theorem zrx{K:W.Frag}:Op2 K (rLtG K) zmV:=λG H x y dx dy z Q gh hx hy e k=>by
 unfold zmV at e;split at e
 ·cases e;exact .inl ⟨_,_,zay hx,zay hy,k _ G H (.refl gh) (zbF _)⟩
 ·split at e
  ·rename_i e1 e2;cases e;obtain ⟨p,vs,rfl,h1,h2⟩:=zb5 hx;obtain ⟨q,ws,rfl,h3,h4⟩:=zb5 hy;rw[zgF h2 e1] at h1;rw[zgF h4 e2] at h3;exact .inr ⟨p,q,_,_,rfl,rfl,za8 gh h1,za8 gh h3,k _ G H (.refl gh) (zbF _)⟩
  ·cases e
 ·cases e
theorem zp0:zgt zmV:=λx y n h=>by
 unfold zmV at h;split at h
 ·cases h
 ·split at h <;> cases h
 ·cases h
theorem zt7(hu:X.A.units+64<cLine)(ha:JE X C a fa)(hb:JE X C b fb):JE X C (.Compare a [.Lt] [b] pos) (dOp zmV fa fb):=zjg (zuw xwl) zrx zp0 ha hb (zdY _)
end
def zik(j ci:Nat)(q:Str)(n:Nat)(f1 f2 f3 f4 f5:De):DS:=λZ=>match Z[j]?,Z[ci]? with
 |some (some (.tab q')),some none=>if q'=q/\n<8/\zmI n (f1 (zcL Z))=true/\zmI n (f2 (zcL Z))=true/\zmI n (f3 (zcL Z))=true/\zmI n (f4 (zcL Z))=true/\zmI n (f5 (zcL Z))=true then .ok (.rt (.bl true),Z) else .no
 |_,_=>.no
section
variable{X:Cx}{C:Cn}{P f:Addr}{fd:FuncData}{st:Stmt}{xq xr xc xl:Str}{NR N':List Str}{m k n ci j l:Nat}{dB:Nat->Addr->DS}{Z:Ev}{G0 H0:Hp}{w:Wn}{scope:Scope}{p1 p2 p3 p4 p5 pos:Pos}
 (LB:zgu X P) (hjp:j∈C.pp) (hσ0:C.σ₀[j]? = some (some (.ref P))) (hip:ci∉C.pp)
include LB hjp hσ0 hip
variable(cls:Nat->Addr)(hxv:∀ n,n<8->C.xv n=.ref (cls n))(hfn:X.fn=λ_=>true)
 (Fu:Fun X.K xq xr st f fd) (S:zau NR ["call"] (zah st)) (hNR:NR.length=m+1) (hbi:zfw X.K fd ["call"] []) (hm:X.mg xr=some (.ref f)) (hr:zd5 (k+2) X.A) (hu:X.A.units+64<cLine)
 (hB:∀(C:Cn),(∀ n,n<8->C.xv n=.ref (cls n))->HB X C xr st f NR k cls dB) (hden:HD m dB)
include hxv hfn Fu S hNR hbi hm hr hu hB hden
omit LB hjp hσ0 in
theorem zuK(cb:zsY X xr xc xl ci scope N' p2 p3 p5){rhs:Expr}{fR:De}(hR:∀ C,JE X C rhs fR)(hRd:∀ Z,fR Z=.ok (.lst (List.replicate l (.lst [.int n])),Z))(hl:l<9)(hn8:n<8)(hnw:C.nw=false){q12 q13:Pos} :
  PS X (.Return (some (.Compare (.ListComp (.Call (.Name xr p1) [.Name xc p2] [] p3) [⟨.Name xc p4,.Name xl p5,[],0⟩] scope pos) [.Eq] [rhs] q12)) q13) λD Y H=>CS X C k n ci Z G0 H0 w l Y H/\∀ Y' H' G' w',Rel X.K C G' w' Z Y' H'->zbB G0 H0 w G' H' w'->D.rt (.bl true) H':=by
 intro pS s Y H D I ⟨⟨p,G,Fs,el,hs,r,st,h0,hC0,hp,gp,wp,hF⟩,kx⟩;subst el;have hρl:Z.length=X.N.length:=by rw[r.len,I.len]
 obtain ⟨rK,SK⟩:=r.know hp gp wp H0 G0 w st h0 (.inl hC0);have sg:zbU G (upd G p (.lst (Fs.map V.ref))):=λb u e=>by rw[zaj (zak e gp)];exact e
 let C4:Cn:=⟨upd G p (.lst (Fs.map V.ref)),H,w,List.range X.N.length,Y,C.ex,C.xv,C.nw⟩
 have hj4:=zpI (C:=C4) (k:=k) (n:=n) (dB:=dB) cls hxv hfn Fu S hNR hbi hm hr (hB C4 hxv) hden hn8 rfl (Fs:=Fs) hs zan (Z0:=Z) (λFa z=>(hF Fa z).same sg) (λi d e=>rK.sl i _ e) hρl xwl (p1:=p1) (p4:=p4) (pos:=pos) cb;refine (za3 (C:=C4) hnw (zjT hu (zaz hj4) (hR C4))) pS s Y H D I ⟨upd G p (.lst (Fs.map V.ref)),w,Z,⟨rK.gh,rK.wg,rK.wh,rK.len,rK.sl,.refl _ _ _,λ_ _=>rfl⟩,?_⟩;have e4:(zbp (dOp (gEq false) (dFz (λZ=>if Z.length=X.N.length then .ok (List.replicate Fs.length (.lst [.int n]),Z) else .no)) fR):DS) Z=.ok (.rt (.bl true),Z):=by unfold zbp dOp dFz;simp only[hρl,if_true,R.bind_ok,hRd,eqR5]
 rw[e4];intro v Y' G' H' w' st' r' q';have q2:RtG false X.K C4.H₀ G' H' w' (.bl true) v:=by rw[<- hnw];exact q'
 obtain rfl:=zdb (K:=X.K) (G:=G') q2;have sl':Y'.length=X.N.length:=by rw[<- r'.len,hρl]
 refine kx Y' H' G' w' ⟨r'.gh,r'.wg,r'.wh,r'.len,r'.sl,rK.en.trans st',λi hi=>?_⟩ (SK.trans st');rw[<- rK.pin i hi];by_cases hiN:i<X.N.length
 ·exact r'.pin i (List.mem_range.mpr hiN)
 ·rw[List.getElem?_eq_none xwl,List.getElem?_eq_none (by rw[I.len];lia)]
theorem zm2{pa1:Arguments}{b1:Expr}{s1:Scope}{f1:De}{pa2:Arguments}{b2:Expr}{s2:Scope}{f2:De}{pa3:Arguments}{b3:Expr}{s3:Scope}{f3:De}{pa4:Arguments}{b4:Expr}{s4:Scope}{f4:De}{pa5:Arguments}{b5:Expr}{s5:Scope}{f5:De}(A1:zga X C.xv k pa1 b1 s1 f1)(A2:zga X C.xv k pa2 b2 s2 f2)(A3:zga X C.xv k pa3 b3 s3 f3)(A4:zga X C.xv k pa4 b4 s4 f4)(A5:zga X C.xv k pa5 b5 s5 f5)
  (hN:X.N.Nodup) (hlx:Loc X.env.scope xl) (cb:zsY X xr xc xl ci scope N' p2 p3 p5) {rhs:Expr} {fR:De} (hR:∀ C,JE X C rhs fR) (hRd:∀ Z,fR Z=.ok (.lst [.lst [.int n],.lst [.int n],.lst [.int n],.lst [.int n],.lst [.int n]],Z)) (hnw:C.nw=false)
  {l1 l2 l3 l4 l5 q1 q2 q3 q12 q13 q24 q25 q26 q27 q34 q35 q36 q37 q44 q45 q46 q47 q54 q55 q56 q57:Pos}
  (hsw1:swapsWith (.List [.Lambda pa1 b1 s1 l1] q2) (some (.Name xl q1)) q3.line X.env=pure false) (hse1:starEach [.Lambda pa1 b1 s1 l1] X.env=(false,eval (.Lambda pa1 b1 s1 l1) X.env)::starEach [] X.env)
  (a2:znC X xl pa2 b2 s2 l2 q24 q25 q26 q27) (a3:znC X xl pa3 b3 s3 l3 q34 q35 q36 q37) (a4:znC X xl pa4 b4 s4 l4 q44 q45 q46 q47) (a5:znC X xl pa5 b5 s5 l5 q54 q55 q56 q57) :
  JSs X C (.Assign [.Name xl q1] (.List [.Lambda pa1 b1 s1 l1] q2) q3::.Expr (.Call (.Attribute (.Name xl q24) "append" q25) [.Lambda pa2 b2 s2 l2] [] q26) q27::.Expr (.Call (.Attribute (.Name xl q34) "append" q35) [.Lambda pa3 b3 s3 l3] [] q36) q37::.Expr (.Call (.Attribute (.Name xl q44) "append" q45) [.Lambda pa4 b4 s4 l4] [] q46) q47::.Expr (.Call (.Attribute (.Name xl q54) "append" q55) [.Lambda pa5 b5 s5 l5] [] q56) q57 ::
   [.Return (some (.Compare (.ListComp (.Call (.Name xr p1) [.Name xc p2] [] p3) [⟨.Name xc p4,.Name xl p5,[],0⟩] scope pos) [.Eq] [rhs] q12)) q13]) (zik j ci (X.env.qual++"<lambda>") n f1 f2 f3 f4 f5):=by
 intro pS s Y H D I ⟨G,w,Z,r,p0⟩;unfold zik at p0;split at p0
 case h_2=>exact p0.elim
 rename_i q' hj hci0;split at p0
 case isFalse=>exact p0.elim
 rename_i hcond;obtain ⟨rfl,hn8,c1,c2,c3,c4,c5⟩:=hcond;exact (ze2 (zva (Z:=Z) LB hjp hσ0 hip A1 hfn hN hlx cb hsw1 hse1 hj hci0 (zgJ c1)) (ze2 (zqo (Z:=Z) LB hjp hσ0 hip A2 cb a2 xwd hj (zgJ c2)) (ze2 (zqo (Z:=Z) LB hjp hσ0 hip A3 cb a3 xwd hj (zgJ c3)) (ze2 (zqo (Z:=Z) LB hjp hσ0 hip A4 cb a4 xwd hj (zgJ c4)) (ze2 (zqo (Z:=Z) LB hjp hσ0 hip A5 cb a5 xwd hj (zgJ c5)) (zkD (zuK hip cls hxv hfn Fu S hNR hbi hm hr hu hB hden cb hR hRd (l:=5) xwd hn8 hnw))))))) pS s Y H D I
  ⟨rfl,r,λY1 H1 c1=>⟨c1,λY2 H2 c2=>⟨c2,λY3 H3 c3=>⟨c3,λY4 H4 c4=>⟨c4,λY5 H5 c5=>⟨c5,λY' H' G' w' r' st'=>p0 (.bl true) Y' G' H' w' st' r' (by rw[hnw];unfold RtG Rep;rfl)⟩⟩⟩⟩⟩⟩
end
end PV
end
section
namespace Lw
open PySem PySem.Spec L2 PV
def top(i:Nat):Stmt:=PySem.Challenge.pw_standtogether_k50_webs_and_stretches_kno.main.body.getD i (.Pass ⟨0,0,0,0⟩)
def xvC(cls:Nat->Addr):Nat->Value:=λn=>.ref (cls n)
abbrev zhB:Str:=((Str.ofString "_law_refusals_right")++".<locals>.")++"<lambda>"
abbrev Uf(K:W.Frag)(mg:Str->Option Value)(x:String)(i:Nat):Prop:=∃ f fd,Fun K (Str.ofString x) (Str.ofString x) (top i) f fd/\mg (Str.ofString x)=some (.ref f)
structure Tx(K:W.Frag)(mg:Str->Option Value)(cls:Nat->Addr):Prop where
 xc:∀ n,n<8->Xin K (cls n)
 xm0:mg (Str.ofString "NoGuests")=some (.ref (cls 0))
 xm1:mg (Str.ofString "NoParties")=some (.ref (cls 1))
 xm2:mg (Str.ofString "NoNumber")=some (.ref (cls 2))
 xm3:mg (Str.ofString "NoText")=some (.ref (cls 3))
 xm4:mg (Str.ofString "NoLine")=some (.ref (cls 4))
 xm5:mg (Str.ofString "NoDeed")=some (.ref (cls 5))
 xm6:mg (Str.ofString "NoWeb")=some (.ref (cls 6))
 xm7:mg (Str.ofString "NoOrder")=some (.ref (cls 7))
 xS:∃ Cs,Xin K Cs/\mg (Str.ofString "SeatError")=some (.ref Cs)/\∀ n,n<8->W.subIn K (.ref (cls n)) (.ref Cs)=some true
 xi:∀ n k,n<8->k<8->W.kitOne K (.ref (cls n)) (.ref (cls k))=some (n == k)
 xV:∀ n,n<8->W.kitOne K (.ref (cls n)) (.type "ValueError")=some true
 u_is_whole:Uf K mg "is_whole" 13
 u_is_guest:Uf K mg "is_guest" 16
 u_are_guests:Uf K mg "are_guests" 17
 u_rises:Uf K mg "rises" 18
 u_are_points:Uf K mg "are_points" 54
 u_is_tie:Uf K mg "is_tie" 55
 u_is_web:Uf K mg "is_web" 56
 u_check_web:Uf K mg "check_web" 57
 u_pairs:Uf K mg "pairs" 59
 u_is_stretch:Uf K mg "is_stretch" 60
 u_meet:Uf K mg "meet" 61
 u_web_of:Uf K mg "web_of" 62
 u_are_stretches:Uf K mg "are_stretches" 63
 u_bars_web:Uf K mg "bars_web" 69
 u_crowds:Uf K mg "crowds" 77
 u_crowd_parties:Uf K mg "crowd_parties" 78
 u_web_answer:Uf K mg "web_answer" 80
 u__law_take:Uf K mg "_law_take" 82
 u__law_whole:Uf K mg "_law_whole" 83
 u__law_is_guest:Uf K mg "_law_is_guest" 84
 u__law_pairs:Uf K mg "_law_pairs" 85
 u__law_refused:Uf K mg "_law_refused" 86
 u__law_cell_at:Uf K mg "_law_cell_at" 87
 u__law_state:Uf K mg "_law_state" 88
 u__law_meets:Uf K mg "_law_meets" 89
 u__law_ties_by:Uf K mg "_law_ties_by" 90
 u__law_stretches:Uf K mg "_law_stretches" 91
 u__law_order:Uf K mg "_law_order" 92
 u__law_web:Uf K mg "_law_web" 93
 u__law_same:Uf K mg "_law_same" 94
 u__law_shows:Uf K mg "_law_shows" 95
 u__law_bent_web:Uf K mg "_law_bent_web" 96
 u__law_is_web:Uf K mg "_law_is_web" 97
 u__law_bent:Uf K mg "_law_bent" 98
 u__law_refusals_right:Uf K mg "_law_refusals_right" 99
 u_law:Uf K mg "law" 100
 b_ValueError:mg (Str.ofString "ValueError")=none
 b_all:mg (Str.ofString "all")=none
 b_bool:mg (Str.ofString "bool")=none
 b_int:mg (Str.ofString "int")=none
 b_isinstance:mg (Str.ofString "isinstance")=none
 b_len:mg (Str.ofString "len")=none
 b_list:mg (Str.ofString "list")=none
 b_max:mg (Str.ofString "max")=none
 b_min:mg (Str.ofString "min")=none
 b_range:mg (Str.ofString "range")=none
 b_set:mg (Str.ofString "set")=none
 b_sorted:mg (Str.ofString "sorted")=none
 b_tuple:mg (Str.ofString "tuple")=none
 b_zip:mg (Str.ofString "zip")=none
 g_MOST_GUESTS:∃ t,mg (Str.ofString "MOST_GUESTS")=some (.int 7 t)
 g_MOST_PARTIES:∃ t,mg (Str.ofString "MOST_PARTIES")=some (.int 8 t)
 g_NONE_OF_THEM:∃ t,mg (Str.ofString "NONE_OF_THEM")=some (.int 0 t)
 g_SOME_OF_THEM:∃ t,mg (Str.ofString "SOME_OF_THEM")=some (.int 1 t)
 g_ALL_OF_THEM:∃ t,mg (Str.ofString "ALL_OF_THEM")=some (.int 2 t)
 g_MOST_POINTS:∃ t,mg (Str.ofString "MOST_POINTS")=some (.int 7 t)
 g_LEAST_RING:∃ t,mg (Str.ofString "LEAST_RING")=some (.int 4 t)
section
variable{P:Program}{w:World}{K:W.Frag}{mg:Str->Option Value}{base:Heap}{xv:Nat->Value}{cls:Nat->Addr}
abbrev zmE:List Str:=["thing"]
abbrev zfJ:List Str:=["thing"]
theorem zkE:zau zmE zfJ (zah (top 13)):=⟨rfl,rfl,rfl,xwD,rfl,xwD,xwD⟩
noncomputable def zh1:DS:=(zbp (zeX (zcU "int" (zab 0)) (zsH (zcU "bool" (zab 0)))))
noncomputable def zaV:FD:=zas false [false] 0 zh1
theorem ze3(T:Tx K mg cls):Dfn false P w K mg base (CXe P w) (xvC cls) 3 (Str.ofString "is_whole") [false] zaV:=by obtain ⟨f,fd,U,hm⟩:=T.u_is_whole;refine ⟨f,fd,zfJ,?_,hm,U.kp,U.binds (ps:=zfJ) λ_ _ _ _ _ _ us hl=>match us,hl with|[_],_=>rfl,zar⟩;refine xwQ (k:=2) false za4 U zkE rfl rfl λ_ _ _ _ _ _ _ _ _ _ _ hnw hr hx hpo=>?_;exact (zal (by exact (za3 hnw (zdt (zbP zok rfl T.b_isinstance zbJ rfl T.b_int zrg (zaa 0)) (zdN (zls (zbP zgr rfl T.b_isinstance zbJ rfl T.b_bool zit (zaa 0))))))))
abbrev zmx:List Str:=["n","thing"]
abbrev zfI:List Str:=["n","thing"]
theorem zlc:zau zmx zfI (zah (top 16)):=⟨rfl,rfl,rfl,xwD,rfl,xwD,xwD⟩
noncomputable def ze1:DS:=(zbp (zeX (zad zaV (dR (zab 1) dR0)) (zdE gLe gLt (dC (.int 0)) (zab 1) (zab 0))))
noncomputable def zce:FD:=zas false [false,false] 0 ze1
theorem zm1(T:Tx K mg cls):Dfn false P w K mg base (CXe P w) (xvC cls) 6 (Str.ofString "is_guest") [false,false] zce:=by obtain ⟨f,fd,U,hm⟩:=T.u_is_guest;refine ⟨f,fd,zfI,?_,hm,U.kp,U.binds (ps:=zfI) λ_ _ _ _ _ _ us hl=>match us,hl with|[_,_],_=>rfl,zar⟩;refine xwQ (k:=5) false za4 U zlc rfl rfl λ_ _ _ _ _ _ _ _ _ _ _ hnw hr hx hpo=>?_;exact (zal (by exact (za3 hnw (zdt (za5 (ze3 T) hr xwl hx (zag (zaa 1) zap)) (zdN (zl8 zn7 zcB zbW zou zcB zbW zai (zaa 1) (zaa 0)))))))
abbrev zju:List Str:=["n","thing"]
abbrev zee:List Str:=["n","thing"]
theorem ziu:zau zju zee (zah (top 17)):=⟨rfl,rfl,rfl,xwD,rfl,xwD,xwD⟩
abbrev zdu:List Str:=["n","thing","part"]
theorem zgZ:zdu.Nodup:=by decide +kernel
noncomputable def zdc:DS:=(zbp (zeX (zcU "tuple" (zab 1)) (dFn zhk (dA (dFz (za9 (dIt (zab 1)) (zbg 2) dTT (zad zce (dR (zab 0) (dR (zab 2) dR0))) 1)) dA0))))
noncomputable def zcn:FD:=zas false [false,false] 0 zdc
theorem zjN(T:Tx K mg cls):Dfn false P w K mg base (CXe P w) (xvC cls) 9 (Str.ofString "are_guests") [false,false] zcn:=by obtain ⟨f,fd,U,hm⟩:=T.u_are_guests;refine ⟨f,fd,zee,?_,hm,U.kp,U.binds (ps:=zee) λ_ _ _ _ _ _ us hl=>match us,hl with|[_,_],_=>rfl,zar⟩;refine xwQ (k:=8) false za4 U ziu rfl rfl λ_ _ _ _ _ _ _ _ _ _ _ hnw hr hx hpo=>?_;exact (zal (by exact (za3 hnw (zdt (zbP zbl rfl T.b_isinstance zbJ rfl T.b_tuple zbw (zaa 1)) (zdN (zlY rfl T.b_all (zaz (zbE (zcW (zaa 1)) rfl (N':=zdu) (m:=1) xwk rfl (zaK xwk) (zaY xwk) (zbu xwk) (λcl L s H fp G H' w Y=>⟨(zaR (i:=2) zgZ rfl xwO (xwN rfl)),zdl,(za5 (zm1 T) hr xwl (zp7 λ_ z=>z) (zag (zaa 0) (zag (zaa 2) zap)))⟩)))))))))
abbrev zsq:List Str:=["numbers"]
abbrev zlh:List Str:=["numbers"]
theorem zqa:zau zsq zlh (zah (top 18)):=⟨rfl,rfl,rfl,xwD,rfl,xwD,xwD⟩
abbrev zfQ:List Str:=["numbers","k"]
theorem zmh:zfQ.Nodup:=by decide +kernel
noncomputable def zk5:DS:=(zbp (dFn zhk (dA (dFz (za9 (zbV (dOp zhp (dFn zby (dA (zab 0) dA0)) (dC (.int 1)))) (zbg 1) dTT (dOp zmV (dOp gIx (zab 0) (zab 1)) (dOp gIx (zab 0) (dOp zbt (zab 1) (dC (.int 1))))) 1)) dA0)))
noncomputable def zdP:FD:=zas false [false] 0 zk5
theorem zog(T:Tx K mg cls):Dfn false P w K mg base (CXe P w) (xvC cls) 3 (Str.ofString "rises") [false] zdP:=by obtain ⟨f,fd,U,hm⟩:=T.u_rises;refine ⟨f,fd,zlh,?_,hm,U.kp,U.binds (ps:=zlh) λ_ _ _ _ _ _ us hl=>match us,hl with|[_],_=>rfl,zar⟩;refine xwQ (k:=2) false za4 U zqa rfl rfl λ_ _ _ _ _ _ _ _ _ _ _ hnw hr hx hpo=>?_;exact (zal (by exact (za3 hnw (zlY rfl T.b_all (zaz (zbE (zcs rfl T.b_range (zkm (zdn T.b_len (zaa 0)) zai)) rfl (N':=zfQ) (m:=1) xwk rfl (zaK xwk) (zaY xwk) (zbu xwk) (λcl L s H fp G H' w Y=>⟨(zaR (i:=1) zmh rfl xwO (xwN rfl)),zdl,(zt7 (zfd hr) (zaO (zaa 0) (zaa 1)) (zaO (zaa 0) (zb2 (zaa 1) zai)))⟩)))))))
abbrev zkn:List Str:=["many","thing"]
abbrev zed:List Str:=["many","thing"]
theorem zii:zau zkn zed (zah (top 54)):=⟨rfl,rfl,rfl,xwD,rfl,xwD,xwD⟩
noncomputable def zkt:DS:=(zbp (zad zcn (dR (zab 0) (dR (zab 1) dR0))))
noncomputable def zcv:FD:=zas false [false,false] 0 zkt
theorem zj4(T:Tx K mg cls):Dfn false P w K mg base (CXe P w) (xvC cls) 12 (Str.ofString "are_points") [false,false] zcv:=by obtain ⟨f,fd,U,hm⟩:=T.u_are_points;refine ⟨f,fd,zed,?_,hm,U.kp,U.binds (ps:=zed) λ_ _ _ _ _ _ us hl=>match us,hl with|[_,_],_=>rfl,zar⟩;refine xwQ (k:=11) false za4 U zii rfl rfl λ_ _ _ _ _ _ _ _ _ _ _ hnw hr hx hpo=>?_;exact (zal (by exact (za3 hnw (za5 (zjN T) hr xwl hx (zag (zaa 0) (zag (zaa 1) zap))))))
abbrev zpT:List Str:=["many","thing"]
abbrev zi4:List Str:=["many","thing"]
theorem znu:zau zpT zi4 (zah (top 55)):=⟨rfl,rfl,rfl,xwD,rfl,xwD,xwD⟩
noncomputable def zhO:DS:=(zbp (zeX (zad zcv (dR (zab 0) (dR (zab 1) dR0))) (zeX (dOp (gEq false) (dFn zby (dA (zab 1) dA0)) (dC (.int 2))) (zad zdP (dR (zab 1) dR0)))))
noncomputable def zd3:FD:=zas false [false,false] 0 zhO
theorem zoQ(T:Tx K mg cls):Dfn false P w K mg base (CXe P w) (xvC cls) 15 (Str.ofString "is_tie") [false,false] zd3:=by obtain ⟨f,fd,U,hm⟩:=T.u_is_tie;refine ⟨f,fd,zi4,?_,hm,U.kp,U.binds (ps:=zi4) λ_ _ _ _ _ _ us hl=>match us,hl with|[_,_],_=>rfl,zar⟩;refine xwQ (k:=14) false za4 U znu rfl rfl λ_ _ _ _ _ _ _ _ _ _ _ hnw hr hx hpo=>?_;exact (zal (by exact (za3 hnw (zdt (za5 (zj4 T) hr xwl hx (zag (zaa 0) (zag (zaa 1) zap))) (zdt (zjT (zfd hr) (zdn T.b_len (zaa 1)) zai) (zdN (za5 (zog T) hr xwl hx (zag (zaa 1) zap))))))))
abbrev zpW:List Str:=["thing","many","ties"]
abbrev zhP:List Str:=["thing"]
theorem zhe:zau zpW zhP (zah (top 56)):=⟨rfl,rfl,rfl,xwD,rfl,xwD,xwD⟩
abbrev zfq:List Str:=["thing","many","ties","part"]
theorem zlf:zfq.Nodup:=by decide +kernel
noncomputable def zd4:DS:=(zaE (dIf (zcw (za2 (dTB (zcU "tuple" (zab 0)))) (dTB (dOp (gEq true) (dFn zby (dA (zab 0) dA0)) (dC (.int 2))))) (zbp (dC (.bl false))) dNx) (zaE (zbd 1 (dOp gIx (zab 0) (dC (.int 0)))) (zaE (zbd 2 (dOp gIx (zab 0) (dC (.int 1)))) (zaE (dIf (zcw (za2 (dTB (zad zaV (dR (zab 1) dR0)))) (zcw (dTB (dOp gLt (zab 1) (dC (.int 1)))) (zcw (dTB (dOp gGt (zab 1) (dC (.int 7)))) (za2 (dTB (zcU "tuple" (zab 2))))))) (zbp (dC (.bl false))) dNx) (zbp (zeX (dFn zhk (dA (dFz (za9 (dIt (zab 2)) (zbg 3) dTT (zad zd3 (dR (zab 1) (dR (zab 3) dR0))) 1)) dA0)) (zad zdP (dR (zab 2) dR0))))))))
noncomputable def zbA:FD:=zas false [false] 2 zd4
theorem zis(T:Tx K mg cls):Dfn false P w K mg base (CXe P w) (xvC cls) 18 (Str.ofString "is_web") [false] zbA:=by
  obtain ⟨f,fd,U,hm⟩:=T.u_is_web;refine ⟨f,fd,zhP,?_,hm,U.kp,U.binds (ps:=zhP) λ_ _ _ _ _ _ us hl=>match us,hl with|[_],_=>rfl,zar⟩;refine xwQ (k:=17) false za4 U zhe rfl rfl λ_ _ _ _ _ _ _ _ _ _ _ hnw hr hx hpo=>?_;exact (by
   refine zaf ?_ ?_
   ·exact (zcu (JW.jt (zdJ (zb4 (zbn (zbP zbl rfl T.b_isinstance zbJ rfl T.b_tuple zbw (zaa 0)))) (zeG (zgi (zfd hr) (zdn T.b_len (zaa 0)) zai)))) (zal (by exact (za3 hnw zcP))) zaN)
   refine zaf ?_ ?_
   ·exact (zaL (i:=1) zhe.nd rfl xwO (xwN rfl) (zaO (zaa 0) zai))
   refine zaf ?_ ?_
   ·exact (zaL (i:=2) zhe.nd rfl xwO (xwN rfl) (zaO (zaa 0) zai))
   refine zaf ?_ ?_
   ·exact (zcu (JW.jt (zdJ (zb4 (zbn (za5 (ze3 T) hr xwl hx (zag (zaa 1) zap)))) (zdJ (zs9 (zaa 1) zai) (zdJ (zuj (zaa 1) (zrL rfl T.g_MOST_POINTS.choose_spec)) (zeG (zb4 (zbn (zbP zbl rfl T.b_isinstance zbJ rfl T.b_tuple zbw (zaa 2))))))))) (zal (by exact (za3 hnw zcP))) zaN)
   refine zal ?_;exact (za3 hnw (zdt (zlY rfl T.b_all (zaz (zbE (zcW (zaa 2)) rfl (N':=zfq) (m:=1) xwk rfl (zaK xwk) (zaY xwk) (zbu xwk) (λcl L s H fp G H' w Y=>⟨(zaR (i:=3) zlf rfl xwO (xwN rfl)),zdl,(za5 (zoQ T) hr xwl (zp7 λ_ z=>z) (zag (zaa 1) (zag (zaa 3) zap)))⟩)))) (zdN (za5 (zog T) hr xwl hx (zag (zaa 2) zap))))))
abbrev zkH:List Str:=["web"]
abbrev zeO:List Str:=["web"]
theorem zjX:zau zkH zeO (zah (top 57)):=⟨rfl,rfl,rfl,xwD,rfl,xwD,xwD⟩
noncomputable def zcf:DS:=(dIf (za2 (dTB (zad zbA (dR (zab 0) dR0)))) (zrh 6 (dA (dC (.str (Str.ofString "this is no web"))) dA0)) dNx)
noncomputable def zbN:FD:=zas false [false] 0 zcf
theorem zeN(T:Tx K mg cls):Dfn false P w K mg base (CXe P w) (xvC cls) 21 (Str.ofString "check_web") [false] zbN:=by obtain ⟨f,fd,U,hm⟩:=T.u_check_web;refine ⟨f,fd,zeO,?_,hm,U.kp,U.binds (ps:=zeO) λ_ _ _ _ _ _ us hl=>match us,hl with|[_],_=>rfl,zar⟩;refine xwQ (k:=20) false za4 U zjX rfl rfl λ_ _ _ _ _ _ _ _ _ _ _ hnw hr hx hpo=>?_;exact (zal (by exact (zcu (zb4 (zbn (za5 (zis T) hr xwl hx (zag (zaa 0) zap)))) (zal (by exact (zp1 hx rfl (T.xc 6 xwd).cls T.xm6 rfl (zac znS zaq)))) zaN)))
abbrev zr5:List Str:=["many","found","one"]
abbrev zkQ:List Str:=["many"]
theorem ziI:zau zr5 zkQ (zah (top 59)):=⟨rfl,rfl,rfl,xwD,rfl,xwD,xwD⟩
abbrev zfX:List Str:=["many","found","one","other"]
theorem zmz:zfX.Nodup:=by decide +kernel
noncomputable def zrD:DS:=(zaE (zdh 1 (zbL dA0)) (zaE (zhj (zbV (zab 0)) (zbg 2) (dEx (zki 1 (dFz (za9 (zhq (dOp zbt (zab 2) (dC (.int 1))) (zab 0)) (zbg 3) dTT (zbK (dA (zab 2) (dA (zab 3) dA0))) 1))))) (zbp (zkV 1))))
noncomputable def zg3:FD:=zas false [false] 2 zrD
theorem zrG(T:Tx K mg cls):Dfn false P w K mg base (CXe P w) (xvC cls) 3 (Str.ofString "pairs") [false] zg3:=by obtain ⟨f,fd,U,hm⟩:=T.u_pairs;refine ⟨f,fd,zkQ,?_,hm,U.kp,U.binds (ps:=zkQ) λ_ _ _ _ _ _ us hl=>match us,hl with|[_],_=>rfl,zar⟩;refine xwQ (k:=2) false za4 U ziI rfl rfl λ_ _ _ _ _ _ _ _ _ _ _ hnw hr hx hpo=>?_;exact (zaf (by exact (zeL (i:=1) ziI.nd rfl xwO (xwN rfl) (zbq zaq))) (zaf (by exact (zft hpo rfl (zcs rfl T.b_range (zaa 0)) (zaR (i:=2) ziI.nd rfl xwO (xwN rfl)) (zal (by exact (zdW (zkC 1 (zaz (zbE (zgG rfl T.b_range (zb2 (zaa 2) zai) (zaa 0)) rfl (N':=zfX) (m:=1) xwk rfl (zaK xwk) (zaY xwk) (zbu xwk) (λcl L s H fp G H' w Y=>⟨(zaR (i:=3) zmz rfl xwO (xwN rfl)),zdl,(zaU (zac (zaa 2) (zac (zaa 3) zaq)))⟩))))))))) (zal (by exact (za3 hnw (zj1 1))))))
abbrev zj5:List Str:=["thing"]
abbrev zej:List Str:=["thing"]
theorem zi1:zau zj5 zej (zah (top 60)):=⟨rfl,rfl,rfl,xwD,rfl,xwD,xwD⟩
noncomputable def zeb:DS:=(zaE (dIf (zcw (za2 (dTB (zcU "tuple" (zab 0)))) (dTB (dOp (gEq true) (dFn zby (dA (zab 0) dA0)) (dC (.int 2))))) (zbp (dC (.bl false))) dNx) (zbp (zeX (zad zaV (dR (dOp gIx (zab 0) (dC (.int 0))) dR0)) (zeX (zad zaV (dR (dOp gIx (zab 0) (dC (.int 1))) dR0)) (dOp gLe (dOp gIx (zab 0) (dC (.int 0))) (dOp gIx (zab 0) (dC (.int 1))))))))
noncomputable def zbR:FD:=zas false [false] 0 zeb
theorem zkw(T:Tx K mg cls):Dfn false P w K mg base (CXe P w) (xvC cls) 6 (Str.ofString "is_stretch") [false] zbR:=by obtain ⟨f,fd,U,hm⟩:=T.u_is_stretch;refine ⟨f,fd,zej,?_,hm,U.kp,U.binds (ps:=zej) λ_ _ _ _ _ _ us hl=>match us,hl with|[_],_=>rfl,zar⟩;refine xwQ (k:=5) false za4 U zi1 rfl rfl λ_ _ _ _ _ _ _ _ _ _ _ hnw hr hx hpo=>?_;exact (zaf (by exact (zcu (JW.jt (zdJ (zb4 (zbn (zbP zbl rfl T.b_isinstance zbJ rfl T.b_tuple zbw (zaa 0)))) (zeG (zgi (zfd hr) (zdn T.b_len (zaa 0)) zai)))) (zal (by exact (za3 hnw zcP))) zaN)) (zal (by exact (za3 hnw (zdt (za5 (ze3 T) hr xwl hx (zag (zaO (zaa 0) zai) zap)) (zdt (za5 (ze3 T) hr xwl hx (zag (zaO (zaa 0) zai) zap)) (zdN (zrK (zaO (zaa 0) zai) (zaO (zaa 0) zai)))))))))
abbrev zup:List Str:=["one","other"]
abbrev zmK:List Str:=["one","other"]
theorem zro:zau zup zmK (zah (top 61)):=⟨rfl,rfl,rfl,xwD,rfl,xwD,xwD⟩
noncomputable def zuq:DS:=(zbp (zeX (dOp gLe (dOp gIx (zab 0) (dC (.int 0))) (dOp gIx (zab 1) (dC (.int 1)))) (dOp gLe (dOp gIx (zab 1) (dC (.int 0))) (dOp gIx (zab 0) (dC (.int 1))))))
noncomputable def zlP:FD:=zas false [false,false] 0 zuq
theorem ztg(T:Tx K mg cls):Dfn false P w K mg base (CXe P w) (xvC cls) 3 (Str.ofString "meet") [false,false] zlP:=by obtain ⟨f,fd,U,hm⟩:=T.u_meet;refine ⟨f,fd,zmK,?_,hm,U.kp,U.binds (ps:=zmK) λ_ _ _ _ _ _ us hl=>match us,hl with|[_,_],_=>rfl,zar⟩;refine xwQ (k:=2) false za4 U zro rfl rfl λ_ _ _ _ _ _ _ _ _ _ _ hnw hr hx hpo=>?_;exact (zal (by exact (za3 hnw (zdt (zrK (zaO (zaa 0) zai) (zaO (zaa 1) zai)) (zdN (zrK (zaO (zaa 1) zai) (zaO (zaa 0) zai)))))))
abbrev zoM:List Str:=["some","ties"]
abbrev zij:List Str:=["some"]
theorem zkh:zau zoM zij (zah (top 62)):=⟨rfl,rfl,rfl,xwD,rfl,xwD,xwD⟩
abbrev zfu:List Str:=["some","ties","pair"]
theorem zkT:zfu.Nodup:=by decide +kernel
noncomputable def zhW:DS:=(zaE (zbd 1 (dFz (za9 (dIt (zad zg3 (dR (dFn zby (dA (zab 0) dA0)) dR0))) (zbg 2) (dTB (zad zlP (dR (dOp gIx (zab 0) (dOp gIx (zab 2) (dC (.int 0)))) (dR (dOp gIx (zab 0) (dOp gIx (zab 2) (dC (.int 1)))) dR0)))) (zab 2) 1))) (zbp (zbK (dA (dFn zby (dA (zab 0) dA0)) (dA (dFn zbX (dA (zab 1) dA0)) dA0)))))
noncomputable def zdC:FD:=zas false [false] 1 zhW
theorem zlA(T:Tx K mg cls):Dfn false P w K mg base (CXe P w) (xvC cls) 6 (Str.ofString "web_of") [false] zdC:=by obtain ⟨f,fd,U,hm⟩:=T.u_web_of;refine ⟨f,fd,zij,?_,hm,U.kp,U.binds (ps:=zij) λ_ _ _ _ _ _ us hl=>match us,hl with|[_],_=>rfl,zar⟩;refine xwQ (k:=5) false za4 U zkh rfl rfl λ_ _ _ _ _ _ _ _ _ _ _ hnw hr hx hpo=>?_;exact (zaf (by exact (zmC (i:=1) zkh.nd rfl xwO (xwN rfl) (zcW (za5 (zrG T) hr xwl hx (zag (zdn T.b_len (zaa 0)) zap))) rfl (N':=zfu) (m:=1) xwk rfl (zaK xwk) (zaY xwk) (zbu xwk) (λcl L s H fp G H' w Y=>⟨(zaR (i:=2) zkT rfl xwO (xwN rfl)),(zfc (zbn (za5 (ztg T) hr xwl (zp7 λ_ z=>z) (zag (zaO (zaa 0) (zaO (zaa 2) zai)) (zag (zaO (zaa 0) (zaO (zaa 2) zai)) zap))))),(zaa 2)⟩))) (zal (by exact (za3 hnw (zaU (zac (zdn T.b_len (zaa 0)) (zac (zeJ T.b_tuple (zaa 1)) zaq)))))))
abbrev zgD:List Str:=["web","thing"]
abbrev zcH:List Str:=["web","thing"]
theorem zgh:zau zgD zcH (zah (top 63)):=⟨rfl,rfl,rfl,xwD,rfl,xwD,xwD⟩
abbrev zc0:List Str:=["web","thing","part"]
theorem zfl:zc0.Nodup:=by decide +kernel
noncomputable def zaW:DS:=(zaE (dEx (zad zbN (dR (zab 0) dR0))) (zaE (dIf (zcw (za2 (dTB (zcU "tuple" (zab 1)))) (zcw (dTB (dOp (gEq true) (dFn zby (dA (zab 1) dA0)) (dOp gIx (zab 0) (dC (.int 0))))) (za2 (dTB (dFn zhk (dA (dFz (za9 (dIt (zab 1)) (zbg 2) dTT (zad zbR (dR (zab 2) dR0)) 1)) dA0)))))) (zbp (dC (.bl false))) dNx) (zbp (dOp (gEq false) (zad zdC (dR (zab 1) dR0)) (zab 0)))))
noncomputable def zaG:FD:=zas false [false,false] 0 zaW
theorem zek(T:Tx K mg cls):Dfn false P w K mg base (CXe P w) (xvC cls) 24 (Str.ofString "are_stretches") [false,false] zaG:=by obtain ⟨f,fd,U,hm⟩:=T.u_are_stretches;refine ⟨f,fd,zcH,?_,hm,U.kp,U.binds (ps:=zcH) λ_ _ _ _ _ _ us hl=>match us,hl with|[_,_],_=>rfl,zar⟩;refine xwQ (k:=23) false za4 U zgh rfl rfl λ_ _ _ _ _ _ _ _ _ _ _ hnw hr hx hpo=>?_;exact (zaf (by exact (zdW (za5 (zeN T) hr xwl hx (zag (zaa 0) zap)))) (zaf (by exact (zcu (JW.jt (zdJ (zb4 (zbn (zbP zbl rfl T.b_isinstance zbJ rfl T.b_tuple zbw (zaa 1)))) (zdJ (zgi (zfd hr) (zdn T.b_len (zaa 1)) (zaO (zaa 0) zai)) (zeG (zb4 (zbn (zlY rfl T.b_all (zaz (zbE (zcW (zaa 1)) rfl (N':=zc0) (m:=1) xwk rfl (zaK xwk) (zaY xwk) (zbu xwk) (λcl L s H fp G H' w Y=>⟨(zaR (i:=2) zfl rfl xwO (xwN rfl)),zdl,(za5 (zkw T) hr xwl (zp7 λ_ z=>z) (zag (zaa 2) zap))⟩)))))))))) (zal (by exact (za3 hnw zcP))) zaN)) (zal (by exact (za3 hnw (zjT (zfd hr) (za5 (zlA T) hr xwl hx (zag (zaa 1) zap)) (zaa 0)))))))
abbrev zmB:List Str:=["web","thing"]
abbrev zf7:List Str:=["web","thing"]
theorem zkN:zau zmB zf7 (zah (top 69)):=⟨rfl,rfl,rfl,xwD,rfl,xwD,xwD⟩
noncomputable def zmr:DS:=(zaE (dEx (zad zbN (dR (zab 0) dR0))) dNo)
noncomputable def ze7:FD:=zas false [false,false] 0 zmr
theorem zmA(T:Tx K mg cls):Dfn false P w K mg base (CXe P w) (xvC cls) 24 (Str.ofString "bars_web") [false,false] ze7:=by obtain ⟨f,fd,U,hm⟩:=T.u_bars_web;refine ⟨f,fd,zf7,?_,hm,U.kp,U.binds (ps:=zf7) λ_ _ _ _ _ _ us hl=>match us,hl with|[_,_],_=>rfl,zar⟩;refine xwQ (k:=23) false za4 U zkN rfl rfl λ_ _ _ _ _ _ _ _ _ _ _ hnw hr hx hpo=>?_;exact (zaf (by exact (zdW (za5 (zeN T) hr xwl hx (zag (zaa 0) zap)))) zfv)
abbrev zqp:List Str:=["web"]
abbrev ziN:List Str:=["web"]
theorem zoa:zau zqp ziN (zah (top 77)):=⟨rfl,rfl,rfl,xwD,rfl,xwD,xwD⟩
noncomputable def zqt:DS:=(zaE (dEx (zad zbN (dR (zab 0) dR0))) dNo)
noncomputable def zf0:FD:=zas false [false] 0 zqt
theorem zlo(T:Tx K mg cls):Dfn false P w K mg base (CXe P w) (xvC cls) 24 (Str.ofString "crowds") [false] zf0:=by obtain ⟨f,fd,U,hm⟩:=T.u_crowds;refine ⟨f,fd,ziN,?_,hm,U.kp,U.binds (ps:=ziN) λ_ _ _ _ _ _ us hl=>match us,hl with|[_],_=>rfl,zar⟩;refine xwQ (k:=23) false za4 U zoa rfl rfl λ_ _ _ _ _ _ _ _ _ _ _ hnw hr hx hpo=>?_;exact (zaf (by exact (zdW (za5 (zeN T) hr xwl hx (zag (zaa 0) zap)))) zfv)
abbrev zgH:List Str:=["web","found"]
abbrev zcF:List Str:=["web"]
theorem zdD:zau zgH zcF (zah (top 78)):=⟨rfl,rfl,rfl,xwD,rfl,xwD,xwD⟩
noncomputable def zg4:DS:=(zaE (zbd 1 (zad zf0 (dR (zab 0) dR0))) dNo)
noncomputable def zb6:FD:=zas false [false] 1 zg4
theorem zdZ(T:Tx K mg cls):Dfn false P w K mg base (CXe P w) (xvC cls) 27 (Str.ofString "crowd_parties") [false] zb6:=by obtain ⟨f,fd,U,hm⟩:=T.u_crowd_parties;refine ⟨f,fd,zcF,?_,hm,U.kp,U.binds (ps:=zcF) λ_ _ _ _ _ _ us hl=>match us,hl with|[_],_=>rfl,zar⟩;refine xwQ (k:=26) false za4 U zdD rfl rfl λ_ _ _ _ _ _ _ _ _ _ _ hnw hr hx hpo=>?_;exact (zaf (by exact (zaL (i:=1) zdD.nd rfl xwO (xwN rfl) (za5 (zlo T) hr xwl hx (zag (zaa 0) zap)))) zfv)
abbrev zkj:List Str:=["web","parties","tree","row"]
abbrev zec:List Str:=["web"]
theorem zfg:zau zkj zec (zah (top 80)):=⟨rfl,rfl,rfl,xwD,rfl,xwD,xwD⟩
noncomputable def zjW:DS:=(zaE (zbd 1 (zad zb6 (dR (zab 0) dR0))) dNo)
noncomputable def zdd:FD:=zas false [false] 3 zjW
theorem zkv(T:Tx K mg cls):Dfn false P w K mg base (CXe P w) (xvC cls) 30 (Str.ofString "web_answer") [false] zdd:=by obtain ⟨f,fd,U,hm⟩:=T.u_web_answer;refine ⟨f,fd,zec,?_,hm,U.kp,U.binds (ps:=zec) λ_ _ _ _ _ _ us hl=>match us,hl with|[_],_=>rfl,zar⟩;refine xwQ (k:=29) false za4 U zfg rfl rfl λ_ _ _ _ _ _ _ _ _ _ _ hnw hr hx hpo=>?_;exact (zaf (by exact (zaL (i:=1) zfg.nd rfl xwO (xwN rfl) (za5 (zdZ T) hr xwl hx (zag (zaa 0) zap)))) zfv)
abbrev zlb:List Str:=["state","many","found","stirred"]
abbrev zeK:List Str:=["state","many"]
theorem zcY:zau zlb zeK (zah (top 82)):=⟨rfl,rfl,rfl,xwD,rfl,xwD,xwD⟩
noncomputable def zeZ:DS:=(zaE (dIf (dTB (zom 0 (dC (.int 1)))) (zaE (zbd 2 (dOp zmk (zom 0 (dC (.int 0))) (zab 1))) (zaE (zoi 0 (dOp zqc (zom 0 (dC (.int 0))) (zab 1)) (dC (.int 0))) (zbp (zab 2)))) dNx) (zaE (zoi 0 (dOp zmk (dOp zbt (dOp zng (zom 0 (dC (.int 0))) (dC (.int 48271))) (dC (.int 29))) (dC (.int 2147483647))) (dC (.int 0))) (zaE (zbd 3 (dOp zmk (dOp zbt (dOp zbt (dOp zng (zom 0 (dC (.int 0))) (zom 0 (dC (.int 0)))) (dOp zng (dC (.int 39373)) (zom 0 (dC (.int 0))))) (dC (.int 7))) (dC (.int 2147483629)))) (zaE (zbd 3 (dOp zmk (dOp zbt (dOp zng (zab 3) (zab 3)) (dOp zng (dC (.int 16807)) (zab 3))) (dC (.int 2147483587)))) (zbp (dOp zmk (dOp zqc (zab 3) (dC (.int 8))) (zab 1)))))))
noncomputable def zae:FD:=zas false [true,false] 2 zeZ
theorem za7(T:Tx K mg cls):Dfn false P w K mg base (CXe P w) (xvC cls) 3 (Str.ofString "_law_take") [true,false] zae:=by
  obtain ⟨f,fd,U,hm⟩:=T.u__law_take;refine ⟨f,fd,zeK,?_,hm,U.kp,U.binds (ps:=zeK) λ_ _ _ _ _ _ us hl=>match us,hl with|[_,_],_=>rfl,zar⟩;refine xwQ (k:=2) false za4 U zcY rfl rfl λ_ _ _ _ _ _ _ _ _ _ _ hnw hr hx hpo=>?_;exact (by
   refine zaf ?_ ?_
   ·exact (zcu (zbn (zgV 0 (hb:=zai))) (zaf (by exact (zaL (i:=2) zcY.nd rfl xwO (xwN rfl) (zh3 (zgV 0 (hb:=zai)) (zaa 1)))) (zaf (by exact (zmQ 0 (zrd (zgV 0 (hb:=zai)) (zaa 1)) zai)) (zal (by exact (za3 hnw (zaa 2)))))) zaN)
   refine zaf ?_ ?_
   ·exact (zmQ 0 (zh3 (zb2 (zjn (zgV 0 (hb:=zai)) zai) zai) zai) zai)
   refine zaf ?_ ?_
   ·exact (zaL (i:=3) zcY.nd rfl xwO (xwN rfl) (zh3 (zb2 (zb2 (zjn (zgV 0 (hb:=zai)) (zgV 0 (hb:=zai))) (zjn zai (zgV 0 (hb:=zai)))) zai) zai))
   refine zaf ?_ ?_
   ·exact (zaL (i:=3) zcY.nd rfl xwO (xwN rfl) (zh3 (zb2 (zjn (zaa 3) (zaa 3)) (zjn zai (zaa 3))) zai))
   refine zal ?_;exact (za3 hnw (zh3 (zrd (zaa 3) zai) (zaa 1))))
abbrev zks:List Str:=["thing"]
abbrev zex:List Str:=["thing"]
theorem zi6:zau zks zex (zah (top 83)):=⟨rfl,rfl,rfl,xwD,rfl,xwD,xwD⟩
noncomputable def zjt:DS:=(zbp (zeX (zcU "int" (zab 0)) (zsH (zcU "bool" (zab 0)))))
noncomputable def zaC:FD:=zas false [false] 0 zjt
theorem zcQ(T:Tx K mg cls):Dfn false P w K mg base (CXe P w) (xvC cls) 3 (Str.ofString "_law_whole") [false] zaC:=by obtain ⟨f,fd,U,hm⟩:=T.u__law_whole;refine ⟨f,fd,zex,?_,hm,U.kp,U.binds (ps:=zex) λ_ _ _ _ _ _ us hl=>match us,hl with|[_],_=>rfl,zar⟩;refine xwQ (k:=2) false za4 U zi6 rfl rfl λ_ _ _ _ _ _ _ _ _ _ _ hnw hr hx hpo=>?_;exact (zal (by exact (za3 hnw (zdt (zbP zok rfl T.b_isinstance zbJ rfl T.b_int zrg (zaa 0)) (zdN (zls (zbP zgr rfl T.b_isinstance zbJ rfl T.b_bool zit (zaa 0))))))))
abbrev zgK:List Str:=["n","thing"]
abbrev zcD:List Str:=["n","thing"]
theorem zgk:zau zgK zcD (zah (top 84)):=⟨rfl,rfl,rfl,xwD,rfl,xwD,xwD⟩
noncomputable def zgQ:DS:=(zbp (zeX (zad zaC (dR (zab 1) dR0)) (zdE gLe gLt (dC (.int 0)) (zab 1) (zab 0))))
noncomputable def zbm:FD:=zas false [false,false] 0 zgQ
theorem zha(T:Tx K mg cls):Dfn false P w K mg base (CXe P w) (xvC cls) 6 (Str.ofString "_law_is_guest") [false,false] zbm:=by obtain ⟨f,fd,U,hm⟩:=T.u__law_is_guest;refine ⟨f,fd,zcD,?_,hm,U.kp,U.binds (ps:=zcD) λ_ _ _ _ _ _ us hl=>match us,hl with|[_,_],_=>rfl,zar⟩;refine xwQ (k:=5) false za4 U zgk rfl rfl λ_ _ _ _ _ _ _ _ _ _ _ hnw hr hx hpo=>?_;exact (zal (by exact (za3 hnw (zdt (za5 (zcQ T) hr xwl hx (zag (zaa 1) zap)) (zdN (zl8 zn7 zcB zbW zou zcB zbW zai (zaa 1) (zaa 0)))))))
abbrev zjj:List Str:=["many","found","one"]
abbrev zdT:List Str:=["many"]
theorem zd1:zau zjj zdT (zah (top 85)):=⟨rfl,rfl,rfl,xwD,rfl,xwD,xwD⟩
abbrev zdo:List Str:=["many","found","one","other"]
theorem zgS:zdo.Nodup:=by decide +kernel
noncomputable def zjV:DS:=(zaE (zdh 1 (zbL dA0)) (zaE (zhj (zbV (zab 0)) (zbg 2) (dEx (zki 1 (dFz (za9 (zhq (dOp zbt (zab 2) (dC (.int 1))) (zab 0)) (zbg 3) dTT (zbK (dA (zab 2) (dA (zab 3) dA0))) 1))))) (zbp (zkV 1))))
noncomputable def zbr:FD:=zas false [false] 2 zjV
theorem zfT(T:Tx K mg cls):Dfn false P w K mg base (CXe P w) (xvC cls) 3 (Str.ofString "_law_pairs") [false] zbr:=by obtain ⟨f,fd,U,hm⟩:=T.u__law_pairs;refine ⟨f,fd,zdT,?_,hm,U.kp,U.binds (ps:=zdT) λ_ _ _ _ _ _ us hl=>match us,hl with|[_],_=>rfl,zar⟩;refine xwQ (k:=2) false za4 U zd1 rfl rfl λ_ _ _ _ _ _ _ _ _ _ _ hnw hr hx hpo=>?_;exact (zaf (by exact (zeL (i:=1) zd1.nd rfl xwO (xwN rfl) (zbq zaq))) (zaf (by exact (zft hpo rfl (zcs rfl T.b_range (zaa 0)) (zaR (i:=2) zd1.nd rfl xwO (xwN rfl)) (zal (by exact (zdW (zkC 1 (zaz (zbE (zgG rfl T.b_range (zb2 (zaa 2) zai) (zaa 0)) rfl (N':=zdo) (m:=1) xwk rfl (zaK xwk) (zaY xwk) (zbu xwk) (λcl L s H fp G H' w Y=>⟨(zaR (i:=3) zgS rfl xwO (xwN rfl)),zdl,(zaU (zac (zaa 2) (zac (zaa 3) zaq)))⟩))))))))) (zal (by exact (za3 hnw (zj1 1))))))
abbrev zci:List Str:=["call","error","e","kinds"]
theorem zbj:zau zci ["call"] (zah (top 86)):=⟨rfl,rfl,rfl,xwD,rfl,xwD,xwD⟩
abbrev zcM:List Str:=["call","error","e","kinds","k"]
theorem zfK:zcM.Nodup:=by decide +kernel
noncomputable def zaF(n:Nat)(Cc:Addr):DS:=(zaE (zbd 1 (dC .non)) (zaE (zo5 0 1 2 Cc) (zaE (zbd 3 (dFz (zbL (dA (zhr 1 Cc (n == 0)) (dA (zhr 1 Cc (n == 1)) (dA (zhr 1 Cc (n == 2)) dA0)))))) (zaE (zbd 3 (dFz (zgp (zab 3) (dFz (zbL (dA (zhr 1 Cc (n == 3)) (dA (zhr 1 Cc (n == 4)) (dA (zhr 1 Cc (n == 5)) dA0)))))))) (zaE (zbd 3 (dFz (zgp (zab 3) (dFz (zbL (dA (zhr 1 Cc (n == 6)) (dA (zhr 1 Cc (n == 7)) dA0))))))) (zaE (dIf (za2 (dTB (zhr 1 Cc true))) dNo dNx) (zfz (za9 (zbV (dC (.int 8))) (zbg 4) (dTB (dOp gIx (zab 3) (zab 4))) (zab 4) 1))))))))
theorem zhu(T:Tx K mg cls){C:Cn}{k:Nat}{f:Addr}(XR:Cx)(CR:Cn)(n:Nat)(Fa:Addr)(hn:n<8)(hX:∃ cdv A outer s H E,XR=zko (CXe P w) P w K mg base zci (Str.ofString "_law_refused") (zah (top 86)) f cdv A outer s H E)(hC:∃ G H,CR=zpO C G H (L2.start zci [.ref Fa]))(hr:zd5 (k+1) XR.A)
  (hF:∀ pS Y H s,L2.Inv XR pS Y H s->zbU CR.H₀ H->codeAny (model XR.prog XR.w) XR.A (.call (.ref Fa) ⟨[],[]⟩) (λr s'=>∃ e,r=.error e/\CXf XR.prog XR.w XR.stack H s (EL (cls n) H) e s') s)
  (hFn:∀ pS Y H s,L2.Inv XR pS Y H s->zbU CR.H₀ H->W.FnAt Fa s.heap):JSs XR CR (zbY (top 86)) (zaF n (cls n)):=by
  obtain ⟨cdv,A,outer,s,H,E,rfl⟩:=hX;obtain ⟨G,H',rfl⟩:=hC;obtain ⟨Cs,xs,hmS,hsub⟩:=T.xS;have hnw:(zpO C G H' (L2.start zci [.ref Fa])).nw=true:=rfl;exact (zaf (by exact (zaL (i:=1) zbj.nd rfl xwO (show 1∉([0]:List Nat) by decide) zfZ)) (zaf (by exact (znw rfl zbj.nd rfl rfl rfl rfl rfl hF hFn xs (hsub n hn) hmS rfl rfl rfl rfl xwd xwd xwd rfl rfl rfl)) (zaf (by exact (zaL (i:=3) zbj.nd rfl xwO (show 3∉([0]:List Nat) by decide) (zaz (zbq (by refine zac (by exact (zfV 1 (T.xc n hn) (T.xi n 0 hn xwd) rfl T.b_isinstance rfl T.xm0)) ?_;refine zac (by exact (zfV 1 (T.xc n hn) (T.xi n 1 hn xwd) rfl T.b_isinstance rfl T.xm1)) ?_;refine zac (by exact (zfV 1 (T.xc n hn) (T.xi n 2 hn xwd) rfl T.b_isinstance rfl T.xm2)) ?_;exact zaq))))) (zaf (by exact (zaL (i:=3) zbj.nd rfl xwO (show 3∉([0]:List Nat) by decide) (zaz (by refine zg1 (zaa 3) ?_;exact (zaz (zbq (by refine zac (by exact (zfV 1 (T.xc n hn) (T.xi n 3 hn xwd) rfl T.b_isinstance rfl T.xm3)) ?_;refine zac (by exact (zfV 1 (T.xc n hn) (T.xi n 4 hn xwd) rfl T.b_isinstance rfl T.xm4)) ?_;refine zac (by exact (zfV 1 (T.xc n hn) (T.xi n 5 hn xwd) rfl T.b_isinstance rfl T.xm5)) ?_;exact zaq))))))) (zaf (by exact (zaL (i:=3) zbj.nd rfl xwO (show 3∉([0]:List Nat) by decide) (zaz (by refine zg1 (zaa 3) ?_;exact (zaz (zbq (zac (zfV 1 (T.xc n hn) (T.xi n 6 hn xwd) rfl T.b_isinstance rfl T.xm6) (zac (zfV 1 (T.xc n hn) (T.xi n 7 hn xwd) rfl T.b_isinstance rfl T.xm7) zaq)))))))) (zaf (by exact (zcu (zb4 (zbn (zrU 1 (T.xc n hn) (T.xV n hn) rfl T.b_isinstance rfl T.b_ValueError rfl))) (zal zqh) zaN)) (zal (by exact (zkA hnw (zbE (zcs rfl T.b_range zai) rfl (N':=zcM) (m:=1) xwk rfl (zaK xwk) (zaY xwk) (zbu xwk) (λcl L s H fp G H' w Y=>⟨(zaR (i:=4) zfK rfl xwO (xwN rfl)),(zfc (zbn (zaO (zaa 3) (zaa 4)))),(zaa 4)⟩)))))))))))
theorem zgf:∀(n:Nat)(Cc:Addr),n<8->∃ Z,zaF n Cc (some .opq::List.replicate 3 none)=.ok (.rt (.lst [.int n]),Z):=by
 intro n Cc h
 match n,h with
 |0,_=>exact ⟨_,by simp[zaF,zaE,zo5,zhr,zbd,zdh,dFz,zbL,dA,dA0,dC,zgp,zab,zkV,dIf,za2,dTB,dNx,dNo,zfz,za9,zbx,zbV,zaX,zbg,dOp,gIx,ixN,fits,R.bind];try rfl⟩
 |1,_=>exact ⟨_,by simp[zaF,zaE,zo5,zhr,zbd,zdh,dFz,zbL,dA,dA0,dC,zgp,zab,zkV,dIf,za2,dTB,dNx,dNo,zfz,za9,zbx,zbV,zaX,zbg,dOp,gIx,ixN,fits,R.bind];try rfl⟩
 |2,_=>exact ⟨_,by simp[zaF,zaE,zo5,zhr,zbd,zdh,dFz,zbL,dA,dA0,dC,zgp,zab,zkV,dIf,za2,dTB,dNx,dNo,zfz,za9,zbx,zbV,zaX,zbg,dOp,gIx,ixN,fits,R.bind];try rfl⟩
 |3,_=>exact ⟨_,by simp[zaF,zaE,zo5,zhr,zbd,zdh,dFz,zbL,dA,dA0,dC,zgp,zab,zkV,dIf,za2,dTB,dNx,dNo,zfz,za9,zbx,zbV,zaX,zbg,dOp,gIx,ixN,fits,R.bind];try rfl⟩
 |4,_=>exact ⟨_,by simp[zaF,zaE,zo5,zhr,zbd,zdh,dFz,zbL,dA,dA0,dC,zgp,zab,zkV,dIf,za2,dTB,dNx,dNo,zfz,za9,zbx,zbV,zaX,zbg,dOp,gIx,ixN,fits,R.bind];try rfl⟩
 |5,_=>exact ⟨_,by simp[zaF,zaE,zo5,zhr,zbd,zdh,dFz,zbL,dA,dA0,dC,zgp,zab,zkV,dIf,za2,dTB,dNx,dNo,zfz,za9,zbx,zbV,zaX,zbg,dOp,gIx,ixN,fits,R.bind];try rfl⟩
 |6,_=>exact ⟨_,by simp[zaF,zaE,zo5,zhr,zbd,zdh,dFz,zbL,dA,dA0,dC,zgp,zab,zkV,dIf,za2,dTB,dNx,dNo,zfz,za9,zbx,zbV,zaX,zbg,dOp,gIx,ixN,fits,R.bind];try rfl⟩
 |7,_=>exact ⟨_,by simp[zaF,zaE,zo5,zhr,zbd,zdh,dFz,zbL,dA,dA0,dC,zgp,zab,zkV,dIf,za2,dTB,dNx,dNo,zfz,za9,zbx,zbV,zaX,zbg,dOp,gIx,ixN,fits,R.bind];try rfl⟩
abbrev zho:List Str:=["script","k"]
abbrev zdm:List Str:=["script","k"]
theorem zg5:zau zho zdm (zah (top 87)):=⟨rfl,rfl,rfl,xwD,rfl,xwD,xwD⟩
noncomputable def zbH:DS:=(zaE (dIf (dTB (dOp gLt (zab 1) (dFn zby (dA (zab 0) dA0)))) (zbp (dOp gIx (zab 0) (zab 1))) dNx) (zbp (dC (.int 0))))
noncomputable def zcl:FD:=zas false [false,false] 0 zbH
theorem zht(T:Tx K mg cls):Dfn false P w K mg base (CXe P w) (xvC cls) 3 (Str.ofString "_law_cell_at") [false,false] zcl:=by obtain ⟨f,fd,U,hm⟩:=T.u__law_cell_at;refine ⟨f,fd,zdm,?_,hm,U.kp,U.binds (ps:=zdm) λ_ _ _ _ _ _ us hl=>match us,hl with|[_,_],_=>rfl,zar⟩;refine xwQ (k:=2) false za4 U zg5 rfl rfl λ_ _ _ _ _ _ _ _ _ _ _ hnw hr hx hpo=>?_;exact (zaf (by exact (zcu (zs9 (zaa 1) (zdn T.b_len (zaa 0))) (zal (by exact (za3 hnw (zaO (zaa 0) (zaa 1))))) zaN)) (zal (by exact (za3 hnw zai))))
abbrev zjp:List Str:=["script","k","cell"]
abbrev zeo:List Str:=["script","k"]
theorem zfs:zau zjp zeo (zah (top 88)):=⟨rfl,rfl,rfl,xwD,rfl,xwD,xwD⟩
noncomputable def zcp:DS:=(zaE (zbd 2 (zad zcl (dR (zab 0) (dR (zab 1) dR0)))) (zaE (dIf (dTB (dOp gGe (zab 2) (dOp zp8 (dC (.int 10)) (dC (.int 18))))) (zfz (zbL (dA (dOp zhp (zab 2) (dOp zp8 (dC (.int 10)) (dC (.int 18)))) (dA (dC (.bl true)) dA0)))) dNx) (zfz (zbL (dA (dOp zmk (zab 2) (dC (.int 2147483647))) (dA (dC (.bl false)) dA0))))))
noncomputable def zcq:FD:=zas true [false,false] 1 zcp
theorem zjb(T:Tx K mg cls):Dfn true P w K mg base (CXe P w) (xvC cls) 6 (Str.ofString "_law_state") [false,false] zcq:=by obtain ⟨f,fd,U,hm⟩:=T.u__law_state;refine ⟨f,fd,zeo,?_,hm,U.kp,U.binds (ps:=zeo) λ_ _ _ _ _ _ us hl=>match us,hl with|[_,_],_=>rfl,zar⟩;refine xwQ (k:=5) true za4 U zfs rfl rfl λ_ _ _ _ _ _ _ _ _ _ _ hnw hr hx hpo=>?_;exact (zaf (by exact (zaL (i:=2) zfs.nd rfl xwO (xwN rfl) (za5 (zht T) hr xwl hx (zag (zaa 0) (zag (zaa 1) zap))))) (zaf (by exact (zcu (zvh (zaa 2) (zqC zai zai)) (zal (by exact (zkA hnw (zbq (zac (zkm (zaa 2) (zqC zai zai)) (zac zcP zaq)))))) zaN)) (zal (by exact (zkA hnw (zbq (zac (zh3 (zaa 2) zai) (zac zcP zaq))))))))
abbrev zje:List Str:=["one","other"]
abbrev zeu:List Str:=["one","other"]
theorem zi3:zau zje zeu (zah (top 89)):=⟨rfl,rfl,rfl,xwD,rfl,xwD,xwD⟩
noncomputable def zjc:DS:=(zbp (zeX (zsH (dOp gLt (dOp gIx (zab 0) (dC (.int 1))) (dOp gIx (zab 1) (dC (.int 0))))) (zsH (dOp gLt (dOp gIx (zab 1) (dC (.int 1))) (dOp gIx (zab 0) (dC (.int 0)))))))
noncomputable def zct:FD:=zas false [false,false] 0 zjc
theorem zjI(T:Tx K mg cls):Dfn false P w K mg base (CXe P w) (xvC cls) 3 (Str.ofString "_law_meets") [false,false] zct:=by obtain ⟨f,fd,U,hm⟩:=T.u__law_meets;refine ⟨f,fd,zeu,?_,hm,U.kp,U.binds (ps:=zeu) λ_ _ _ _ _ _ us hl=>match us,hl with|[_,_],_=>rfl,zar⟩;refine xwQ (k:=2) false za4 U zi3 rfl rfl λ_ _ _ _ _ _ _ _ _ _ _ hnw hr hx hpo=>?_;exact (zal (by exact (za3 hnw (zdt (zls (ztl (zaO (zaa 0) zai) (zaO (zaa 1) zai))) (zdN (zls (ztl (zaO (zaa 1) zai) (zaO (zaa 0) zai))))))))
abbrev zhn:List Str:=["some","found","one"]
abbrev zdf:List Str:=["some"]
theorem zcE:zau zhn zdf (zah (top 90)):=⟨rfl,rfl,rfl,xwD,rfl,xwD,xwD⟩
abbrev zcA:List Str:=["some","found","one","other"]
theorem zf8:zcA.Nodup:=by decide +kernel
noncomputable def zdj:DS:=(zaE (zdh 1 (zbL dA0)) (zaE (zhj (zbV (dFn zby (dA (zab 0) dA0))) (zbg 2) (dEx (zki 1 (dFz (za9 (zhq (dOp zbt (zab 2) (dC (.int 1))) (dFn zby (dA (zab 0) dA0))) (zbg 3) (dTB (zad zct (dR (dOp gIx (zab 0) (zab 2)) (dR (dOp gIx (zab 0) (zab 3)) dR0)))) (zbK (dA (zab 2) (dA (zab 3) dA0))) 1))))) (zbp (dFn zbX (dA (zkV 1) dA0)))))
noncomputable def zaA:FD:=zas false [false] 2 zdj
theorem zdg(T:Tx K mg cls):Dfn false P w K mg base (CXe P w) (xvC cls) 6 (Str.ofString "_law_ties_by") [false] zaA:=by obtain ⟨f,fd,U,hm⟩:=T.u__law_ties_by;refine ⟨f,fd,zdf,?_,hm,U.kp,U.binds (ps:=zdf) λ_ _ _ _ _ _ us hl=>match us,hl with|[_],_=>rfl,zar⟩;refine xwQ (k:=5) false za4 U zcE rfl rfl λ_ _ _ _ _ _ _ _ _ _ _ hnw hr hx hpo=>?_;exact (zaf (by exact (zeL (i:=1) zcE.nd rfl xwO (xwN rfl) (zbq zaq))) (zaf (by exact (zft hpo rfl (zcs rfl T.b_range (zdn T.b_len (zaa 0))) (zaR (i:=2) zcE.nd rfl xwO (xwN rfl)) (zal (by exact (zdW (zkC 1 (zaz (zbE (zgG rfl T.b_range (zb2 (zaa 2) zai) (zdn T.b_len (zaa 0))) rfl (N':=zcA) (m:=1) xwk rfl (zaK xwk) (zaY xwk) (zbu xwk) (λcl L s H fp G H' w Y=>⟨(zaR (i:=3) zf8 rfl xwO (xwN rfl)),(zfc (zbn (za5 (zjI T) hr xwl (zp7 λ_ z=>z) (zag (zaO (zaa 0) (zaa 2)) (zag (zaO (zaa 0) (zaa 3)) zap))))),(zaU (zac (zaa 2) (zac (zaa 3) zaq)))⟩))))))))) (zal (by exact (za3 hnw (zeJ T.b_tuple (zj1 1)))))))
abbrev zgg:List Str:=["state","many","found","point","low"]
abbrev zcy:List Str:=["state","many"]
theorem zb9:zau zgg zcy (zah (top 91)):=⟨rfl,rfl,rfl,xwD,rfl,xwD,xwD⟩
noncomputable def zcx:DS:=(zaE (zdh 2 (zbL dA0)) (zaE (zhj (zbV (zab 1)) (zbg 3) (zaE (zbd 4 (dOp zhp (zad zae (dRO 0 (dR (dC (.int 9)) dR0))) (dC (.int 4)))) (dEx (zhm 2 (zbK (dA (zab 4) (dA (dOp zbt (zab 4) (zad zae (dRO 0 (dR (dC (.int 5)) dR0)))) dA0))))))) (zbp (dFn zbX (dA (zkV 2) dA0)))))
noncomputable def zaB:FD:=zas false [true,false] 3 zcx
theorem zdI(T:Tx K mg cls):Dfn false P w K mg base (CXe P w) (xvC cls) 6 (Str.ofString "_law_stretches") [true,false] zaB:=by obtain ⟨f,fd,U,hm⟩:=T.u__law_stretches;refine ⟨f,fd,zcy,?_,hm,U.kp,U.binds (ps:=zcy) λ_ _ _ _ _ _ us hl=>match us,hl with|[_,_],_=>rfl,zar⟩;refine xwQ (k:=5) false za4 U zb9 rfl rfl λ_ _ _ _ _ _ _ _ _ _ _ hnw hr hx hpo=>?_;exact (zaf (by exact (zeL (i:=2) zb9.nd rfl xwO (xwN rfl) (zbq zaq))) (zaf (by exact (zft hpo rfl (zcs rfl T.b_range (zaa 1)) (zaR (i:=3) zb9.nd rfl xwO (xwN rfl)) (zaf (by exact (zaL (i:=4) zb9.nd rfl xwO (xwN rfl) (zkm (za5 (za7 T) hr xwl hx (zb1 0 (zag zai zap))) zai))) (zal (by exact (zdW (zo0 2 (zaU (zac (zaa 4) (zac (zb2 (zaa 4) (za5 (za7 T) hr xwl hx (zb1 0 (zag zai zap)))) zaq)))))))))) (zal (by exact (za3 hnw (zeJ T.b_tuple (zj1 2)))))))
abbrev zjz:List Str:=["state","n","left","found"]
abbrev zeg:List Str:=["state","n"]
theorem zdz:zau zjz zeg (zah (top 92)):=⟨rfl,rfl,rfl,xwD,rfl,xwD,xwD⟩
noncomputable def zea:DS:=(zaE (zdh 2 (zm0 (zab 1))) (zaE (zdh 3 (zbL dA0)) (zaE (zdF (dTB (zsI true 2 (dFz (zbL dA0)))) (dEx (zhm 3 (zhE 2 (zad zae (dRO 0 (dR (zm8 2) dR0)))))) 10) (zbp (dFn zbX (dA (zkV 3) dA0))))))
noncomputable def zcr:FD:=zas false [true,false] 2 zea
theorem zj0(T:Tx K mg cls):Dfn false P w K mg base (CXe P w) (xvC cls) 6 (Str.ofString "_law_order") [true,false] zcr:=by obtain ⟨f,fd,U,hm⟩:=T.u__law_order;refine ⟨f,fd,zeg,?_,hm,U.kp,U.binds (ps:=zeg) λ_ _ _ _ _ _ us hl=>match us,hl with|[_,_],_=>rfl,zar⟩;refine xwQ (k:=5) false za4 U zdz rfl rfl λ_ _ _ _ _ _ _ _ _ _ _ hnw hr hx hpo=>?_;exact (zaf (by exact (zeL (i:=2) zdz.nd rfl xwO (xwN rfl) (zsw rfl rfl T.b_list rfl T.b_range (zaa 1)))) (zaf (by exact (zeL (i:=3) zdz.nd rfl xwO (xwN rfl) (zbq zaq))) (zaf (by exact (zpK 10 hpo (ztv 2 (zfd hr) (zaz (zbq zaq))) (zal (by exact (zdW (zo0 3 (zpe 2 (za5 (za7 T) hr xwl hx (zb1 0 (zag (zs2 2 rfl T.b_len) zap)))))))))) (zal (by exact (za3 hnw (zeJ T.b_tuple (zj1 3))))))))
end
section
variable{P:Program}{w:World}{K:W.Frag}{mg:Str->Option Value}{base:Heap}{xv:Nat->Value}{cls:Nat->Addr}
abbrev zmG:List Str:=["state","many","way","pairs_v","ties","odd","row","legs_v"]
abbrev zf5:List Str:=["state"]
theorem zaH:zau zmG zf5 (zah (top 93)):=⟨rfl,rfl,rfl,xwD,rfl,xwD,xwD⟩
abbrev zev:List Str:=["state","many","way","pairs_v","ties","odd","row","legs_v","tie"]
theorem zih:zev.Nodup:=by decide +kernel
abbrev zdU:List Str:=["state","many","way","pairs_v","ties","odd","row","legs_v","tie"]
theorem zi2:zdU.Nodup:=by decide +kernel
abbrev zep:List Str:=["state","many","way","pairs_v","ties","odd","row","legs_v","at"]
theorem zix:zep.Nodup:=by decide +kernel
abbrev zet:List Str:=["state","many","way","pairs_v","ties","odd","row","legs_v","tie"]
theorem zhY:zet.Nodup:=by decide +kernel
abbrev zdM:List Str:=["state","many","way","pairs_v","ties","odd","row","legs_v","one","other"]
theorem ziA:zdM.Nodup:=by decide +kernel
noncomputable def zfD:DS:=(zaE (zbd 1 (dOp gIx (dC (.lst [(.int 7),(.int 6),(.int 5),(.int 7),(.int 6),(.int 4),(.int 3),(.int 2),(.int 1)])) (zad zae (dRO 0 (dR (dC (.int 9)) dR0))))) (zaE (zbd 2 (zad zae (dRO 0 (dR (dC (.int 5)) dR0)))) (zaE (zbd 3 (zad zbr (dR (zab 1) dR0))) (zaE (zbd 4 (dFz (ze8 zel (dA (zad zaA (dR (zad zaB (dRO 0 (dR (zab 1) dR0))) dR0)) dA0)))) (zaE (dIf (zfj (dTB (dOp (gEq false) (zab 2) (dC (.int 1)))) (dTB (dOp (gEq true) (zab 3) (dFz (zbL dA0))))) (zaE (zbd 5 (dOp gIx (zab 3) (zad zae (dRO 0 (dR (dFn zby (dA (zab 3) dA0)) dR0))))) (zbd 4 (dFz (za9 (dIt (zab 3)) (zbg 8) (dTB (dOp (gEq true) (dOp (gIn false) (zab 8) (zab 4)) (dOp (gEq false) (zab 8) (zab 5)))) (zab 8) 1)))) dNx) (zaE (dIf (dTB (dOp (gEq false) (zab 2) (dC (.int 2)))) (zbd 4 (dFz (za9 (dIt (zab 3)) (zbg 8) (dTB (dOp (gEq false) (zad zae (dRO 0 (dR (dC (.int 3)) dR0))) (dC (.int 0)))) (zab 8) 1))) dNx) (zaE (zbd 6 (zad zcr (dRO 0 (dR (zab 1) dR0)))) (zaE (dIf (zfj (dTB (dOp (gEq false) (zab 2) (dC (.int 3)))) (dTB (dOp gGt (zab 1) (dC (.int 2))))) (zaE (zbd 4 (dFz (za9 (zbV (zab 1)) (zbg 8) dTT (dFn zbX (dA (dFz (ze8 zcS (dA (dFz (zbL (dA (dOp gIx (zab 6) (dOp zhp (zab 8) (dC (.int 1)))) (dA (dOp gIx (zab 6) (zab 8)) dA0)))) dA0))) dA0)) 1))) (zbd 4 (dFz (zgp (zab 4) (dFz (za9 (dIt (zab 3)) (zbg 8) (dTB (dOp (gEq false) (zad zae (dRO 0 (dR (dC (.int 9)) dR0))) (dC (.int 0)))) (zab 8) 1)))))) dNx) (zaE (dIf (zfj (dTB (dOp (gEq false) (zab 2) (dC (.int 4)))) (dTB (dOp (gEq false) (zab 1) (dC (.int 7))))) (zaE (zbd 7 (dC (.lst [(.tup [(.int 0),(.int 1)]),(.tup [(.int 1),(.int 2)]),(.tup [(.int 0),(.int 3)]),(.tup [(.int 3),(.int 4)]),(.tup [(.int 0),(.int 5)]),(.tup [(.int 5),(.int 6)])]))) (zaE (zbd 7 (dFz (zgp (zab 7) (dOp gIx (dC (.lst [(.lst []),(.lst [(.tup [(.int 1),(.int 3)])]),(.lst [(.tup [(.int 1),(.int 3)]),(.tup [(.int 3),(.int 5)]),(.tup [(.int 1),(.int 5)])])])) (zad zae (dRO 0 (dR (dC (.int 3)) dR0))))))) (zbd 4 (dFz (za9 (dIt (zab 7)) (zdL 8 9) dTT (dFn zbX (dA (dFz (ze8 zcS (dA (dFz (zbL (dA (dOp gIx (zab 6) (zab 8)) (dA (dOp gIx (zab 6) (zab 9)) dA0)))) dA0))) dA0)) 2))))) dNx) (zbp (zbK (dA (zab 1) (dA (dFn zbX (dA (dFz (ze8 zeE (dA (zab 4) dA0))) dA0)) dA0)))))))))))))
noncomputable def zc4:FD:=zas false [true] 7 zfD
theorem zmm(T:Tx K mg cls):Dfn false P w K mg base (CXe P w) (xvC cls) 9 (Str.ofString "_law_web") [true] zc4:=by
  obtain ⟨f,fd,U,hm⟩:=T.u__law_web;refine ⟨f,fd,zf5,?_,hm,U.kp,U.binds (ps:=zf5) λ_ _ _ _ _ _ us hl=>match us,hl with|[_],_=>rfl,zar⟩;refine xwQ (k:=8) false za4 U zaH rfl rfl λ_ _ _ _ _ _ _ _ _ _ _ hnw hr hx hpo=>?_;exact (by
   refine zaf ?_ ?_
   ·exact (by refine zaL (i:=1) ?_ ?_ ?_ ?_ ?_ ?_ ?_;exact zaH.nd;rfl;(first|exact Or.inl rfl|exact Or.inr rfl);exact (xwN rfl);exact (by refine zaO ?_ ?_;(refine jd 40 ?_;kernel_rfl);exact (za5 (za7 T) hr xwl hx (zb1 0 (zag zai zap))));rfl;(first|exact .inl rfl|exact .inr rfl|assumption))
   refine zaf ?_ ?_
   ·exact (zaL (i:=2) zaH.nd rfl xwO (xwN rfl) (za5 (za7 T) hr xwl hx (zb1 0 (zag zai zap))))
   refine zaf ?_ ?_
   ·exact (zaL (i:=3) zaH.nd rfl xwO (xwN rfl) (za5 (zfT T) hr xwl hx (zag (zaa 1) zap)))
   refine zaf ?_ ?_
   ·exact (zaL (i:=4) zaH.nd rfl xwO (xwN rfl) (zaz (zjY T.b_list (za5 (zdg T) hr xwl hx (zag (za5 (zdI T) hr xwl hx (zb1 0 (zag (zaa 1) zap))) zap)))))
   refine zaf ?_ ?_
   ·exact (zcu (JW.jt (zlt (zkY (zfd hr) (zaa 2) zai) (ziF (zgi (zfd hr) (zaa 3) (zaz (zbq zaq)))))) (zaf (by exact (zaL (i:=5) zaH.nd rfl xwO (xwN rfl) (zaO (zaa 3) (za5 (za7 T) hr xwl hx (zb1 0 (zag (zdn T.b_len (zaa 3)) zap)))))) (zal (by exact (zaL (i:=4) zaH.nd rfl xwO (xwN rfl) (zaz (zbE (zcW (zaa 3)) rfl (N':=zev) (m:=1) xwk rfl (zaK xwk) (zaY xwk) (zbu xwk) (λcl L s H fp G H' w Y=>⟨(zaR (i:=8) zih rfl xwO (xwN rfl)),(zfc (zgi (zfd hr) (zuE (hu65 hr) (zaa 8) (zaa 4)) (zjT (zfd hr) (zaa 8) (zaa 5)))),(zaa 8)⟩))))))) zaN)
   refine zaf ?_ ?_
   ·exact (zcu (zkY (zfd hr) (zaa 2) zai) (zal (by exact (zaL (i:=4) zaH.nd rfl xwO (xwN rfl) (zaz (zbE (zcW (zaa 3)) rfl (N':=zdU) (m:=1) xwk rfl (zaK xwk) (zaY xwk) (zbu xwk) (λcl L s H fp G H' w Y=>⟨(zaR (i:=8) zi2 rfl xwO (xwN rfl)),(zfc (zkY (zfd hr) (za5 (za7 T) hr xwl (zp7 λ_ z=>z) (zb1 0 (zag zai zap))) zai)),(zaa 8)⟩)))))) zaN)
   refine zaf ?_ ?_
   ·exact (zaL (i:=6) zaH.nd rfl xwO (xwN rfl) (za5 (zj0 T) hr xwl hx (zb1 0 (zag (zaa 1) zap))))
   refine zaf ?_ ?_
   ·exact (zcu (JW.jt (zlt (zkY (zfd hr) (zaa 2) zai) (ziF (zuj (zaa 1) zai)))) (zaf (by exact (zaL (i:=4) zaH.nd rfl xwO (xwN rfl) (zaz (zbE (zcs rfl T.b_range (zaa 1)) rfl (N':=zep) (m:=1) xwk rfl (zaK xwk) (zaY xwk) (zbu xwk) (λcl L s H fp G H' w Y=>⟨(zaR (i:=8) zix rfl xwO (xwN rfl)),zdl,(zeJ T.b_tuple (zaz (zlO rfl T.b_sorted (zaz (zbq (zac (zaO (zaa 6) (zkm (zaa 8) zai)) (zac (zaO (zaa 6) (zaa 8)) zaq)))))))⟩))))) (zal (by exact (zaL (i:=4) zaH.nd rfl xwO (xwN rfl) (zaz (by refine zg1 (zaa 4) ?_;exact (zaz (zbE (zcW (zaa 3)) rfl (N':=zet) (m:=1) xwk rfl (zaK xwk) (zaY xwk) (zbu xwk) (λcl L s H fp G H' w Y=>⟨(zaR (i:=8) zhY rfl xwO (xwN rfl)),(zfc (zkY (zfd hr) (za5 (za7 T) hr xwl (zp7 λ_ z=>z) (zb1 0 (zag zai zap))) zai)),(zaa 8)⟩))))))))) zaN)
   refine zaf ?_ ?_
   ·exact (by refine zcu ?_ ?_ ?_;exact (JW.jt (zlt (zkY (zfd hr) (zaa 2) zai) (ziF (zkY (zfd hr) (zaa 1) zai))));exact (by refine zaf ?_ ?_;exact (by refine zaL (i:=7) ?_ ?_ ?_ ?_ ?_ ?_ ?_;exact zaH.nd;rfl;(first|exact Or.inl rfl|exact Or.inr rfl);exact (xwN rfl);exact (by refine jd 40 ?_;kernel_rfl);rfl;(first|exact .inl rfl|exact .inr rfl|assumption));exact (by refine zaf ?_ ?_;exact (by refine zaL (i:=7) ?_ ?_ ?_ ?_ ?_ ?_ ?_;exact zaH.nd;rfl;(first|exact Or.inl rfl|exact Or.inr rfl);exact (xwN rfl);exact (zaz (by refine zg1 ?_ ?_;exact (zaa 7);exact (by refine zaO ?_ ?_;(refine jd 40 ?_;kernel_rfl);exact (za5 (za7 T) hr xwl hx (zb1 0 (zag zai zap))))));rfl;(first|exact .inl rfl|exact .inr rfl|assumption));exact (by refine zal ?_;exact (zaL (i:=4) zaH.nd rfl xwO (xwN rfl) (zaz (zbE (zcW (zaa 7)) rfl (N':=zdM) (m:=2) xwk rfl (zaK xwk) (zaY xwk) (zbu xwk) (λcl L s H fp G H' w Y=>⟨(ziS (i:=8) (j:=9) rfl ziA rfl rfl xwO xwO (xwN rfl) (xwN rfl)),zdl,(zeJ T.b_tuple (zaz (zlO rfl T.b_sorted (zaz (zbq (zac (zaO (zaa 6) (zaa 8)) (zac (zaO (zaa 6) (zaa 9)) zaq)))))))⟩)))))));exact zaN)
   refine zal ?_;exact (za3 hnw (zaU (zac (zaa 1) (zac (zeJ T.b_tuple (zaz (zoJ rfl (zfd hr) rfl T.b_sorted rfl T.b_set (zaa 4)))) zaq)))))
end
section
variable{P:Program}{w:World}{K:W.Frag}{mg:Str->Option Value}{base:Heap}{xv:Nat->Value}{cls:Nat->Addr}
abbrev zkL:List Str:=["found","due"]
abbrev zd8:List Str:=["found","due"]
theorem zkl:zau zkL zd8 (zah (top 94)):=⟨rfl,rfl,rfl,xwD,rfl,xwD,xwD⟩
abbrev zdH:List Str:=["found","due","one","other"]
theorem zhv:zdH.Nodup:=by decide +kernel
noncomputable def zc7(F_self:FD):DS:=(zaE (dIf (dTB (zsa "tuple" "list" (zab 1))) (zaE (dIf (zcw (dTB (dOp (gEq true) (zcU "tuple" (zab 0)) (zcU "tuple" (zab 1)))) (dTB (dOp (gEq true) (zcU "list" (zab 0)) (zcU "list" (zab 1))))) (zbp (dC (.bl false))) dNx) (zaE (dIf (dTB (dOp (gEq true) (dFn zby (dA (zab 0) dA0)) (dFn zby (dA (zab 1) dA0)))) (zbp (dC (.bl false))) dNx) (zbp (dFn zhk (dA (dFz (za9 (zov (zab 0) (zab 1)) (zdL 2 3) dTT (zad F_self (dR (zab 2) (dR (zab 3) dR0))) 2)) dA0))))) dNx) (zbp (zeX (dOp (gEq false) (zab 0) (zab 1)) (dOp (gEq false) (zcU "bool" (zab 0)) (zcU "bool" (zab 1))))))
noncomputable def zav:Nat->FD
 |0=>λ_=>.no
 |n+1=>zas false [false,false] 0 (zc7 (zav n))
theorem zd6(T:Tx K mg cls):∀ n,Dfn false P w K mg base (CXe P w) (xvC cls) (n+2) (Str.ofString "_law_same") [false,false] (zav n)
 |0=>by obtain ⟨f,fd,U,hm⟩:=T.u__law_same;exact zoU rfl U hm (U.binds (ps:=zd8) λ_ _ _ _ _ _ us hl=>match us,hl with|[_,_],_=>rfl)
 |n+1=>by have DS:=zd6 T n;obtain ⟨f,fd,U,hm⟩:=T.u__law_same;refine ⟨f,fd,zd8,?_,hm,U.kp,U.binds (ps:=zd8) λ_ _ _ _ _ _ us hl=>match us,hl with|[_,_],_=>rfl,zar⟩;refine zgI.mono (j:=(n+2)+1) ?_ xwl;refine za6 (k:=n+2) false za4 U zkl rfl rfl λX C hX hpp hxv hnw hr hx hpo=>?_;obtain ⟨cG,cH,cw,cpp,cσ,cex,cxv,cnw⟩:=C;dsimp only at hpp hxv hnw;subst hpp hxv hnw;have hnw:(false:Bool)=false:=rfl;obtain ⟨cdv,A,outer,s,H,E,rfl⟩:=hX;exact (zaf (by exact (zcu (zbn (zsD zbl zhR rfl T.b_isinstance zbJ rfl T.b_tuple zbw rfl T.b_list ziy (zaa 1))) (zaf (by exact (zcu (JW.jt (zdJ (zgi (zfd hr) (zbP zbl rfl T.b_isinstance zbJ rfl T.b_tuple zbw (zaa 0)) (zbP zbl rfl T.b_isinstance zbJ rfl T.b_tuple zbw (zaa 1))) (zeG (zgi (zfd hr) (zbP zhR rfl T.b_isinstance zbJ rfl T.b_list ziy (zaa 0)) (zbP zhR rfl T.b_isinstance zbJ rfl T.b_list ziy (zaa 1)))))) (zal (by exact (za3 hnw zcP))) zaN)) (zaf (by exact (zcu (zgi (zfd hr) (zdn T.b_len (zaa 0)) (zdn T.b_len (zaa 1))) (zal (by exact (za3 hnw zcP))) zaN)) (zal (by exact (za3 hnw (zlY rfl T.b_all (zaz (zbE (zrp rfl T.b_zip (zaa 0) (zaa 1)) rfl (N':=zdH) (m:=2) xwk rfl (zaK xwk) (zaY xwk) (zbu xwk) (λcl L s H fp G H' w Y=>⟨(ziS (i:=2) (j:=3) rfl zhv rfl rfl xwO xwO (xwN rfl) (xwN rfl)),zdl,(za5 DS hr (wal _) (zp7 λ_ z=>z) (zag (zaa 2) (zag (zaa 3) zap)))⟩))))))))) zaN)) (zal (by exact (za3 hnw (zdt (zjT (zfd hr) (zaa 0) (zaa 1)) (zdN (zjT (zfd hr) (zbP zgr rfl T.b_isinstance zbJ rfl T.b_bool zit (zaa 0)) (zbP zgr rfl T.b_isinstance zbJ rfl T.b_bool zit (zaa 1)))))))))
abbrev zjl:List Str:=["web","thing","one"]
abbrev zey:List Str:=["web","thing"]
theorem zfy:zau zjl zey (zah (top 95)):=⟨rfl,rfl,rfl,xwD,rfl,xwD,xwD⟩
noncomputable def zbe:DS:=(zaE (dIf (zcw (za2 (dTB (zcU "tuple" (zab 1)))) (dTB (dOp (gEq true) (dFn zby (dA (zab 1) dA0)) (dOp gIx (zab 0) (dC (.int 0)))))) (zbp (dC (.bl false))) dNx) (zaE (zhj (dIt (zab 1)) (zbg 2) (zaE (dIf (zcw (za2 (dTB (zcU "tuple" (zab 2)))) (zcw (dTB (dOp (gEq true) (dFn zby (dA (zab 2) dA0)) (dC (.int 2)))) (zcw (za2 (dTB (zad zaC (dR (dOp gIx (zab 2) (dC (.int 0))) dR0)))) (za2 (dTB (zad zaC (dR (dOp gIx (zab 2) (dC (.int 1))) dR0))))))) (zbp (dC (.bl false))) dNx) (dIf (dTB (dOp gLt (dOp gIx (zab 2) (dC (.int 1))) (dOp gIx (zab 2) (dC (.int 0))))) (zbp (dC (.bl false))) dNx))) (zbp (dOp (gEq false) (zad zaA (dR (zab 1) dR0)) (dOp gIx (zab 0) (dC (.int 1)))))))
noncomputable def zbS:FD:=zas false [false,false] 1 zbe
theorem zj6(T:Tx K mg cls):Dfn false P w K mg base (CXe P w) (xvC cls) 9 (Str.ofString "_law_shows") [false,false] zbS:=by obtain ⟨f,fd,U,hm⟩:=T.u__law_shows;refine ⟨f,fd,zey,?_,hm,U.kp,U.binds (ps:=zey) λ_ _ _ _ _ _ us hl=>match us,hl with|[_,_],_=>rfl,zar⟩;refine xwQ (k:=8) false za4 U zfy rfl rfl λ_ _ _ _ _ _ _ _ _ _ _ hnw hr hx hpo=>?_;exact (zaf (by exact (zcu (JW.jt (zdJ (zb4 (zbn (zbP zbl rfl T.b_isinstance zbJ rfl T.b_tuple zbw (zaa 1)))) (zeG (zgi (zfd hr) (zdn T.b_len (zaa 1)) (zaO (zaa 0) zai))))) (zal (by exact (za3 hnw zcP))) zaN)) (zaf (by exact (zft hpo rfl (zcW (zaa 1)) (zaR (i:=2) zfy.nd rfl xwO (xwN rfl)) (zaf (by exact (zcu (JW.jt (zdJ (zb4 (zbn (zbP zbl rfl T.b_isinstance zbJ rfl T.b_tuple zbw (zaa 2)))) (zdJ (zgi (zfd hr) (zdn T.b_len (zaa 2)) zai) (zdJ (zb4 (zbn (za5 (zcQ T) hr xwl hx (zag (zaO (zaa 2) zai) zap)))) (zeG (zb4 (zbn (za5 (zcQ T) hr xwl hx (zag (zaO (zaa 2) zai) zap))))))))) (zal (by exact (za3 hnw zcP))) zaN)) (zal (by exact (zcu (zs9 (zaO (zaa 2) zai) (zaO (zaa 2) zai)) (zal (by exact (za3 hnw zcP))) zaN)))))) (zal (by exact (za3 hnw (zjT (zfd hr) (za5 (zdg T) hr xwl hx (zag (zaa 1) zap)) (zaO (zaa 0) zai)))))))
abbrev zgT:List Str:=["state","web","many","ties","at","odd","some"]
abbrev zcK:List Str:=["state","web"]
theorem zbb:zau zgT zcK (zah (top 96)):=⟨rfl,rfl,rfl,xwD,rfl,xwD,xwD⟩
noncomputable def zcI:DS:=(zaE (zuu (zab 1) (zdL 2 3)) (zaE (zbd 4 (zad zae (dRO 0 (dR (dOp zbt (dFn zby (dA (zab 3) dA0)) (dC (.int 1))) dR0)))) (zaE (zbd 5 (dOp gIx (dFz (zbL (dA (dC (.tup [(.int 0),(.int 0)])) (dA (dC (.tup [(.int 1),(.int 0)])) (dA (zbK (dA (dC (.int 0)) (dA (zab 2) dA0))) (dA (dC (.tup [(.int (-1)),(.int 0)])) (dA (dC (.tup [(.int 0),(.bl true)])) (dA (dC (.lst [(.int 0),(.int 1)])) (dA (dC (.tup [(.int 0),(.int 1),(.int 2)])) (dA (dC (.tup [(.int 0)])) (dA (dC .non) dA0))))))))))) (zad zae (dRO 0 (dR (dC (.int 9)) dR0))))) (zaE (zbd 6 (dFz (zbL (dA (zbK (dA (zab 2) (dA (dOp zbM (dOp zbM (zcg (zab 3) dO0 (dO1 (zab 4))) (zbK (dA (zab 5) dA0))) (zcg (zab 3) (dO1 (zab 4)) dO0)) dA0))) (dA (zbK (dA (zab 2) (dA (dOp zbM (dOp zbM (zcg (zab 3) dO0 (dO1 (zab 4))) (zbK (dA (zab 5) dA0))) (zcg (zab 3) (dO1 (dOp zbt (zab 4) (dC (.int 1)))) dO0)) dA0))) (dA (zbK (dA (zab 2) (dA (znv (zab 3)) dA0))) dA0)))))) (zaE (zbd 6 (dFz (zgp (zab 6) (dFz (zbL (dA (dC (.tup [(.int 0),(.tup [])])) (dA (zbK (dA (dC (.int 8)) (dA (zab 3) dA0))) (dA (dC (.tup [(.bl true),(.tup [])])) (dA (zbK (dA (zab 2) (dA (dFz (ze8 zel (dA (zab 3) dA0))) dA0))) (dA (dFz (zbL (dA (zab 2) (dA (zab 3) dA0)))) (dA (zbK (dA (zab 2) dA0)) (dA (zbK (dA (zab 2) (dA (zab 3) (dA (zbK dA0) dA0)))) (dA (dC .non) dA0))))))))))))) (zbp (dOp gIx (dFz (zgp (zab 6) (dFz (zbL (dA (zbK (dA (zab 2) (dA (dOp zbM (zab 3) (zcg (zab 3) (dO1 (zsF (dC (.int 1)))) dO0)) dA0))) (dA (dC (.dct [])) (dA (zab 2) (dA (zbK (dA (zbK (dA (zab 2) dA0)) (dA (zab 3) dA0))) dA0)))))))) (zad zae (dRO 0 (dR (dC (.int 15)) dR0))))))))))
noncomputable def zb3:FD:=zas false [true,false] 5 zcI
theorem zhi(T:Tx K mg cls):Dfn false P w K mg base (CXe P w) (xvC cls) 6 (Str.ofString "_law_bent_web") [true,false] zb3:=by
  obtain ⟨f,fd,U,hm⟩:=T.u__law_bent_web;refine ⟨f,fd,zcK,?_,hm,U.kp,U.binds (ps:=zcK) λ_ _ _ _ _ _ us hl=>match us,hl with|[_,_],_=>rfl,zar⟩;refine xwQ (k:=5) false za4 U zbb rfl rfl λ_ _ _ _ _ _ _ _ _ _ _ hnw hr hx hpo=>?_;exact (by
   refine zaf ?_ ?_
   ·exact (zqU (zaa 1) (ziS (i:=2) (j:=3) rfl zbb.nd rfl rfl xwO xwO (xwN rfl) (xwN rfl)) (hw:=by kernel_rfl))
   refine zaf ?_ ?_
   ·exact (zaL (i:=4) zbb.nd rfl xwO (xwN rfl) (za5 (za7 T) hr xwl hx (zb1 0 (zag (zb2 (zdn T.b_len (zaa 3)) zai) zap))))
   refine zaf ?_ ?_
   ·exact (by refine zaL (i:=5) ?_ ?_ ?_ ?_ ?_ ?_ ?_;exact zbb.nd;rfl;(first|exact Or.inl rfl|exact Or.inr rfl);exact (xwN rfl);exact (zaO (zaz (zbq (by refine zac (by exact (by refine jd 40 ?_;kernel_rfl)) ?_;refine zac (by exact (by refine jd 40 ?_;kernel_rfl)) ?_;refine zac (by exact (zaU (zac zai (zac (zaa 2) zaq)))) ?_;refine zac (by exact (by refine jd 40 ?_;kernel_rfl)) ?_;refine zac (by exact (by refine jd 40 ?_;kernel_rfl)) ?_;refine zac (by exact (by refine jd 40 ?_;kernel_rfl)) ?_;refine zac (by exact (by refine jd 40 ?_;kernel_rfl)) ?_;refine zac (by exact (by refine jd 40 ?_;kernel_rfl)) ?_;refine zac (by exact zfZ) ?_;exact zaq))) (za5 (za7 T) hr xwl hx (zb1 0 (zag zai zap))));rfl;(first|exact .inl rfl|exact .inr rfl|assumption))
   refine zaf ?_ ?_
   ·exact (zaL (i:=6) zbb.nd rfl xwO (xwN rfl) (zaz (zbq (by refine zac (by exact (zaU (zac (zaa 2) (zac (zen (zen (zdO (zaa 3) zeq (zem (zaa 4))) (zaU (zac (zaa 5) zaq))) (zdO (zaa 3) (zem (zaa 4)) zeq)) zaq)))) ?_;refine zac (by exact (zaU (zac (zaa 2) (zac (zen (zen (zdO (zaa 3) zeq (zem (zaa 4))) (zaU (zac (zaa 5) zaq))) (zdO (zaa 3) (zem (zb2 (zaa 4) zai)) zeq)) zaq)))) ?_;refine zac (by exact (zaU (zac (zaa 2) (zac (znz (zaa 3)) zaq)))) ?_;exact zaq))))
   refine zaf ?_ ?_
   ·exact (zaL (i:=6) zbb.nd rfl xwO (xwN rfl) (zaz (by refine zg1 (zaa 6) ?_;exact (zaz (zbq (by refine zac (by exact (by refine jd 40 ?_;kernel_rfl)) ?_;refine zac (by exact (zaU (zac zai (zac (zaa 3) zaq)))) ?_;refine zac (by exact (by refine jd 40 ?_;kernel_rfl)) ?_;refine zac (by exact (zaU (zac (zaa 2) (zac (zaz (zjY T.b_list (zaa 3))) zaq)))) ?_;refine zac (by exact (zaz (zbq (zac (zaa 2) (zac (zaa 3) zaq))))) ?_;refine zac (by exact (zaU (zac (zaa 2) zaq))) ?_;refine zac (by exact (zaU (by refine zac (by exact (zaa 2)) ?_;refine zac (by exact (zaa 3)) ?_;refine zac (by exact (zaU zaq)) ?_;exact zaq))) ?_;refine zac (by exact zfZ) ?_;exact zaq))))))
   refine zal ?_;exact (za3 hnw (zaO (zaz (by refine zg1 (zaa 6) ?_;exact (zaz (zbq (by refine zac (by exact (zaU (zac (zaa 2) (zac (zen (zaa 3) (zdO (zaa 3) (zem (znV zai)) zeq)) zaq)))) ?_;refine zac (by exact zkJ) ?_;refine zac (by exact (zaa 2)) ?_;refine zac (by exact (zaU (zac (zaU (zac (zaa 2) zaq)) (zac (zaa 3) zaq)))) ?_;exact zaq))))) (za5 (za7 T) hr xwl hx (zb1 0 (zag zai zap))))))
abbrev zhS:List Str:=["thing","tie"]
abbrev zdA:List Str:=["thing"]
theorem zeC:zau zhS zdA (zah (top 97)):=⟨rfl,rfl,rfl,xwD,rfl,xwD,xwD⟩
abbrev zcZ:List Str:=["thing","tie","one"]
theorem zgl:zcZ.Nodup:=by decide +kernel
abbrev zcT:List Str:=["thing","tie","pair"]
theorem zgd:zcT.Nodup:=by decide +kernel
noncomputable def zaI:DS:=(zaE (dIf (zcw (za2 (dTB (zcU "tuple" (zab 0)))) (zcw (dTB (dOp (gEq true) (dFn zby (dA (zab 0) dA0)) (dC (.int 2)))) (zcw (za2 (dTB (zad zaC (dR (dOp gIx (zab 0) (dC (.int 0))) dR0)))) (za2 (dTB (zdE gLe gLe (dC (.int 1)) (dOp gIx (zab 0) (dC (.int 0))) (dC (.int 7)))))))) (zbp (dC (.bl false))) dNx) (zaE (dIf (za2 (dTB (zcU "tuple" (dOp gIx (zab 0) (dC (.int 1)))))) (zbp (dC (.bl false))) dNx) (zaE (zhj (dIt (dOp gIx (zab 0) (dC (.int 1)))) (zbg 1) (dIf (zcw (za2 (dTB (zcU "tuple" (zab 1)))) (zcw (dTB (dOp (gEq true) (dFn zby (dA (zab 1) dA0)) (dC (.int 2)))) (za2 (dTB (dFn zhk (dA (dFz (za9 (dIt (zab 1)) (zbg 2) dTT (zad zbm (dR (dOp gIx (zab 0) (dC (.int 0))) (dR (zab 2) dR0))) 1)) dA0)))))) (zbp (dC (.bl false))) dNx)) (zbp (dOp (gEq false) (dFz (ze8 zel (dA (dOp gIx (zab 0) (dC (.int 1))) dA0))) (dFz (za9 (dIt (zad zbr (dR (dOp gIx (zab 0) (dC (.int 0))) dR0))) (zbg 2) (dTB (dOp (gIn false) (zab 2) (dOp gIx (zab 0) (dC (.int 1))))) (zab 2) 1)))))))
noncomputable def zaT:FD:=zas false [false] 1 zaI
theorem zfe(T:Tx K mg cls):Dfn false P w K mg base (CXe P w) (xvC cls) 9 (Str.ofString "_law_is_web") [false] zaT:=by obtain ⟨f,fd,U,hm⟩:=T.u__law_is_web;refine ⟨f,fd,zdA,?_,hm,U.kp,U.binds (ps:=zdA) λ_ _ _ _ _ _ us hl=>match us,hl with|[_],_=>rfl,zar⟩;refine xwQ (k:=8) false za4 U zeC rfl rfl λ_ _ _ _ _ _ _ _ _ _ _ hnw hr hx hpo=>?_;exact (zaf (by exact (zcu (JW.jt (zdJ (zb4 (zbn (zbP zbl rfl T.b_isinstance zbJ rfl T.b_tuple zbw (zaa 0)))) (zdJ (zgi (zfd hr) (zdn T.b_len (zaa 0)) zai) (zdJ (zb4 (zbn (za5 (zcQ T) hr xwl hx (zag (zaO (zaa 0) zai) zap)))) (zeG (zb4 (zqf zn7 zcB zbW zn7 zcB zbW zai (zaO (zaa 0) zai) zai))))))) (zal (by exact (za3 hnw zcP))) zaN)) (zaf (by exact (zcu (zb4 (zbn (zbP zbl rfl T.b_isinstance zbJ rfl T.b_tuple zbw (zaO (zaa 0) zai)))) (zal (by exact (za3 hnw zcP))) zaN)) (zaf (by exact (zft hpo rfl (zcW (zaO (zaa 0) zai)) (zaR (i:=1) zeC.nd rfl xwO (xwN rfl)) (zal (by exact (zcu (JW.jt (zdJ (zb4 (zbn (zbP zbl rfl T.b_isinstance zbJ rfl T.b_tuple zbw (zaa 1)))) (zdJ (zgi (zfd hr) (zdn T.b_len (zaa 1)) zai) (zeG (zb4 (zbn (zlY rfl T.b_all (zaz (zbE (zcW (zaa 1)) rfl (N':=zcZ) (m:=1) xwk rfl (zaK xwk) (zaY xwk) (zbu xwk) (λcl L s H fp G H' w Y=>⟨(zaR (i:=2) zgl rfl xwO (xwN rfl)),zdl,(za5 (zha T) hr xwl (zp7 λ_ z=>z) (zag (zaO (zaa 0) zai) (zag (zaa 2) zap)))⟩)))))))))) (zal (by exact (za3 hnw zcP))) zaN))))) (zal (by exact (za3 hnw (zjT (zfd hr) (zaz (zjY T.b_list (zaO (zaa 0) zai))) (zaz (zbE (zcW (za5 (zfT T) hr xwl hx (zag (zaO (zaa 0) zai) zap))) rfl (N':=zcT) (m:=1) xwk rfl (zaK xwk) (zaY xwk) (zbu xwk) (λcl L s H fp G H' w Y=>⟨(zaR (i:=2) zgd rfl xwO (xwN rfl)),(zfc (zuW (hu65 hr) (zaa 2) (zaO (zaa 0) zai))),(zaa 2)⟩))))))))))
abbrev zkF:List Str:=["state","some","at","low","high","odd","found"]
abbrev zeP:List Str:=["state","some"]
theorem zbT:zau zkF zeP (zah (top 98)):=⟨rfl,rfl,rfl,xwD,rfl,xwD,xwD⟩
noncomputable def zeW:DS:=(zaE (zbd 2 (zad zae (dRO 0 (dR (dFn zby (dA (zab 1) dA0)) dR0)))) (zaE (zuu (dOp gIx (zab 1) (zab 2)) (zdL 3 4)) (zaE (zbd 5 (dFz (zbL (dA (zbK (dA (zab 3) (dA (dOp zbt (zab 4) (dC (.int 1))) dA0))) (dA (zbK (dA (dOp zhp (zab 3) (dC (.int 1))) (dA (zab 4) dA0))) (dA (zbK (dA (dOp zbt (zab 3) (dC (.int 9))) (dA (dOp zbt (zab 4) (dC (.int 9))) dA0))) (dA (zbK (dA (dOp zbt (zab 4) (dC (.int 1))) (dA (zab 3) dA0))) (dA (zbK (dA (zab 3) (dA (dC (.bl true)) dA0))) (dA (dFz (zbL (dA (zab 3) (dA (zab 4) dA0)))) (dA (zbK (dA (zab 3) dA0)) dA0)))))))))) (zaE (zbd 5 (dOp gIx (dFz (zgp (zab 5) (dFz (zbL (dA (dC .non) (dA (zbK (dA (zab 3) (dA (zab 4) (dA (dC (.int 0)) dA0)))) (dA (zbK (dA (dC (.str (Str.ofString "0"))) (dA (zab 4) dA0))) dA0))))))) (zad zae (dRO 0 (dR (dC (.int 10)) dR0))))) (zaE (zbd 6 (dFz (zbL (dA (dOp zbM (dOp zbM (zcg (zab 1) dO0 (dO1 (zab 2))) (zbK (dA (zab 5) dA0))) (zcg (zab 1) (dO1 (dOp zbt (zab 2) (dC (.int 1)))) dO0)) (dA (zcg (zab 1) dO0 (dO1 (zsF (dC (.int 1))))) (dA (dOp zbM (zab 1) (dC (.tup [(.tup [(.int 0),(.int 0)])]))) (dA (dFz (ze8 zel (dA (zab 1) dA0))) (dA (dC .non) (dA (znv (zab 1)) (dA (dC (.dct [])) dA0)))))))))) (zbp (dOp gIx (zab 6) (dOp gIx (dC (.lst [(.int 0),(.int 0),(.int 0),(.int 0),(.int 1),(.int 2),(.int 3),(.int 4),(.int 5),(.int 6)])) (zad zae (dRO 0 (dR (dC (.int 10)) dR0)))))))))))
noncomputable def zaQ:FD:=zas false [true,false] 5 zeW
theorem zgM(T:Tx K mg cls):Dfn false P w K mg base (CXe P w) (xvC cls) 6 (Str.ofString "_law_bent") [true,false] zaQ:=by
  obtain ⟨f,fd,U,hm⟩:=T.u__law_bent;refine ⟨f,fd,zeP,?_,hm,U.kp,U.binds (ps:=zeP) λ_ _ _ _ _ _ us hl=>match us,hl with|[_,_],_=>rfl,zar⟩;refine xwQ (k:=5) false za4 U zbT rfl rfl λ_ _ _ _ _ _ _ _ _ _ _ hnw hr hx hpo=>?_;exact (by
   refine zaf ?_ ?_
   ·exact (zaL (i:=2) zbT.nd rfl xwO (xwN rfl) (za5 (za7 T) hr xwl hx (zb1 0 (zag (zdn T.b_len (zaa 1)) zap))))
   refine zaf ?_ ?_
   ·exact (zqU (zaO (zaa 1) (zaa 2)) (ziS (i:=3) (j:=4) rfl zbT.nd rfl rfl xwO xwO (xwN rfl) (xwN rfl)) (hw:=by kernel_rfl))
   refine zaf ?_ ?_
   ·exact (zaL (i:=5) zbT.nd rfl xwO (xwN rfl) (zaz (zbq (by refine zac (by exact (zaU (zac (zaa 3) (zac (zb2 (zaa 4) zai) zaq)))) ?_;refine zac (by exact (zaU (zac (zkm (zaa 3) zai) (zac (zaa 4) zaq)))) ?_;refine zac (by exact (zaU (zac (zb2 (zaa 3) zai) (zac (zb2 (zaa 4) zai) zaq)))) ?_;refine zac (by exact (zaU (zac (zb2 (zaa 4) zai) (zac (zaa 3) zaq)))) ?_;refine zac (by exact (zaU (zac (zaa 3) (zac zcP zaq)))) ?_;refine zac (by exact (zaz (zbq (zac (zaa 3) (zac (zaa 4) zaq))))) ?_;refine zac (by exact (zaU (zac (zaa 3) zaq))) ?_;exact zaq))))
   refine zaf ?_ ?_
   ·exact (zaL (i:=5) zbT.nd rfl xwO (xwN rfl) (zaO (zaz (by refine zg1 (zaa 5) ?_;exact (zaz (zbq (by refine zac (by exact zfZ) ?_;refine zac (by exact (zaU (by refine zac (by exact (zaa 3)) ?_;refine zac (by exact (zaa 4)) ?_;refine zac (by exact zai) ?_;exact zaq))) ?_;refine zac (by exact (zaU (zac znS (zac (zaa 4) zaq)))) ?_;exact zaq))))) (za5 (za7 T) hr xwl hx (zb1 0 (zag zai zap)))))
   refine zaf ?_ ?_
   ·exact (zaL (i:=6) zbT.nd rfl xwO (xwN rfl) (zaz (zbq (by refine zac (by exact (zen (zen (zdO (zaa 1) zeq (zem (zaa 2))) (zaU (zac (zaa 5) zaq))) (zdO (zaa 1) (zem (zb2 (zaa 2) zai)) zeq))) ?_;refine zac (by exact (zdO (zaa 1) zeq (zem (znV zai)))) ?_;refine zac (by exact (zen (zaa 1) (by refine jd 40 ?_;kernel_rfl))) ?_;refine zac (by exact (zaz (zjY T.b_list (zaa 1)))) ?_;refine zac (by exact zfZ) ?_;refine zac (by exact (znz (zaa 1))) ?_;refine zac (by exact zkJ) ?_;exact zaq))))
   refine zal ?_;exact (za3 hnw (zaO (zaa 6) (by refine zaO ?_ ?_;(refine jd 40 ?_;kernel_rfl);exact (za5 (za7 T) hr xwl hx (zb1 0 (zag zai zap)))))))
abbrev zez:List Str:=["thing","<tab>","calls"]
abbrev zb7:List Str:=["thing"]
theorem zcc:zau zez zb7 (zah (top 99)):=⟨rfl,rfl,rfl,xwD,rfl,xwD,xwD⟩
abbrev zbC:List Str:=["thing","<tab>","calls","call"]
theorem zdy:zbC.Nodup:=by decide +kernel
noncomputable def zb0:DS:=(zik 1 2 zhB 6 (zad zf0 (dR (zab 0) dR0)) (zad zb6 (dR (zab 0) dR0)) (zad zdd (dR (zab 0) dR0)) (zad ze7 (dR (zab 0) (dR (dC .non) dR0))) (zad zaG (dR (zab 0) (dR (dC .non) dR0))))
noncomputable def zax:FD:=zas false ([false]++[true]) 1 zb0
theorem zer(T:Tx K mg cls){f PT cL:Addr}{fd:FuncData}(U:Fun K (Str.ofString "_law_refusals_right") (Str.ofString "_law_refusals_right") (top 99) f fd)(hmx:mg (Str.ofString "_law_refusals_right")=some (.ref f))(hcL:fd.code=.ref cL)(hch:W.codeHdIn K cL PT=true)(hbm:base.BuiltinsAt mg PT)(hKb:K.In base):zuU P w K mg base (CXe P w) (xvC cls) 36 (Str.ofString "_law_refusals_right") ([false]++[true]) PT zax:=by
  obtain ⟨fR,fdR,UR,hmR⟩:=T.u__law_refused;refine ⟨f,fd,zb7,?_,hmx,U.kp,U.binds (ps:=zb7) λ_ _ _ _ _ _ us hl=>match us,hl with|[_],_=>rfl,zar⟩;refine zpk (k:=35) (ks:=[false]) (m:=1) (xt:="<tab>") U hcL hch zcc rfl rfl rfl (by unfold Vis;decide +kernel) hbm hKb λX C hX hpp hσ0 hxv hnw hr hx hpo hLB=>?_;obtain ⟨cdv,A,outer,s,H,E,rfl⟩:=hX;obtain ⟨cG,cH,cw,cpp,cσ,cex,cxv,cnw⟩:=C;dsimp only at hpp hσ0 hxv hnw;subst hpp hxv hnw;have hnw:(false:Bool)=false:=rfl;exact (by
   refine zm2 (fR:=dFz (dRep (dC (.lst [(.lst [(.int 6)])])) (dC (.int 5)))) (k:=30) (n:=6) (j:=1) (ci:=2) (xc:="call") (N':=zbC) (st:=top 86) hLB (show 1∈zaJ ([false]++[true]) by decide) hσ0 (show 2∉zaJ ([false]++[true]) by decide) cls (λ_ _=>rfl) rfl UR zbj rfl (UR.binds (ps:=["call"]) λ_ _ _ _ _ _ us hl=>match us,hl with|[_],_=>rfl) hmR (hr.mono xwl) (zfd hr) ?_ zgf ?_ ?_ ?_ ?_ ?_ zcc.nd ?_ ?_ ?_ ?_ hnw ?_ ?_ ?_ ?_ ?_ ?_
   ·exact λ_ _=>zhu T
   ·refine ⟨λXL CL hXL hcv hr hx=>?_,zaY xwk,λ_ _ _ _=>rfl,rfl,rfl,rfl,rfl,rfl⟩;obtain ⟨⟨xp,xw,xK,xmg,xb,xA,xN,xs,xH,xenv,xo,xst,xex,xfn,xc,xpn,xxe⟩,cl,Fa,cdv,s,H,E,e1,e2,e3,e4,e5,rfl⟩:=hXL;obtain ⟨cG,cH,cw,cpp,cσ,cex,cxv,cnw⟩:=CL;dsimp only at e1 e2 e3 e4 e5 hcv;subst e1 e2 e3 e4 e5 hcv;exact (za5 (zlo T) hr xwl hx (zag (zaa 0) zap))
   ·refine ⟨λXL CL hXL hcv hr hx=>?_,zaY xwk,λ_ _ _ _=>rfl,rfl,rfl,rfl,rfl,rfl⟩;obtain ⟨⟨xp,xw,xK,xmg,xb,xA,xN,xs,xH,xenv,xo,xst,xex,xfn,xc,xpn,xxe⟩,cl,Fa,cdv,s,H,E,e1,e2,e3,e4,e5,rfl⟩:=hXL;obtain ⟨cG,cH,cw,cpp,cσ,cex,cxv,cnw⟩:=CL;dsimp only at e1 e2 e3 e4 e5 hcv;subst e1 e2 e3 e4 e5 hcv;exact (za5 (zdZ T) hr xwl hx (zag (zaa 0) zap))
   ·refine ⟨λXL CL hXL hcv hr hx=>?_,zaY xwk,λ_ _ _ _=>rfl,rfl,rfl,rfl,rfl,rfl⟩;obtain ⟨⟨xp,xw,xK,xmg,xb,xA,xN,xs,xH,xenv,xo,xst,xex,xfn,xc,xpn,xxe⟩,cl,Fa,cdv,s,H,E,e1,e2,e3,e4,e5,rfl⟩:=hXL;obtain ⟨cG,cH,cw,cpp,cσ,cex,cxv,cnw⟩:=CL;dsimp only at e1 e2 e3 e4 e5 hcv;subst e1 e2 e3 e4 e5 hcv;exact (za5 (zkv T) hr xwl hx (zag (zaa 0) zap))
   ·refine ⟨λXL CL hXL hcv hr hx=>?_,zaY xwk,λ_ _ _ _=>rfl,rfl,rfl,rfl,rfl,rfl⟩;obtain ⟨⟨xp,xw,xK,xmg,xb,xA,xN,xs,xH,xenv,xo,xst,xex,xfn,xc,xpn,xxe⟩,cl,Fa,cdv,s,H,E,e1,e2,e3,e4,e5,rfl⟩:=hXL;obtain ⟨cG,cH,cw,cpp,cσ,cex,cxv,cnw⟩:=CL;dsimp only at e1 e2 e3 e4 e5 hcv;subst e1 e2 e3 e4 e5 hcv;exact (za5 (zmA T) hr xwl hx (zag (zaa 0) (zag zfZ zap)))
   ·refine ⟨λXL CL hXL hcv hr hx=>?_,zaY xwk,λ_ _ _ _=>rfl,rfl,rfl,rfl,rfl,rfl⟩;obtain ⟨⟨xp,xw,xK,xmg,xb,xA,xN,xs,xH,xenv,xo,xst,xex,xfn,xc,xpn,xxe⟩,cl,Fa,cdv,s,H,E,e1,e2,e3,e4,e5,rfl⟩:=hXL;obtain ⟨cG,cH,cw,cpp,cσ,cex,cxv,cnw⟩:=CL;dsimp only at e1 e2 e3 e4 e5 hcv;subst e1 e2 e3 e4 e5 hcv;exact (za5 (zek T) hr xwl hx (zag (zaa 0) (zag zfZ zap)))
   ·first|exact Or.inl rfl|exact Or.inr rfl
   ·refine ⟨rfl,rfl,by first|exact Or.inl rfl|exact Or.inr (Or.inl rfl)|exact Or.inr (Or.inr rfl),xwk,rfl,zaK xwk,zaY xwk,zbu xwk,zdy,rfl,λ_ _ _ _ _=>rfl,λ_ _ _ _ _=>rfl,λ_ _ _ _ _=>rfl,λ_ _ _ _ _=>⟨Or.inl rfl,Or.inl rfl,rfl⟩,λ_=>rfl,xwd,xwd,xwd,xwd,xwd⟩
   ·exact λC=>zaz (by refine zsO (by refine jd 40 ?_;kernel_rfl) ?_;exact zai)
   ·exact λ_=>rfl
   ·kernel_rfl
   ·kernel_rfl
   ·exact ⟨xwk,xwk,xwk,xwk,xwk,xwk⟩
   ·exact ⟨xwk,xwk,xwk,xwk,xwk,xwk⟩
   ·exact ⟨xwk,xwk,xwk,xwk,xwk,xwk⟩
   ·exact ⟨xwk,xwk,xwk,xwk,xwk,xwk⟩)
abbrev zuH:List Str:=["script","k","state","web","some","other","thing","one","<tab>"]
abbrev ztE:List Str:=["script"]
theorem zfP:zau zuH ztE (zah (top 100)):=⟨rfl,rfl,rfl,xwD,rfl,xwD,xwD⟩
noncomputable def zlg:DS:=(zaE (zhj (zbV (dFn zic (dA (dC (.int 1)) (dA (dFn ziU (dA (dFn zby (dA (zab 0) dA0)) (dA (dC (.int 8)) dA0))) dA0)))) (zbg 1) (zaE (zdh 2 (zgc zcq (dR (zab 0) (dR (zab 1) dR0)))) (zaE (zte 3 4 (dA (zad zc4 (dRO 2 dR0)) (dA (zad zaB (dRO 2 (dR (dOp zbt (dC (.int 1)) (zad zae (dRO 2 (dR (dC (.int 7)) dR0)))) dR0))) dA0))) (zaE (zbd 5 (zad zdC (dR (dFz (ze8 zel (dA (zab 4) dA0))) dR0))) (zaE (dIf (zcw (za2 (dTB (zad (zav 6) (dR (zab 5) (dR (zbK (dA (dFn zby (dA (zab 4) dA0)) (dA (zad zaA (dR (zab 4) dR0)) dA0))) dR0))))) (dTB (dOp (zpD true) (zad zbA (dR (zab 3) dR0)) (dC (.bl true))))) (zbp (dC (.bl false))) dNx) (zaE (zhj (dIt (dFz (zbL (dA (zab 4) (dA (zad zaQ (dRO 2 (dR (zab 4) dR0))) (dA (zad zaQ (dRO 2 (dR (zab 4) dR0))) (dA (zbK dA0) dA0))))))) (zbg 6) (zhj (dIt (dFz (zbL (dA (zab 5) (dA (zab 3) dA0))))) (zbg 7) (dIf (za2 (dTB (zad (zav 6) (dR (zad zaG (dR (zab 7) (dR (zab 6) dR0))) (dR (zad zbS (dR (zab 7) (dR (zab 6) dR0))) dR0))))) (zbp (dC (.bl false))) dNx))) (zaE (zbd 6 (zad zb3 (dRO 2 (dR (zab 3) dR0)))) (zaE (dIf (za2 (dTB (zad (zav 6) (dR (zad zbA (dR (zab 6) dR0)) (dR (zad zaT (dR (zab 6) dR0)) dR0))))) (zbp (dC (.bl false))) dNx) (dIf (zfj (za2 (dTB (zad zaT (dR (zab 6) dR0)))) (za2 (dTB (zad zax (dRT 8 (dR (zab 6) dR0)))))) (zbp (dC (.bl false))) dNx))))))))) (zbp (dC (.bl true))))
theorem zvc(T:Tx K mg cls){f PT:Addr}{fd:FuncData}(U:Fun K "law" "law" (top 100) f fd)(DT:zuU P w K mg base (CXe P w) (xvC cls) 36 (Str.ofString "_law_refusals_right") ([false]++[true]) PT zax):zgI P w K mg base (CXe P w) 39 f fd ztE (spT K PT (zsG 7 zhB zlg)):=by refine zry (k:=38) (m:=7) (xt:="<tab>") (xv:=xvC cls) U zfP rfl rfl (by unfold Vis;decide +kernel) λX C hX hpp hσ0 hxv hnw hr hx hpo=>?_;obtain ⟨cdv,A,outer,s,H,E,rfl⟩:=hX;obtain ⟨cG,cH,cw,cpp,cσ,cex,cxv,cnw⟩:=C;dsimp only at hpp hσ0 hxv hnw;subst hpp hxv hnw;have hnw:(false:Bool)=false:=rfl;exact (zaf (by exact (zft hpo rfl (zcs rfl T.b_range (zsT rfl T.b_max zai (zub rfl T.b_min (zdn T.b_len (zaa 0)) zai))) (zaR (i:=1) zfP.nd rfl xwO (show 1∉([8]:List Nat) by decide)) (zaf (by exact (zeL (i:=2) zfP.nd rfl xwO (show 2∉([8]:List Nat) by decide) (zuJ (zjb T) hr xwl hx (zag (zaa 0) (zag (zaa 1) zap))))) (zaf (by exact (ztU (i:=3) (j:=4) rfl zfP.nd rfl rfl xwd rfl rfl (show 3∉([8]:List Nat) by decide) (show 4∉([8]:List Nat) by decide) (zac (za5 (zmm T) hr xwl hx (zb1 2 zap)) (zac (za5 (zdI T) hr xwl hx (zb1 2 (zag (zb2 zai (za5 (za7 T) hr xwl hx (zb1 2 (zag zai zap)))) zap))) zaq)) xwk)) (zaf (by exact (zaL (i:=5) zfP.nd rfl xwO (show 5∉([8]:List Nat) by decide) (za5 (zlA T) hr xwl hx (zag (zaz (zjY T.b_list (zaa 4))) zap)))) (zaf (by exact (zcu (JW.jt (zdJ (zb4 (zbn (za5 (zd6 T 6) hr xwl hx (zag (zaa 5) (zag (zaU (zac (zdn T.b_len (zaa 4)) (zac (za5 (zdg T) hr xwl hx (zag (zaa 4) zap)) zaq))) zap))))) (zeG (zrQ (za5 (zis T) hr xwl hx (zag (zaa 3) zap)) zcP)))) (zal (by exact (za3 hnw zcP))) zaN)) (zaf (by exact (zft hpo rfl (zcW (zaz (zbq (by refine zac (by exact (zaa 4)) ?_;refine zac (by exact (za5 (zgM T) hr xwl hx (zb1 2 (zag (zaa 4) zap)))) ?_;refine zac (by exact (za5 (zgM T) hr xwl hx (zb1 2 (zag (zaa 4) zap)))) ?_;refine zac (by exact (zaU zaq)) ?_;exact zaq)))) (zaR (i:=6) zfP.nd rfl xwO (show 6∉([8]:List Nat) by decide)) (zal (by exact (zft hpo rfl (zcW (zaz (zbq (zac (zaa 5) (zac (zaa 3) zaq))))) (zaR (i:=7) zfP.nd rfl xwO (show 7∉([8]:List Nat) by decide)) (zal (by exact (zcu (zb4 (zbn (za5 (zd6 T 6) hr xwl hx (zag (za5 (zek T) hr xwl hx (zag (zaa 7) (zag (zaa 6) zap))) (zag (za5 (zj6 T) hr xwl hx (zag (zaa 7) (zag (zaa 6) zap))) zap))))) (zal (by exact (za3 hnw zcP))) zaN)))))))) (zaf (by exact (zaL (i:=6) zfP.nd rfl xwO (show 6∉([8]:List Nat) by decide) (za5 (zhi T) hr xwl hx (zb1 2 (zag (zaa 3) zap))))) (zaf (by exact (zcu (zb4 (zbn (za5 (zd6 T 6) hr xwl hx (zag (za5 (zis T) hr xwl hx (zag (zaa 6) zap)) (zag (za5 (zfe T) hr xwl hx (zag (zaa 6) zap)) zap))))) (zal (by exact (za3 hnw zcP))) zaN)) (zal (by exact (zcu (JW.jt (zlt (zb4 (zbn (za5 (zfe T) hr xwl hx (zag (zaa 6) zap)))) (ziF (zb4 (zbn (zt0 DT hr xwl hx (show 8∈([8]:List Nat) by decide) hσ0 (zag (zaa 6) zap))))))) (zal (by exact (za3 hnw zcP))) zaN)))))))))))) (zal (by exact (za3 hnw zcP))))
end
theorem zkU{x y:Dt}{bs:List B}:∀{Z:Ev}{k:Nat},zfN [.d x,.d y] bs k Z = Z
 |[],_=>rfl
 |o::r,k=>by show (match zdw [.d x,.d y] k with|some j=>bs[j]?|none=>o)::zfN [.d x,.d y] bs (k+1) r=_;rw[zkU (Z:=r)];rfl
theorem zc1{F:FD}{fa:De}{Z Z':Ev}{d y:Dt}{l:List B}(h:fa Z=.ok (d,Z'))(hF:F [.val d]=.ok (y,l)):zad F (dR fa dR0) Z=.ok (y,Z'):=by unfold zad dR dR0;rw[h];simp only[R.bind_ok,uniq,zbf,if_true,za0,hF];rw[zqx]
theorem zfi{F:FD}{fa fb:De}{Z Z' Z'':Ev}{d e y:Dt}{l:List B}(h:fa Z=.ok (d,Z'))(h2:fb Z'=.ok (e,Z''))(hF:F [.val d,.val e]=.ok (y,l)):zad F (dR fa (dR fb dR0)) Z=.ok (y,Z''):=by unfold zad dR dR0;rw[h];simp only[R.bind_ok,h2,uniq,zbf,if_true,za0,hF];rw[zkU]
theorem ziV{i k:Nat}{d:Dt}:zdw [.s i,.d d] k=if i=k then some 0 else none:=by unfold zdw zdk;split <;> rfl
theorem zn6{i:Nat}{d:Dt}{b:B}{bs:List B}:∀{Z:Ev}{k:Nat},k<=i->zfN [.s i,.d d] (b::bs) k Z = Z.set (i-k) (some b)
 |[],k,_=>by simp[zfN]
 |o::r,k,h=>by
  unfold zfN;rw[ziV];by_cases e:i=k
  ·subst e;simp only[if_true,Nat.sub_self,List.set_cons_zero];have:∀(r:Ev)(m:Nat),i<m->zfN [.s i,.d d] (b::bs) m r=r:=by
    intro r
    induction r with
    |nil=>intro m _;rfl
    |cons o r ih =>
     intro m hm;unfold zfN;rw[ziV,if_neg xwl,ih (m+1) xwl]
   rw[this r (i+1) xwl];rfl
  ·rw[if_neg e,zn6 (k:=k+1) xwl];have:i-k=(i-(k+1))+1:=by lia
   rw[this,List.set_cons_succ]
theorem zkd{F:FD}{fb:De}{i:Nat}{Z:Ev}{d y:Dt}{st st':List Dt}{l:List B}(hi:Z[i]? = some (some (.own st)))(h:fb Z=.ok (d,Z))(hF:F [.own st,.val d]=.ok (y,.own st'::l)):zad F (dRO i (dR fb dR0)) Z=.ok (y,Z.set i (some (.own st'))):=by
 have u:uniq [.s i,.d d]=true:=by unfold uniq zbf;rw[ziV];simp[zbf]
 unfold zad dRO dR dR0;simp only[hi,h,R.bind_ok,u,if_true,za0,zll,hF];rw[zn6 (Nat.zero_le _)];rfl
theorem zao{nw:Bool}{ks:List Bool}{m:Nat}{body:DS}{bs:List B}{d:Dt}{Z':Ev}{l:List B}(hk:zbG bs=ks)(hb:body (bs.map some++List.replicate m none)=.ok (.rt d,Z'))(hl:zaw ks Z'=.ok l):zas nw ks m body bs=.ok (d,l):=by unfold zas;rw[if_pos hk,hb];simp only[R.bind_ok,hl]
theorem znP{ks:List Bool}{m:Nat}{body:DS}{bs:List B}{Z':Ev}{l:List B}(hk:zbG bs=ks)(hb:body (bs.map some++List.replicate m none)=.ok (.nx,Z'))(hl:zaw ks Z'=.ok l):zas false ks m body bs=.ok (.non,l):=by unfold zas;rw[if_pos hk,hb];simp only[R.bind_ok,hl];rfl
noncomputable def St(st:List Dt):Prop:=∃ s b,st=[.int s,.bl b]
theorem zaZ{st:List Dt}{m:Int}(h:St st)(h0:0<m)(h1:m<1073741824):∃(v:Int)(st':List Dt),zae [.own st,.val (.int m)]=.ok (.int v,[.own st',.val .non])/\St st'/\0<=v/\v<m:=by
 obtain ⟨s,b,rfl⟩:=h;cases b with
 |true =>
  refine ⟨s % m,[.int (s / m),.bl true],?_,⟨_,_,rfl⟩,Int.emod_nonneg _ xwl,Int.emod_lt_of_pos _ h0⟩;unfold zae zas zeZ;simp[zbG,zll,zaE,dIf,dTB,zom,dC,atI,ixN,zbd,dOp,zmk,zab,zoi,zqc,zbp,zaw,h0,h1]
 |false =>
  have e1:∃ a,(s * 48271+29) % 2147483647=a/\0<=a/\a<2147483647:=⟨_,rfl,Int.emod_nonneg _ xwd,Int.emod_lt_of_pos _ xwd⟩
  obtain ⟨a,ea,a0,a1⟩:=e1;have e2:∃ c,(a * a+39373 * a+7) % 2147483629=c/\0<=c/\c<2147483629:=⟨_,rfl,Int.emod_nonneg _ xwd,Int.emod_lt_of_pos _ xwd⟩
  obtain ⟨c,ec,c0,c1⟩:=e2;have sa:zcG a=true:=by unfold zcG;simp;lia
  have sc:zcG c=true:=by unfold zcG;simp;lia
  have s1:zcG 48271=true:=by decide
  have s2:zcG 39373=true:=by decide
  have s3:zcG 16807=true:=by decide
  refine ⟨(c * c+16807 * c) % 2147483587 / 8 % m,[.int a,.bl false],?_,⟨_,_,rfl⟩,Int.emod_nonneg _ xwl,Int.emod_lt_of_pos _ h0⟩;unfold zae zas zeZ;simp[zbG,zll,zaE,dIf,dTB,zom,dC,atI,ixN,zbd,dOp,zmk,zng,zbt,zab,zoi,zqc,zbp,dNx,zaw,h0,h1,ea,ec,sa,sc,s1,s2,s3]
theorem znK{n:Nat}{v:Int}(h0:0<=v)(h1:v<n):ixN n v=some v.toNat:=by unfold ixN;rw[if_pos h0,if_pos h1]
theorem zhC{α:Type}:∀{l:List α}{j:Nat}{d:α},l[j]? = some d->(d::l.eraseIdx j).Perm l
 |[],_,_,h=>by simp at h
 |a::l,0,d,h=>by simp at h;subst h;exact .refl _
 |a::l,j+1,d,h=>by have:=zhC (l:=l) (j:=j) (d:=d) (by simpa using h);exact (List.Perm.swap a d _).trans (this.cons a)
theorem zdr{neg:Bool}{x y:Dt}(h1:okN 60 x=true)(h2:okN 60 y=true):gEq neg x y=.ok (.bl (if neg then !eqD x y else eqD x y)):=by unfold gEq;rw[h1,h2];rfl
theorem zfR{d:Dt}{l:List Dt}:eqD (.lst (d::l)) (.lst [])=false:=by rw[eqD];simp[zfh]
theorem zkR:eqD (.lst []) (.lst [])=true:=by rw[eqD,zfh]
theorem zul{st found l:List Dt}{o:Option B}{b:Bool}(h:okN 60 (.lst l)=true)(e:(!eqD (.lst l) (.lst []))=b):dTB (zsI true 2 (dFz (zbL dA0))) [some (.own st),o,some (.own l),some (.own found)]=.ok (b,[some (.own st),o,some (.own l),some (.own found)]):=by show (((gEq true (.lst l) (.lst [])).bind λz=>.ok (z,[some (.own st),o,some (.own l),some (.own found)])).bind λ(a:Dt×Ev)=>match a.1 with|.bl b=>.ok (b,a.2)|_=>.no)=_;rw[zdr h rfl];simp only[if_true,e];rfl
theorem zhH{things:Option B}:∀(n:Nat)(left found:List Dt)(st:List Dt),left.length<n->left.length+found.length<=1000->(∀ d∈left,okN 59 d=true)->St st->∃ st' p,St st'/\p.Perm left /\
  zdF (dTB (zsI true 2 (dFz (zbL dA0)))) (dEx (zhm 3 (zhE 2 (zad zae (dRO 0 (dR (zm8 2) dR0)))))) n [some (.own st),things,some (.own left),some (.own found)]=.ok (.nx,[some (.own st'),things,some (.own []),some (.own (found++p))])
 |0,left,found,st,h,_,_,_=>absurd h (Nat.not_lt_zero _)
 |n+1,[],found,st,h,hl,hk,hs=>by refine ⟨st,[],hs,.refl _,?_⟩;unfold zdF;rw[zul (b:=false) rfl (by rw[zkR];rfl)];simp
 |n+1,d::left,found,st,h,hl,hk,hs=>by
  obtain ⟨v,st1,e,hs1,v0,v1⟩:=zaZ (m:=((d::left).length:Nat)) hs (by simp only[wan];lia) (by simp only[wan] at hl ⊢;lia);have hv:v.toNat<(d::left).length:=by lia
  have hget:(d::left)[v.toNat]? = some (d::left)[v.toNat]:=by simp[hv]
  have hel:=zhC hget;have hlen:((d::left).eraseIdx v.toNat).length=left.length:=by have:=hel.length_eq;simp only[wan] at this;lia
  obtain ⟨st',p,hs',hp,hw⟩:=zhH (things:=things) n ((d::left).eraseIdx v.toNat) (found++[(d::left)[v.toNat]]) st1 (by simp only[wan] at h;lia) (by simp only[wav,wan,List.length_nil] at hl ⊢;lia)
   (λx hx=>hk x (hel.mem_iff.mp (wah _ hx))) hs1
  refine ⟨st',(d::left)[v.toNat]::p,hs',((hp.cons _).trans hel),?_⟩;have hall:((d::left).all (okN 59))=true:=List.all_eq_true.mpr hk;have ec:zad zae (dRO 0 (dR (zm8 2) dR0)) [some (.own st),things,some (.own (d::left)),some (.own found)]=.ok (.int v,[some (.own st1),things,some (.own (d::left)),some (.own found)]):=zkd (Z:=[some (.own st),things,some (.own (d::left)),some (.own found)]) rfl rfl e;have hm:zcO v=true:=by unfold zcO;simp;simp only[wan] at hl v1;lia
  unfold zdF;have t1:=zul (st:=st) (found:=found) (l:=d::left) (o:=things) (b:=true) (show okN 60 (.lst (d::left))=true from hall) (by rw[zfR];rfl);rw[t1];simp only[R.bind_ok,if_true];have t2:dEx (zhm 3 (zhE 2 (zad zae (dRO 0 (dR (zm8 2) dR0))))) [some (.own st),things,some (.own (d::left)),some (.own found)]=.ok (.nx,[some (.own st1),things,some (.own ((d::left).eraseIdx v.toNat)),some (.own (found++[(d::left)[v.toNat]]))]):=by
   have hpop:zqk (d::left) v=some ((d::left)[v.toNat],(d::left).eraseIdx v.toNat):=by unfold zqk;rw[if_pos hm,znK v0 v1];simp only[hget]
   unfold dEx zhm zhE;simp only[List.getElem?_cons_succ,List.getElem?_cons_zero,ec,R.bind_ok,hpop,List.set_cons_succ,List.set_cons_zero];rw[if_pos xwl];rfl
  rw[t2];simp only[R.bind_ok];rw[hw];simp
theorem zat{g:Dt->Dt->R Dt}{fa fb:De}{Z Z1 Z2:Ev}{d e z:Dt}(h1:fa Z=.ok (d,Z1))(h2:fb Z1=.ok (e,Z2))(h3:g d e=.ok z):dOp g fa fb Z=.ok (z,Z2):=by unfold dOp;rw[h1];simp only[R.bind_ok,h2,h3]
theorem zaM{f:De}{Z Z1:Ev}{b:Bool}(h:f Z=.ok (.bl b,Z1)):dTB f Z=.ok (b,Z1):=by unfold dTB;rw[h];rfl
theorem zc9{c:DT}{f g:DS}{Z Z1:Ev}(h:c Z=.ok (true,Z1)):dIf c f g Z=f Z1:=by unfold dIf;rw[h];rfl
theorem zbO{c:DT}{f g:DS}{Z Z1:Ev}(h:c Z=.ok (false,Z1)):dIf c f g Z=g Z1:=by unfold dIf;rw[h];rfl
theorem zam{f g:DS}{Z Z1:Ev}(h:f Z=.ok (.nx,Z1)):zaE f g Z=g Z1:=by unfold zaE;rw[h];rfl
theorem zb8{f g:DS}{Z Z1:Ev}{d:Dt}(h:f Z=.ok (.rt d,Z1)):zaE f g Z=.ok (.rt d,Z1):=by unfold zaE;rw[h];rfl
theorem zbv{f:De}{Z Z1:Ev}{d:Dt}(h:f Z=.ok (d,Z1)):zbp f Z=.ok (.rt d,Z1):=by unfold zbp;rw[h];rfl
theorem zaS{f:De}{i:Nat}{Z Z1:Ev}{d:Dt}(h:f Z=.ok (d,Z1))(hi:i < Z1.length):zbd i f Z=.ok (.nx,Z1.set i (some (.val d))):=by unfold zbd;rw[h];simp only[R.bind_ok,hi,if_true]
theorem zlr{f:DN}{i:Nat}{Z Z1:Ev}{d:List Dt}(h:f Z=.ok (d,Z1))(hi:i < Z1.length):zdh i f Z=.ok (.nx,Z1.set i (some (.own d))):=by unfold zdh;rw[h];simp only[R.bind_ok,hi,if_true]
theorem zbI{f:DN}{Z Z1:Ev}{d:List Dt}(h:f Z=.ok (d,Z1)):dFz f Z=.ok (.lst d,Z1):=by unfold dFz;rw[h];rfl
theorem zon{f:De}{Z Z1:Ev}{d:Dt}(h:f Z=.ok (d,Z1)):dEx f Z=.ok (.nx,Z1):=by unfold dEx;rw[h];rfl
theorem zbZ{g:List Dt->R Dt}{f:De}{Z Z1:Ev}{d z:Dt}(h:f Z=.ok (d,Z1))(hg:g [d]=.ok z):dFn g (dA f dA0) Z=.ok (z,Z1):=by unfold dFn dA dA0;rw[h];simp only[R.bind_ok,hg]
theorem zbc{f g:DT}{Z Z1:Ev}(h:f Z=.ok (false,Z1)):zcw f g Z=g Z1:=by unfold zcw;rw[h];rfl
theorem zdG{f g:DT}{Z Z1:Ev}(h:f Z=.ok (true,Z1)):zcw f g Z=.ok (true,Z1):=by unfold zcw;rw[h];rfl
theorem zeT{f g:DT}{Z Z1:Ev}(h:f Z=.ok (true,Z1)):zfj f g Z=g Z1:=by unfold zfj;rw[h];rfl
theorem zi0{f g:DT}{Z Z1:Ev}(h:f Z=.ok (false,Z1)):zfj f g Z=.ok (false,Z1):=by unfold zfj;rw[h];rfl
theorem zaP{f:DT}{Z Z1:Ev}{b:Bool}(h:f Z=.ok (b,Z1)):za2 f Z=.ok (!b,Z1):=by unfold za2;rw[h];rfl
theorem zs4{Z0:Ev}{o:Option B}{d:Dt}:zbg Z0.length d (Z0++[o])=.ok (Z0++[some (.val d)]):=by unfold zbg;rw[if_pos xws];simp
theorem zjh{α:Type}{u f:α->Dt}{fe:De}{Z0:Ev}:∀{l:List α}{o:Option B},(∀ a∈l,fe (Z0++[some (.val (u a))])=.ok (f a,Z0++[some (.val (u a))]))->∃ o',zbx (zbg Z0.length) dTT fe (l.map u) (Z0++[o])=.ok (l.map f,Z0++[o'])
 |[],o,_=>⟨o,rfl⟩
 |a::l,o,h=>by obtain ⟨o',e⟩:=zjh (l:=l) (o:=some (.val (u a))) λb hb=>h b (by simp[hb]);refine ⟨o',?_⟩;rw[List.map_cons,zbx,zs4];simp only[R.bind_ok,dTT,if_true];rw[h a xws];simp only[R.bind_ok];rw[e];rfl
theorem zc5{α:Type}{u f:α->Dt}{fe:De}{Z0:Ev}{fi:DA}{l:List α}{ds:List Dt}(hi:fi Z0=.ok (ds,Z0))(hd:ds=l.map u)(hl:l.length<=1000)(h:∀ a∈l,fe (Z0++[some (.val (u a))])=.ok (f a,Z0++[some (.val (u a))])){j:Nat}(hj:j = Z0.length) :
  za9 fi (zbg j) dTT fe 1 Z0=.ok (l.map f,Z0):=by
 subst hd;subst hj;obtain ⟨o',e⟩:=zjh (o:=none) h;unfold za9;rw[hi];simp only[R.bind_ok];rw[if_pos (by unfold fits;simp;lia)];show (match zbx (zbg Z0.length) dTT fe (l.map u) (Z0++[none]) with|.ok z=>R.ok (z.1,z.2.take Z0.length)|_=>.no)=_;rw[e];simp
theorem eqI{a b:Int}:eqD (.int a) (.int b)=(a == b):=by rw[eqD]
theorem ztT{F:FD}{fb:De}{i:Nat}{Z Z1:Ev}{d y:Dt}{b0:B}{st st':List Dt}{l:List B}(hi0:Z[i]? = some (some b0))(h:fb Z=.ok (d,Z1))(hi:Z1[i]? = some (some (.own st)))(hF:F [.own st,.val d]=.ok (y,.own st'::l)):zad F (dRO i (dR fb dR0)) Z=.ok (y,Z1.set i (some (.own st'))):=by
 have u:uniq [.s i,.d d]=true:=by unfold uniq zbf;rw[ziV];simp[zbf]
 unfold zad dRO dR dR0;simp only[hi0,h,R.bind_ok,u,if_true,za0,hi,zll,hF];rw[zn6 (Nat.zero_le _)];rfl
theorem zlX{x:Option B}{zbo:Ev}{o:Option B}{d:Dt}:zbg (zbo.length+1) d (x::(zbo++[o]))=.ok (x::(zbo++[some (.val d)])):=by unfold zbg;rw[if_pos xws];simp
theorem zkb{p:List Dt}{l:List Int}(h:p.Perm (l.map .int)):∃ q:List Int,q.Perm l/\p=q.map .int:=by
 refine ⟨p.map λd=>match d with|.int i=>i|_=>0,?_,?_⟩
 ·have:=h.map λd=>match d with|.int i=>i|_=>0
  rw[List.map_map] at this;have e:((λd=>match d with|.int i=>i|_=>0) ∘ Dt.int)=(id:Int->Int):=rfl;rw[e,List.map_id] at this;exact this
 ·rw[List.map_map]
  conv=>lhs;rw[<- List.map_id p]
  refine List.map_congr_left λd hd=>?_;obtain ⟨i,_,rfl⟩:=List.mem_map.mp (h.mem_iff.mp hd);rfl
noncomputable def isW:Dt->Bool
 |.int _=>true
 |_=>false
theorem zcd(d:Dt):zaV [.val d]=.ok (.bl (isW d),[.val .non]):=by
 cases d <;> simp[zaV,zas,zh1,zbG,zll,zbp,zeX,zcU,zab,zsH,zhX,tyD,zaw,isW]
noncomputable def isG(n:Int):Dt->Bool
 |.int i=>decide (0<=i) && decide (i<n)
 |_=>false
theorem zh9(n:Int)(d:Dt):zce [.val (.int n),.val d]=.ok (.bl (isG n d),[.val .non,.val .non]):=by
 have e:zad zaV (dR (zab 1) dR0) [some (.val (.int n)),some (.val d)]=.ok (.bl (isW d),[some (.val (.int n)),some (.val d)]):=zc1 (Z':=[some (.val (.int n)),some (.val d)]) rfl (zcd _);cases d with
 |int i =>
  by_cases h:0<=i
  ·simp[zce,zas,ze1,zbG,zll,zbp,zeX,e,isW,zdE,dC,zab,zoA,h,isG,zaw]
  ·simp[zce,zas,ze1,zbG,zll,zbp,zeX,e,isW,zdE,dC,zab,zoA,h,isG,zaw]
 |_=>simp[zce,zas,ze1,zbG,zll,zbp,zeX,e,isW,isG,zaw]
theorem zsE{neg:Bool}{i j:Int}:gEq neg (.int i) (.int j)=.ok (.bl (if neg then !(i == j) else (i == j))):=by rw[zdr rfl rfl,eqI]
theorem zoE{Z0:Ev}{o:Option B}{d:Dt}:zbg Z0.length d (Z0++[o])=.ok (Z0++[some (.val d)]):=by unfold zbg;rw[if_pos xws];simp
theorem zfU{p:Dt->Bool}{f:Dt->Dt}{ft:DT}{fe:De}{Z0:Ev}:∀{l:List Dt}{o:Option B},(∀ d∈l,ft (Z0++[some (.val d)])=.ok (p d,Z0++[some (.val d)]))->(∀ d∈l,p d=true->fe (Z0++[some (.val d)])=.ok (f d,Z0++[some (.val d)]))->∃ o',zbx (zbg Z0.length) ft fe l (Z0++[o])=.ok ((l.filter p).map f,Z0++[o'])
 |[],o,_,_=>⟨o,rfl⟩
 |d::l,o,h,h2=>by
  obtain ⟨o',e⟩:=zfU (l:=l) (o:=some (.val d)) (λb hb=>h b (wah _ hb)) (λb hb=>h2 b (wah _ hb));refine ⟨o',?_⟩;rw[zbx,zoE];simp only[R.bind_ok];rw[h d xws];simp only[R.bind_ok];cases hp:p d with
  |true =>
   simp only[if_true];rw[h2 d xws hp];simp only[R.bind_ok];rw[e];simp[List.filter_cons,hp]
  |false =>
   simp only[Bool.false_eq_true,if_false];rw[e];simp[List.filter_cons,hp]
theorem zda{p:Dt->Bool}{f:Dt->Dt}{ft:DT}{fe:De}{Z0:Ev}{fi:DA}{l:List Dt}{j:Nat}(hi:fi Z0=.ok (l,Z0))(hj:j = Z0.length)(hl:l.length<=16777216)(h:∀ d∈l,ft (Z0++[some (.val d)])=.ok (p d,Z0++[some (.val d)]))(h2:∀ d∈l,p d=true->fe (Z0++[some (.val d)])=.ok (f d,Z0++[some (.val d)])) :
  za9 fi (zbg j) ft fe 1 Z0=.ok ((l.filter p).map f,Z0):=by
 subst hj;obtain ⟨o',e⟩:=zfU (o:=none) h h2;unfold za9;rw[hi];simp only[R.bind_ok];rw[if_pos (by unfold fits;simpa using hl)];show (match zbx (zbg Z0.length) ft fe l (Z0++[none]) with|.ok z=>R.ok (z.1,z.2.take Z0.length)|_=>.no)=_;rw[e];simp
theorem zlq:∀ a b:List Int,zfh (a.map .int) (b.map .int)=(a == b)
 |[],[]=>by rw[List.map_nil,zfh];rfl
 |[],b::r=>by rw[List.map_nil,List.map_cons,zfh];rfl;all_goals (intros;simp at *)
 |a::r,[]=>by rw[List.map_nil,List.map_cons,zfh];rfl;all_goals (intros;simp at *)
 |a::r,b::q=>by rw[List.map_cons,List.map_cons,zfh,eqI,zlq r q];rfl
noncomputable def zco(n:Nat):List Int:=(List.range n).map λ(k:Nat)=>(k:Int)
theorem zoY(n:Nat):zaX 0 n=(zco n).map .int:=by unfold zaX zco;rw[List.map_map];refine List.map_congr_left λk _=>?_;simp
theorem zmc{n:Nat}{x:Int}:x∈zco n ↔ 0<=x/\x<n:=by
 unfold zco;rw[List.mem_map];constructor
 ·rintro ⟨k,hk,rfl⟩;have:=List.mem_range.mp hk;lia
 ·rintro ⟨h0,h1⟩;exact ⟨x.toNat,List.mem_range.mpr xwl,xwl⟩
theorem zch(n:Nat):(zco n).length=n:=by unfold zco;simp
theorem zjU(n:Nat):(zco n).Nodup:=by unfold zco;unfold List.Nodup;rw[List.pairwise_map];refine List.Pairwise.imp (R:=λa b=>a<b) (λ{a b} h=>by lia) List.pairwise_lt_range
theorem zie{α:Type}{l:List α}{v:Int}(h0:0<=v)(h1:v<l.length):atI l v=l[v.toNat]? := by unfold atI;rw[znK h0 h1];rfl
theorem ziw{l:List Dt}{v:Int}{d:Dt}(h0:0<=v)(h1:v<l.length)(hd:l[v.toNat]? = some d):gIx (.tup l) (.int v)=.ok d:=by unfold gIx;simp only[zie h0 h1,hd]
theorem zoh{l:List Dt}{v:Int}{d:Dt}(h0:0<=v)(h1:v<l.length)(hd:l[v.toNat]? = some d):gIx (.lst l) (.int v)=.ok d:=by unfold gIx;simp only[zie h0 h1,hd]
theorem zbz{fa:De}{fr:DA}{Z Z1 Z2:Ev}{d:Dt}{ds:List Dt}(h1:fa Z=.ok (d,Z1))(h2:fr Z1=.ok (ds,Z2)):dA fa fr Z=.ok (d::ds,Z2):=by unfold dA;rw[h1];simp only[R.bind_ok];rw[h2];rfl
theorem zsh{f:DA}{Z Z1:Ev}{ds:List Dt}(h:f Z=.ok (ds,Z1))(hl:ds.length<=16777216):zbL f Z=.ok (ds,Z1):=by unfold zbL;rw[h];simp only[R.bind_ok];rw[if_pos (by unfold fits;simpa using hl)]
theorem zg9{f:DA}{Z Z1:Ev}{ds:List Dt}(h:f Z=.ok (ds,Z1))(hl:ds.length<=16777216):zbK f Z=.ok (.tup ds,Z1):=by unfold zbK;rw[h];simp only[R.bind_ok];rw[if_pos (by unfold fits;simpa using hl)]
theorem znR{ns:List Int}{k:Nat}:∃ c:Int,zcl [.val (.scr ns),.val (.int k)]=.ok (.int c,[.val .non,.val .non]):=by
 have e0:dTB (dOp gLt (zab 1) (dFn zby (dA (zab 0) dA0))) [some (.val (.scr ns)),some (.val (.int k))]=.ok (decide ((k:Int)<ns.length),[some (.val (.scr ns)),some (.val (.int k))]):=zaM (zat (d:=.int k) (e:=.int ns.length) rfl rfl rfl);by_cases h:k<ns.length
 ·refine ⟨ns[k],zao (Z':=[some (.val (.scr ns)),some (.val (.int k))]) rfl ?_ rfl⟩;show zbH [some (.val (.scr ns)),some (.val (.int k))]=_;unfold zbH;refine zb8 ?_;rw[zc9 (by rw[e0,decide_eq_true xwl])];refine zbv (zat (d:=.scr ns) (e:=.int k) rfl rfl ?_);unfold gIx;simp only[zie (l:=ns) (v:=(k:Int)) xwl xwl,Int.toNat_natCast,wac h]
 ·refine ⟨0,zao (Z':=[some (.val (.scr ns)),some (.val (.int k))]) rfl ?_ rfl⟩;show zbH [some (.val (.scr ns)),some (.val (.int k))]=_;unfold zbH;rw[zam (Z1:=[some (.val (.scr ns)),some (.val (.int k))]) (by rw[zbO (by rw[e0,decide_eq_false xwl])];rfl)];rfl
theorem zm9{ns:List Int}{k:Nat}:∃ st,St st/\zcq [.val (.scr ns),.val (.int k)]=.ok (.lst st,[.val .non,.val .non]):=by
 obtain ⟨c,hc⟩:=znR (ns:=ns) (k:=k);have e1:zbd 2 (zad zcl (dR (zab 0) (dR (zab 1) dR0))) [some (.val (.scr ns)),some (.val (.int k)),none]=.ok (.nx,[some (.val (.scr ns)),some (.val (.int k)),some (.val (.int c))]):=zaS (zfi (Z':=[some (.val (.scr ns)),some (.val (.int k)),none]) (Z'':=[some (.val (.scr ns)),some (.val (.int k)),none]) rfl rfl hc) xws;have ep:dOp zp8 (dC (.int 10)) (dC (.int 18)) [some (.val (.scr ns)),some (.val (.int k)),some (.val (.int c))]=.ok (.int 1000000000000000000,[some (.val (.scr ns)),some (.val (.int k)),some (.val (.int c))]):=by refine zat rfl rfl ?_;show (if 0<=(18:Int)/\(18:Int)<=1000/\(10:Int).natAbs<18446744073709551616 then R.ok (Dt.int ((10:Int) ^ (18:Int).toNat)) else R.no)=_;rw[if_pos xwd];rfl
 have e2:dTB (dOp gGe (zab 2) (dOp zp8 (dC (.int 10)) (dC (.int 18)))) [some (.val (.scr ns)),some (.val (.int k)),some (.val (.int c))]=.ok (decide ((1000000000000000000:Int)<=c),[some (.val (.scr ns)),some (.val (.int k)),some (.val (.int c))]):=zaM (zat (d:=.int c) rfl ep rfl);by_cases h:(1000000000000000000:Int)<=c
 ·refine ⟨[.int (c-1000000000000000000),.bl true],⟨_,_,rfl⟩,zao (Z':=[some (.val (.scr ns)),some (.val (.int k)),some (.val (.int c))]) rfl ?_ rfl⟩;show zcp [some (.val (.scr ns)),some (.val (.int k)),none]=_;unfold zcp;rw[zam e1];refine zb8 ?_;rw[zc9 (by rw[e2,decide_eq_true h])];unfold zfz zbL;rw[dA,zat (d:=.int c) (z:=.int (c-1000000000000000000)) rfl ep rfl];rfl
 ·refine ⟨[.int (c % 2147483647),.bl false],⟨_,_,rfl⟩,zao (Z':=[some (.val (.scr ns)),some (.val (.int k)),some (.val (.int c))]) rfl ?_ rfl⟩;show zcp [some (.val (.scr ns)),some (.val (.int k)),none]=_;unfold zcp;rw[zam e1,zam (Z1:=[some (.val (.scr ns)),some (.val (.int k)),some (.val (.int c))]) (by rw[zbO (by rw[e2,decide_eq_false h])];rfl)];unfold zfz zbL;rw[dA,zat (d:=.int c) (z:=.int (c % 2147483647)) rfl rfl rfl];rfl
theorem zsZ{F:FD}{fa fb:De}{Z Z' Z'':Ev}{d e:Dt}{y:List Dt}{l:List B}(h:fa Z=.ok (d,Z'))(h2:fb Z'=.ok (e,Z''))(hF:F [.val d,.val e]=.ok (.lst y,l)):zgc F (dR fa (dR fb dR0)) Z=.ok (y,Z''):=by unfold zgc dR dR0;rw[h];simp only[R.bind_ok,h2,uniq,zbf,if_true,za0,hF];rw[zkU]
theorem ziE{g:DG}{body:DS}{I:Ev->Prop}:∀{ds:List Dt}{Z:Ev},(∀ d∈ds,∀ Z,I Z->∃ Z1 Z2,g d Z=.ok Z1/\body Z1=.ok (.nx,Z2)/\I Z2)->I Z->∃ Z',I Z'/\zk1 g body ds Z=.ok (.nx,Z')
 |[],Z,_,h=>⟨Z,h,rfl⟩
 |d::ds,Z,hb,h=>by obtain ⟨Z1,Z2,e1,e2,h2⟩:=hb d xws Z h;obtain ⟨Z',h',e⟩:=ziE (ds:=ds) (Z:=Z2) (λc hc=>hb c (wah _ hc)) h2;refine ⟨Z',h',?_⟩;rw[zk1,e1];simp only[R.bind_ok];rw[e2];exact e
theorem zl4{F:FD}{fa fb:De}{Z Z' Z'':Ev}{d e:Dt}{n:Nat}(h:fa Z=.ok (d,Z'))(h2:fb Z'=.ok (e,Z''))(hF:F [.val d,.val e]=.er n):zad F (dR fa (dR fb dR0)) Z=.er n:=by unfold zad dR dR0;rw[h];simp only[R.bind_ok,h2,uniq,zbf,if_true,za0,hF,R.bind_er]
noncomputable def tz(p:List Int):Dt:=.tup (p.map .int)
theorem zjA(l:List Int)(n:Nat):(l.map Dt.int).all (okN n)=true:=by rw[List.all_eq_true];intro d hd;obtain ⟨i,_,rfl⟩:=List.mem_map.mp hd;cases n <;> rfl
theorem zgA{m:Nat}(hm:m<=1000):zcO (m:Int)=true:=by unfold zcO;rw[Bool.and_eq_true,decide_eq_true_eq,decide_eq_true_eq];lia
theorem zl1{ft:DT}{zbo:Ev}:∀{l:List Dt}{st:List Dt}{o:Option B},(∀ d∈l,∀ st,St st->∃ b st',St st'/\ft (some (.own st)::(zbo++[some (.val d)]))=.ok (b,some (.own st')::(zbo++[some (.val d)])))->St st ->
  ∃ ys st' o',St st'/\ys.Sublist l/\zbx (zbg (zbo.length+1)) ft (zab (zbo.length+1)) l (some (.own st)::(zbo++[o]))=.ok (ys,some (.own st')::(zbo++[o']))
 |[],st,o,_,hs=>⟨[],st,o,hs,.slnil,rfl⟩
 |d::l,st,o,h,hs=>by
  obtain ⟨b,st1,hs1,e1⟩:=h d xws st hs;obtain ⟨ys,st',o',hs',hp,e⟩:=zl1 (l:=l) (st:=st1) (o:=some (.val d)) (λb hb=>h b (wah _ hb)) hs1;have hv:zab (zbo.length+1) (some (.own st1)::(zbo++[some (.val d)]))=.ok (d,some (.own st1)::(zbo++[some (.val d)])):=by simp[zab]
  cases b with
  |true =>
   refine ⟨d::ys,st',o',hs',hp.cons_cons d,?_⟩;rw[zbx,zlX];simp only[R.bind_ok];rw[e1];simp only[R.bind_ok,if_true];rw[hv];simp only[R.bind_ok];rw[e];rfl
  |false =>
   refine ⟨ys,st',o',hs',hp.cons d,?_⟩;rw[zbx,zlX];simp only[R.bind_ok];rw[e1];simp only[R.bind_ok,Bool.false_eq_true,if_false];exact e
theorem zfC{zbo:Ev}{st:List Dt}{fb:De}{m:Int}{v:Int}{st':List Dt}(e:zae [.own st,.val (.int m)]=.ok (.int v,[.own st',.val .non]))(h:fb (some (.own st)::zbo)=.ok (.int m,some (.own st)::zbo)):zad zae (dRO 0 (dR fb dR0)) (some (.own st)::zbo)=.ok (.int v,some (.own st')::zbo) :=
 zkd (Z:=some (.own st)::zbo) rfl h e
noncomputable def zvf(j:Int)(Z:Ev):R (List Dt×Ev):=if zcO j=true then .ok (zaX 0 j.toNat,Z) else .no
theorem zmT{j:Int}{Z:Ev}(h:zcO j=true):zvf j Z=.ok (zaX 0 j.toNat,Z):=if_pos h
theorem zq2{fa:De}{Z Z1:Ev}{j:Int}(h:fa Z=.ok (.int j,Z1)):zbV fa Z=zvf j Z1:=by unfold zbV zvf;rw[h];rfl
theorem zi7{fa:De}{Z Z1:Ev}{j:Nat}(h:fa Z=.ok (.int j,Z1))(hj:j<=1000):zbV fa Z=.ok (zaX 0 j,Z1):=by rw[zq2 h,zmT (zgA hj),Int.toNat_natCast]
noncomputable def lp(ps:List (List Int)):List Dt:=ps.map tz
theorem zsB{fa:De}{Z Z1:Ev}{n:Nat}(h:fa Z=.ok (.int n,Z1))(hn:n<=1000):zm0 fa Z=.ok ((zco n).map .int,Z1):=by
 have hc:(0:Int)<=n/\(n:Int)<=16777216:=by lia
 unfold zm0;rw[h];show (if 0<=(n:Int)/\(n:Int)<=16777216 then R.ok (zaX 0 (n:Int).toNat,Z1) else .no)=_;rw[if_pos hc,Int.toNat_natCast,zoY]
theorem zlw{α:Type}(f:α->Bool):∀ l:List α,zeA (l.map λd=>.bl (f d))=some (l.map f)
 |[]=>rfl
 |a::r=>by rw[List.map_cons,zeA,zlw f r];rfl
theorem zj2{α:Type}(f:α->Bool)(l:List α):zhk [.lst (l.map λd=>.bl (f d))]=.ok (.bl (l.all f)):=by unfold zhk;simp only[zlw];rw[List.all_map];rfl
theorem zpv(n:Int)(d:Dt)(hl:∀ l,d=.tup l->l.length<=1000):zcn [.val (.int n),.val d]=.ok (.bl (match d with|.tup l=>l.all (isG n)|_=>false),[.val .non,.val .non]):=by
 cases d with
 |tup l =>
  let Z0:Ev:=[some (.val (.int n)),some (.val (.tup l))]
  have hc:za9 (dIt (zab 1)) (zbg 2) dTT (zad zce (dR (zab 0) (dR (zab 2) dR0))) 1 Z0=.ok (l.map λx=>.bl (isG n x),Z0):=by refine zc5 (l:=l) (u:=id) (f:=λx=>.bl (isG n x)) (ds:=l) rfl (by rw[List.map_id]) (hl l rfl) (λx hx=>?_) rfl;exact zfi (Z':=[some (.val (.int n)),some (.val (.tup l)),some (.val x)]) (Z'':=[some (.val (.int n)),some (.val (.tup l)),some (.val x)]) rfl rfl (zh9 n x)
  refine zao (Z':=Z0) rfl ?_ rfl;show zdc Z0=_;unfold zdc;refine zbv ?_;unfold zeX;have e1:zcU "tuple" (zab 1) Z0=.ok (.bl true,Z0):=by simp[zcU,zab,Z0,zhX,tyD]
  rw[e1];simp only[R.bind_ok];exact zbZ (zbI hc) (zj2 _ _)
 |_=>simp[zcn,zas,zdc,zbG,zll,zbp,zeX,zcU,zab,zhX,tyD,zaw]
theorem zif{n:Int}:∀{l:List Dt},l.all (isG n)=true->∃ zs:List Int,l=zs.map .int/\∀ x∈zs,0<=x/\x<n
 |[],_=>⟨[],rfl,xws⟩
 |d::r,h=>by
  rw[List.all_cons,Bool.and_eq_true] at h;obtain ⟨zs,rfl,hz⟩:=zif h.2;have h1:=h.1;unfold isG at h1;split at h1
  ·rename_i i;simp only[wae,war] at h1;exact ⟨i::zs,rfl,λx hx=>by
    rcases wap.mp hx with rfl|hx
    ·exact h1
    ·exact hz x hx⟩
  ·cases h1
noncomputable def zoj(n:Int):Dt->Bool
 |.tup l=>l.all (isG n)
 |_=>false
theorem zne(n:Int)(d:Dt)(hl:∀ l,d=.tup l->l.length<=1000):zcn [.val (.int n),.val d]=.ok (.bl (zoj n d),[.val .non,.val .non]):=by have:=zpv n d hl;cases d <;> exact this
noncomputable def zsK(i j:Int)(Z:Ev):R (List Dt×Ev):=if (zcO i && zcO j)=true then .ok (zaX i (j-i).toNat,Z) else .no
theorem zrv(l:List Dt):eqD (.lst l) (.lst [])=l.isEmpty:=by
 cases l with
 |nil=>rw[eqD,zfh];rfl
 |cons a r=>exact zfR
theorem zeh{fa fb:De}{Z:Ev}{a b:Bool}(h1:fa Z=.ok (.bl a,Z))(h2:a=true->fb Z=.ok (.bl b,Z)):zeX fa fb Z=.ok (.bl (a && b),Z):=by
 unfold zeX;rw[h1];simp only[R.bind_ok];cases a with
 |false=>rfl
 |true=>rw[h2 rfl];rfl
theorem zuT(neg a b:Bool):gEq neg (.bl a) (.bl b)=.ok (.bl (if neg then !(a == b) else (a == b))):=by rw[zdr rfl rfl,eqD]
theorem zk0{fa fb:De}{Z Z1 Z2:Ev}{x y:List Dt}(h1:fa Z=.ok (.lst x,Z1))(h2:fb Z1=.ok (.lst y,Z2))(hl:x.length+y.length<=16777216):zgp fa fb Z=.ok (x++y,Z2):=by unfold zgp;rw[h1];simp only[R.bind_ok];rw[h2];simp only[R.bind_ok];rw[if_pos hl]
theorem zd2{fa:De}{fl fh:DO}{Z:Ev}{ds:List Dt}{lo hi:Option Int}(h1:fa Z=.ok (.tup ds,Z))(h2:fl Z=.ok (lo,Z))(h3:fh Z=.ok (hi,Z)):zcg fa fl fh Z=.ok (.tup (ziX ds lo hi),Z):=by unfold zcg;rw[h1];simp only[R.bind_ok];rw[h2];simp only[R.bind_ok];rw[h3];rfl
theorem zg6{α:Type}{l:List α}{lo hi:Option Int}{x:α}(h:x∈ziX l lo hi):x∈l:=by unfold ziX at h;exact List.mem_of_mem_drop (List.mem_of_mem_take h)
theorem zeU{α:Type}{l:List α}{lo hi:Option Int}:(ziX l lo hi).length<=l.length:=by unfold ziX;rw[List.length_take,List.length_drop];lia
theorem zeS{x y:List Dt}(h:x.length+y.length<=16777216):zbM (.tup x) (.tup y)=.ok (.tup (x++y)):=by unfold zbM;simp only[h,if_true]
theorem zm4(p:List Int):okN 59 (tz p)=true/\okN 60 (tz p)=true:=by unfold tz;constructor <;> (simp only[okN,List.all_eq_true];intro d hd;obtain ⟨i,_,rfl⟩:=List.mem_map.mp hd;rfl)
theorem okB{b:Bool}:okN 60 (.bl b)=true:=rfl
theorem eqB{a b:Bool}:eqD (.bl a) (.bl b)=(a == b):=by rw[eqD]
theorem zlV{f:Dt->Dt}{fe:De}{a b:Option B}:∀{l:List Dt}{o o2:Option B},(∀ d∈l,fe [a,b,some (.val d),some (.val d)]=.ok (f d,[a,b,some (.val d),some (.val d)]))->∃ o' o2',zbx (zdL 2 3) dTT fe (l.map λd=>.tup [d,d]) [a,b,o,o2]=.ok (l.map f,[a,b,o',o2'])
 |[],o,o2,_=>⟨o,o2,rfl⟩
 |d::l,o,o2,h=>by obtain ⟨o',o2',e⟩:=zlV (l:=l) (o:=some (.val d)) (o2:=some (.val d)) λc hc=>h c (wah _ hc);refine ⟨o',o2',?_⟩;rw[List.map_cons,zbx];show (((fe [a,b,some (.val d),some (.val d)]).bind λy=>(zbx (zdL 2 3) dTT fe (l.map λd=>.tup [d,d]) y.2).bind λz=>R.ok (y.1::z.1,z.2)):R _)=_;rw[h d xws];simp only[R.bind_ok];rw[e];rfl
theorem zhK:∀(l:List Dt),zeA (l.map λ_=>Dt.bl true)=some (l.map λ_=>true)
 |[]=>rfl
 |d::l=>by simp[zeA,zhK l]
theorem zjJ{F:FD}{d:Dt}(h1:(zhX (tyD d) "tuple" || zhX (tyD d) "list")=false)(h2:okN 60 d=true)(h3:eqD d d=true):zc7 F [some (.val d),some (.val d)]=.ok (.rt (.bl true),[some (.val d),some (.val d)]):=by
 unfold zc7;have e0:dTB (zsa "tuple" "list" (zab 1)) [some (.val d),some (.val d)]=.ok (false,[some (.val d),some (.val d)]):=by show R.ok ((zhX (tyD d) "tuple" || zhX (tyD d) "list"),[some (B.val d),some (.val d)])=_;rw[h1]
 rw[zam (Z1:=[some (.val d),some (.val d)]) (by rw[zbO e0];rfl)];refine zbv ?_;have e1:dOp (gEq false) (zab 0) (zab 1) [some (.val d),some (.val d)]=.ok (.bl true,[some (.val d),some (.val d)]):=zat rfl rfl (by rw[zdr h2 h2,h3];rfl);have e2:dOp (gEq false) (zcU "bool" (zab 0)) (zcU "bool" (zab 1)) [some (.val d),some (.val d)]=.ok (.bl true,[some (.val d),some (.val d)]):=zat rfl rfl (by rw[zdr okB okB,eqB];simp)
 unfold zeX;rw[e1];simp only[R.bind_ok];rw[e2]
theorem zhU{n:Nat}{l:List Dt}(hl:l.length<=1000)(hs:∀ d∈l,zav (n+1) [.val d,.val d]=.ok (.bl true,[.val .non,.val .non])):zav (n+2) [.val (.tup l),.val (.tup l)]=.ok (.bl true,[.val .non,.val .non]):=by
  refine zao (Z':=[some (.val (.tup l)),some (.val (.tup l))]) rfl ?_ rfl;show zc7 (zav (n+1)) [some (.val (.tup l)),some (.val (.tup l))]=_;unfold zc7;refine zb8 ?_;rw[zc9 (Z1:=[some (.val (.tup l)),some (.val (.tup l))]) rfl];have t1:dTB (dOp (gEq true) (zcU "tuple" (zab 0)) (zcU "tuple" (zab 1))) [some (.val (.tup l)),some (.val (.tup l))]=.ok (false,[some (.val (.tup l)),some (.val (.tup l))]):=zaM (zat rfl rfl (by rw[zdr okB okB,eqB];simp));have t2:dTB (dOp (gEq true) (zcU "list" (zab 0)) (zcU "list" (zab 1))) [some (.val (.tup l)),some (.val (.tup l))]=.ok (false,[some (.val (.tup l)),some (.val (.tup l))]):=zaM (zat rfl rfl (by rw[zdr okB okB,eqB];simp));have t3:dTB (dOp (gEq true) (dFn zby (dA (zab 0) dA0)) (dFn zby (dA (zab 1) dA0))) [some (.val (.tup l)),some (.val (.tup l))]=.ok (false,[some (.val (.tup l)),some (.val (.tup l))]):=zaM (zat (d:=.int l.length) (e:=.int l.length) rfl rfl (by rw[zdr rfl rfl,eqI];simp));rw[zam (Z1:=[some (.val (.tup l)),some (.val (.tup l))]) (by rw[zbO (Z1:=[some (.val (.tup l)),some (.val (.tup l))]) (by rw[zbc t1,t2])];rfl)];rw[zam (Z1:=[some (.val (.tup l)),some (.val (.tup l))]) (by rw[zbO t3];rfl)];refine zbv ?_;obtain ⟨o',o2',e⟩:=zlV (a:=some (.val (.tup l))) (b:=some (.val (.tup l))) (fe:=zad (zav (n+1)) (dR (zab 2) (dR (zab 3) dR0))) (f:=λ_=>.bl true) (l:=l) (o:=none) (o2:=none) λd hd =>
   zfi (Z':=[some (.val (.tup l)),some (.val (.tup l)),some (.val d),some (.val d)]) rfl rfl (hs d hd)
  have ez:∀(l:List Dt),(l.zip l).map (λz=>Dt.tup [z.1,z.2])=l.map λd=>.tup [d,d]:=λl=>by
   induction l with
   |nil=>rfl
   |cons d l ih=>simp[ih]
  have ec:dFz (za9 (zov (zab 0) (zab 1)) (zdL 2 3) dTT (zad (zav (n+1)) (dR (zab 2) (dR (zab 3) dR0))) 2) [some (.val (.tup l)),some (.val (.tup l))]=.ok (.lst (l.map λ_=>.bl true),[some (.val (.tup l)),some (.val (.tup l))]):=by
   refine zbI ?_;have eZ:zov (zab 0) (zab 1) [some (.val (.tup l)),some (.val (.tup l))]=.ok (l.map λd=>.tup [d,d],[some (.val (.tup l)),some (.val (.tup l))]):=by show (if l.length=l.length then R.ok ((l.zip l).map (λz=>Dt.tup [z.1,z.2]),[some (B.val (.tup l)),some (.val (.tup l))]) else .no)=_;rw[if_pos rfl,ez]
   unfold za9;rw[eZ];simp only[R.bind_ok];rw[if_pos (by unfold fits;simp only[List.length_map,decide_eq_true_eq];lia)];show (match zbx (zdL 2 3) dTT (zad (zav (n+1)) (dR (zab 2) (dR (zab 3) dR0))) (l.map λd=>.tup [d,d]) [some (.val (.tup l)),some (.val (.tup l)),none,none] with|.ok z=>R.ok (z.1,z.2.take 2)|_=>.no)=_;rw[e];rfl
  refine zbZ ec ?_;unfold zhk;simp only[zhK];simp
theorem zl0(k:Nat)(i:Int):zav (k+1) [.val (.int i),.val (.int i)]=.ok (.bl true,[.val .non,.val .non]):=zao rfl (zjJ rfl rfl (by rw[eqI];simp)) rfl
theorem zrY{k:Nat}(p:List Int)(hl:p.length<=1000):zav (k+2) [.val (tz p),.val (tz p)]=.ok (.bl true,[.val .non,.val .non]):=zhU (by rw[List.length_map];exact hl) λd hd=>by obtain ⟨i,_,rfl⟩:=List.mem_map.mp hd;exact zl0 k i
theorem zjd{α:Type}{g:DG}{body:DS}{u:α->Dt}{l:List α}{I:List α->Ev->Prop}(H:∀ dn a zbo,l=dn++a::zbo->∀ Z,I dn Z->∃ Z1 Z2,g (u a) Z=.ok Z1/\body Z1=.ok (.nx,Z2)/\I (dn++[a]) Z2) :
  ∀(todo dn:List α)(Z:Ev),l=dn++todo->I dn Z->∃ Z',I l Z'/\zk1 g body (todo.map u) Z=.ok (.nx,Z')
 |[],dn,Z,e,h=>by rw[List.append_nil] at e;subst e;exact ⟨Z,h,rfl⟩
 |a::todo,dn,Z,e,h=>by obtain ⟨Z1,Z2,h1,h2,h3⟩:=H dn a todo e Z h;obtain ⟨Z',h4,h5⟩:=zjd H todo (dn++[a]) Z2 (by rw[e];simp) h3;refine ⟨Z',h4,?_⟩;rw[List.map_cons,zk1,h1];simp only[R.bind_ok,h2];exact h5
theorem zh7{α:Type}{fi:DA}{g:DG}{body:DS}{u:α->Dt}{l:List α}{ds:List Dt}{I:List α->Ev->Prop}{Z Z0:Ev}(hi:fi Z=.ok (ds,Z0))(hd:ds=l.map u)(h0:I [] Z0)(H:∀ dn a zbo,l=dn++a::zbo->∀ Z,I dn Z->∃ Z1 Z2,g (u a) Z=.ok Z1/\body Z1=.ok (.nx,Z2)/\I (dn++[a]) Z2) :
  ∃ Z',I l Z'/\zhj fi g body Z=.ok (.nx,Z'):=by
 subst hd;obtain ⟨Z',h1,h2⟩:=zjd H l [] Z0 rfl h0;refine ⟨Z',h1,?_⟩;unfold zhj;rw[hi];exact h2
theorem zjG{i:Nat}{fa:De}{Z Z1:Ev}{l0 ds l:List Dt}{d:Dt}(h0:Z[i]? = some (some (.own l0)))(h:fa Z=.ok (d,Z1))(h1:Z1[i]? = some (some (.own ds)))(hd:zrf d=some l)(hl:ds.length+l.length<=16777216):zki i fa Z=.ok (.non,Z1.set i (some (.own (ds++l)))):=by unfold zki;simp only[h0,h,R.bind_ok,h1,hd,hl,if_true]
theorem ztK{i:Nat}{fa:De}{Z Z1:Ev}{l0 ds:List Dt}{d:Dt}(h0:Z[i]? = some (some (.own l0)))(h:fa Z=.ok (d,Z1))(h1:Z1[i]? = some (some (.own ds)))(hl:ds.length<16777216):zhm i fa Z=.ok (.non,Z1.set i (some (.own (ds++[d])))):=by unfold zhm;simp only[h0,h,R.bind_ok,h1,hl,if_true]
theorem zmo{n:Nat}{st:List Dt}(h7:n<=7)(hs:St st):∃(row:List Int)(st':List Dt),St st'/\row.Perm (zco n)/\zcr [.own st,.val (.int n)]=.ok (tz row,[.own st',.val .non]):=by
 obtain ⟨st',p,hs',hp,e⟩:=zhH (things:=some (.val (.int n))) 10 ((zco n).map .int) [] st (by rw[List.length_map,zch];lia) (by rw[List.length_map,zch];simp;lia) (λd hd=>by obtain ⟨x,_,rfl⟩:=List.mem_map.mp hd;rfl) hs;obtain ⟨q,hq,rfl⟩:=zkb hp;refine ⟨q,st',hs',hq,zao (Z':=[some (.own st'),some (.val (.int n)),some (.own []),some (.val (.lst (q.map .int)))]) rfl ?_ rfl⟩;let Z0:Ev:=[some (.own st),some (.val (.int n)),none,none]
 show zea Z0=_;unfold zea;have x1:zdh 2 (zm0 (zab 1)) Z0=.ok (.nx,[some (.own st),some (.val (.int n)),some (.own ((zco n).map .int)),none]):=zlr (i:=2) (zsB (Z1:=Z0) rfl xwl) (by simp[Z0]);rw[zam x1];rw[zam (Z1:=[some (.own st),some (.val (.int n)),some (.own ((zco n).map .int)),some (.own [])]) rfl,zam e];rfl
noncomputable def rgF(a n:Nat):List Nat:=(List.range (n-a)).map (a+·)
noncomputable def prs(n:Nat):List (List Int):=(List.range n).flatMap λi:Nat=>(rgF (i+1) n).map λj:Nat=>[(i:Int),(j:Int)]
noncomputable def pz(p:Int×Int):Dt:=.tup [.int p.1,.int p.2]
noncomputable def mt(a b:Int×Int):Bool:=decide (a.1<=b.2) && decide (b.1<=a.2)
noncomputable def atP(l:List (Int×Int))(i:Nat):Int×Int:=l.getD i (0,0)
noncomputable def mtA(l:List (Int×Int)):List Int->Bool
 |[i,j]=>mt (atP l i.toNat) (atP l j.toNat)
 |_=>false
noncomputable def zcm(l:List (Int×Int)):List (List Int):=(prs l.length).filter (mtA l)
theorem zkW{a n j:Nat}:j∈rgF a n ↔ a<=j/\j<n:=by
 unfold rgF;rw[List.mem_map];constructor
 ·rintro ⟨k,hk,rfl⟩;have:=List.mem_range.mp hk;lia
 ·rintro ⟨h1,h2⟩;exact ⟨j-a,List.mem_range.mpr xwl,xwl⟩
theorem zdi{n:Nat}{p:List Int}:p∈prs n ↔ ∃ i j:Nat,p=[(i:Int),(j:Int)]/\i<j/\j<n:=by
 unfold prs;rw[List.mem_flatMap];constructor
 ·rintro ⟨i,_,h⟩;obtain ⟨j,hj,rfl⟩:=List.mem_map.mp h;have:=zkW.mp hj;exact ⟨i,j,rfl,xwl,xwl⟩
 ·rintro ⟨i,j,rfl,h1,h2⟩;exact ⟨i,List.mem_range.mpr xwl,List.mem_map.mpr ⟨j,zkW.mpr ⟨xwl,h2⟩,rfl⟩⟩
theorem zdS:∀{n:Nat},n<=7->(prs n).length<=21
 |0,_=>by decide
 |1,_=>by decide
 |2,_=>by decide
 |3,_=>by decide
 |4,_=>by decide
 |5,_=>by decide
 |6,_=>by decide
 |7,_=>by decide
theorem zh2:∀{n:Nat},n<=7->zg3 [.val (.int (n:Nat))]=.ok (.lst ((prs n).map tz),[.val .non])
 |0,_=>by kernel_rfl
 |1,_=>by kernel_rfl
 |2,_=>by kernel_rfl
 |3,_=>by kernel_rfl
 |4,_=>by kernel_rfl
 |5,_=>by kernel_rfl
 |6,_=>by kernel_rfl
 |7,_=>by kernel_rfl
theorem zgW{n:Nat}(h:n<=7):zbr [.val (.int (n:Nat))]=.ok (.lst ((prs n).map tz),[.val .non]):=zh2 h
theorem znH(a b:Int×Int):zlP [.val (pz a),.val (pz b)]=.ok (.bl (mt a b),[.val .non,.val .non]):=by refine zao (Z':=[some (.val (pz a)),some (.val (pz b))]) rfl ?_ rfl;exact zbv (zeh rfl λ_=>rfl)
theorem zmi(a b:Int×Int):zct [.val (pz a),.val (pz b)]=.ok (.bl (mt a b),[.val .non,.val .non]):=by
 refine zao (Z':=[some (.val (pz a)),some (.val (pz b))]) rfl ?_ rfl;have e:mt a b=(!(decide (a.2<b.1)) && !(decide (b.2<a.1))):=by
  unfold mt;rw[Bool.and_comm];congr 1
  ·by_cases h:b.1<=a.2
   ·rw[decide_eq_true h,decide_eq_false xwl];rfl
   ·rw[decide_eq_false h,decide_eq_true xwl];rfl
  ·by_cases h:a.1<=b.2
   ·rw[decide_eq_true h,decide_eq_false xwl];rfl
   ·rw[decide_eq_false h,decide_eq_true xwl];rfl
 rw[e];exact zbv (zeh rfl λ_=>rfl)
noncomputable def SqD(d:Dt)(l:List (Int×Int)):Prop:=d=.lst (l.map pz)\/d=.tup (l.map pz)
theorem SqD.ix{d:Dt}{l:List (Int×Int)}(h:SqD d l){i:Nat}(hi:i<l.length):gIx d (.int (i:Nat))=.ok (pz (atP l i)):=by
 have e:(l.map pz)[((i:Nat):Int).toNat]? = some (pz (atP l i)):=by rw[Int.toNat_natCast,List.getElem?_map,List.getElem?_eq_getElem hi];unfold atP;rw[List.getD_eq_getElem?_getD,List.getElem?_eq_getElem hi];rfl
 rcases h with rfl|rfl
 ·exact zoh xwl (by rw[List.length_map];lia) e
 ·exact ziw xwl (by rw[List.length_map];lia) e
theorem SqD.len{d:Dt}{l:List (Int×Int)}(h:SqD d l):zby [d]=.ok (.int l.length):=by rcases h with rfl|rfl <;> simp[zby]
noncomputable def zbQ(n:Nat)(ts:List (List Int)):Dt:=.tup [.int n,.tup (ts.map tz)]
theorem zg7{d:Dt}{l:List (Int×Int)}(h:SqD d l)(hl:l.length<=7):zdC [.val d]=.ok (zbQ l.length (zcm l),[.val .non]):=by
 let Z0:Ev:=[some (.val d),none]
 let pD:Dt->Bool:=λx=>match x with
  |.tup [.int i,.int j]=>mt (atP l i.toNat) (atP l j.toNat)
  |_=>false
 have elen:∀ Z:Ev,Z[0]? = some (some (.val d))->dFn zby (dA (zab 0) dA0) Z=.ok (.int l.length,Z):=λZ hρ=>zbZ (d:=d) (by unfold zab;rw[hρ]) h.len;have hc:za9 (dIt (zad zg3 (dR (dFn zby (dA (zab 0) dA0)) dR0))) (zbg 2) (dTB (zad zlP (dR (dOp gIx (zab 0) (dOp gIx (zab 2) (dC (.int 0)))) (dR (dOp gIx (zab 0) (dOp gIx (zab 2) (dC (.int 1)))) dR0)))) (zab 2) 1 Z0=.ok ((((prs l.length).map tz).filter pD).map id,Z0):=by
  refine zda ?_ rfl (by rw[List.length_map];have:=zdS hl;lia) (λx hx=>?_) (λx hx _=>rfl)
  ·have e1:=zc1 (F:=zg3) (elen Z0 rfl) (zh2 hl);unfold dIt;rw[e1];rfl
  ·obtain ⟨p,hp,rfl⟩:=List.mem_map.mp hx;obtain ⟨i,j,rfl,h1,h2⟩:=zdi.mp hp;let Z1:Ev:=Z0++[some (.val (tz [(i:Int),(j:Int)]))]
   have a1:dOp gIx (zab 0) (dOp gIx (zab 2) (dC (.int 0))) Z1=.ok (pz (atP l i),Z1):=zat (e:=.int i) rfl rfl (h.ix xwl);have a2:dOp gIx (zab 0) (dOp gIx (zab 2) (dC (.int 1))) Z1=.ok (pz (atP l j),Z1):=zat (e:=.int j) rfl rfl (h.ix h2);exact zaM (zfi a1 a2 (znH _ _))
 have ef:((prs l.length).map tz).filter pD=(zcm l).map tz:=by rw[List.filter_map];unfold zcm;congr 1;refine List.filter_congr λp hp=>?_;obtain ⟨i,j,rfl,_⟩:=zdi.mp hp;rfl
 rw[List.map_id,ef] at hc;refine zao (Z':=[some (.val d),some (.val (.lst ((zcm l).map tz)))]) rfl ?_ rfl;show zhW Z0=_;unfold zhW;rw[zam (zaS (i:=1) (zbI hc) (by simp[Z0]))];refine zbv (zg9 (zbz (elen _ rfl) (zbz (zbZ (d:=.lst ((zcm l).map tz)) rfl rfl) rfl)) xws)
theorem ztO{fa fb:De}{Z Z1 Z2:Ev}{i j:Int}(h1:fa Z=.ok (.int i,Z1))(h2:fb Z1=.ok (.int j,Z2)):zhq fa fb Z=zsK i j Z2:=by unfold zhq;rw[h1];simp only[R.bind_ok];rw[h2];rfl
theorem zp3{i j:Int}{Z:Ev}(h:(zcO i && zcO j)=true):zsK i j Z=.ok (zaX i (j-i).toNat,Z):=if_pos h
theorem zuF(i j:Nat):zaX i ((j:Int)-(i:Int)).toNat=(rgF i j).map λk:Nat=>Dt.int k:=by unfold zaX rgF;rw[show ((j:Int)-(i:Int)).toNat=j-i by lia,List.map_map];refine List.map_congr_left λk _=>?_;show Dt.int ((i:Int)+(k:Int))=.int ((i+k:Nat):Int);rw[Int.natCast_add]
theorem zrC{fa fb:De}{Z Z1 Z2:Ev}{i j:Nat}(h1:fa Z=.ok (.int (i:Nat),Z1))(h2:fb Z1=.ok (.int (j:Nat),Z2))(hi:i<=1000)(hj:j<=1000):zhq fa fb Z=.ok ((rgF i j).map λk:Nat=>Dt.int k,Z2):=by rw[ztO h1 h2,zp3 (by rw[zgA hi,zgA hj];rfl),zuF]
theorem zgz{d:Dt}{l:List (Int×Int)}(h:SqD d l)(hl:l.length<=7):zaA [.val d]=.ok (.tup ((zcm l).map tz),[.val .non]):=by
 let row:Nat->List (List Int):=λi=>((rgF (i+1) l.length).map λj:Nat=>[(i:Int),(j:Int)]).filter (mtA l);have elen:∀ Z:Ev,Z[0]? = some (some (.val d))->dFn zby (dA (zab 0) dA0) Z=.ok (.int l.length,Z):=λZ hρ=>zbZ (d:=d) (by unfold zab;rw[hρ]) h.len;have rl:∀ i,(row i).length<=7:=λi=>by refine waO (List.length_filter_le _ _) ?_;rw[List.length_map];unfold rgF;simp;lia
 have fl:∀ dn:List Nat,(dn.flatMap row).length<=dn.length * 7:=λdn=>by
  induction dn with
  |nil=>simp
  |cons a r ih=>rw[List.flatMap_cons,List.length_append,List.length_cons];have:=rl a;lia
 let I:List Nat->Ev->Prop:=λdn Z=>∃ o,Z=[some (.val d),some (.own ((dn.flatMap row).map tz)),o]
 have hrow:∀ i,(((rgF (i+1) l.length).map λk:Nat=>Dt.int k).filter λx=>match x with|.int j=>mt (atP l i) (atP l j.toNat)|_=>false).map (λx=>Dt.tup [.int i,x])=(row i).map tz:=λi=>by show _=(((rgF (i+1) l.length).map λj:Nat=>[(i:Int),(j:Int)]).filter (mtA l)).map tz;rw[List.filter_map,List.filter_map,List.map_map,List.map_map];rfl
 obtain ⟨Z',⟨o,rfl⟩,e⟩:=zh7 (fi:=zbV (dFn zby (dA (zab 0) dA0))) (g:=zbg 2) (body:=(dEx (zki 1 (dFz (za9 (zhq (dOp zbt (zab 2) (dC (.int 1))) (dFn zby (dA (zab 0) dA0))) (zbg 3) (dTB (zad zct (dR (dOp gIx (zab 0) (zab 2)) (dR (dOp gIx (zab 0) (zab 3)) dR0)))) (zbK (dA (zab 2) (dA (zab 3) dA0))) 1))))) (I:=I) (l:=List.range l.length) (u:=λk:Nat=>Dt.int k) (Z:=[some (.val d),some (.own []),none]) (Z0:=[some (.val d),some (.own []),none])
  (zi7 (elen _ rfl) xwl) (by unfold zaX;refine List.map_congr_left λk _=>?_;rw[Int.zero_add]) ⟨none,rfl⟩ (λdn i zbo hdn Z ⟨o,ho⟩=>by
   subst ho;have hi:i<l.length:=by
    have:i∈List.range l.length:=by rw[hdn];simp
    exact List.mem_range.mp this
   have hdl:dn.length<=7:=by have:=congrArg List.length hdn;simp at this;lia
   let Z1:Ev:=[some (.val d),some (.own ((dn.flatMap row).map tz)),some (.val (.int i))]
   have hc:za9 (zhq (dOp zbt (zab 2) (dC (.int 1))) (dFn zby (dA (zab 0) dA0))) (zbg 3) (dTB (zad zct (dR (dOp gIx (zab 0) (zab 2)) (dR (dOp gIx (zab 0) (zab 3)) dR0)))) (zbK (dA (zab 2) (dA (zab 3) dA0))) 1 Z1=.ok ((row i).map tz,Z1):=by
    rw[<- hrow i];refine zda (zrC (i:=i+1) (j:=l.length) (zat rfl rfl rfl) (elen _ rfl) xwl xwl) rfl (by unfold rgF;simp;lia) (λx hx=>?_) (λx hx _=>?_)
    ·obtain ⟨j,hj,rfl⟩:=List.mem_map.mp hx;have:=zkW.mp hj;let Z2:Ev:=Z1++[some (.val (.int j))]
     have a1:dOp gIx (zab 0) (zab 2) Z2=.ok (pz (atP l i),Z2):=zat (e:=.int i) rfl rfl (h.ix hi);have a2:dOp gIx (zab 0) (zab 3) Z2=.ok (pz (atP l j),Z2):=zat (e:=.int j) rfl rfl (h.ix this.2);exact zaM (zfi a1 a2 (zmi _ _))
    ·rfl
   refine ⟨Z1,Z1.set 1 (some (.own ((dn.flatMap row).map tz++(row i).map tz))),rfl,?_,⟨some (.val (.int i)),?_⟩⟩
   ·exact zon (zjG (l0:=(dn.flatMap row).map tz) rfl (zbI hc) rfl rfl (by rw[List.length_map,List.length_map];have:=fl dn;have:=rl i;lia))
   ·show [some (B.val d),some (.own ((dn.flatMap row).map tz++(row i).map tz)),some (.val (.int i))]=_;rw[List.flatMap_append,List.map_append,List.flatMap_singleton])
 have et:(List.range l.length).flatMap row=zcm l:=by unfold zcm prs;rw[List.filter_flatMap]
 refine zao (Z':=[some (.val d),some (.val (.lst ((zcm l).map tz))),o]) rfl ?_ rfl;show zdj [some (.val d),none,none]=_;unfold zdj;rw[zam (Z1:=[some (.val d),some (.own []),none]) rfl,zam e,et];rfl
theorem zjD:∀ a b:List Int,HT.lexLt a b=Ts.lxB a b
 |[],[]=>rfl
 |[],_::_=>rfl
 |_::_,[]=>rfl
 |x::a,y::b=>by rw[HT.lexLt_cons,zjD a b];rfl
theorem zua(a b:List Int):zmV (tz a) (tz b)=.ok (.bl (Ts.lxB a b)):=by unfold zmV tz;simp only[zl5,zjD]
theorem zkX{α:Type}{r:α->α->Bool}(tr:∀ a b c,r a b=true->r b c=true->r a c=true)(a0:α):∀ l:List α,(List.range (l.length-1)).all (λk=>r (l.getD k a0) (l.getD (k+1) a0))=true ↔ l.Pairwise λa b=>r a b=true
 |[]=>by simp
 |[a]=>by simp
 |a::b::l=>by
  rw[List.pairwise_cons,<- zkX tr a0 (b::l)];simp only[List.all_eq_true,wan,List.mem_range,Nat.add_sub_cancel];constructor
  ·intro h;have h2:∀ x,x<l.length->r ((b::l).getD x a0) ((b::l).getD (x+1) a0)=true:=λx hx=>h (x+1) xwl;refine ⟨λc hc=>?_,h2⟩;have hab:r a b=true:=h 0 xwl;have hp:=(zkX tr a0 (b::l)).mp (by rw[List.all_eq_true];exact λx hx=>h2 x (by have:=List.mem_range.mp hx;simpa using this))
   rw[List.pairwise_cons] at hp;rcases wap.mp hc with rfl|hc
   ·exact hab
   ·exact tr _ _ _ hab (hp.1 c hc)
  ·rintro ⟨h1,h2⟩ x hx;cases x with
   |zero=>exact h1 b wau
   |succ x=>exact h2 x xwl
theorem zjo{α:Type}{u:α->Dt}{lt:α->α->Bool}(hlt:∀ a b,zmV (u a) (u b)=.ok (.bl (lt a b)))(p:List α)(a0:α)(hl:p.length<=1000) :
  zdP [.val (.tup (p.map u))]=.ok (.bl ((List.range (p.length-1)).all λk=>lt (p.getD k a0) (p.getD (k+1) a0)),[.val .non]):=by
 let Z0:Ev:=[some (.val (.tup (p.map u)))]
 have elen:dFn zby (dA (zab 0) dA0) Z0=.ok (.int p.length,Z0):=zbZ (d:=.tup (p.map u)) rfl (by simp[zby]);have em:zbV (dOp zhp (dFn zby (dA (zab 0) dA0)) (dC (.int 1))) Z0=.ok (zaX 0 (p.length-1),Z0):=by
  have es:dOp zhp (dFn zby (dA (zab 0) dA0)) (dC (.int 1)) Z0=.ok (.int ((p.length:Int)-1),Z0):=zat elen rfl rfl;cases p with
  |nil=>rfl
  |cons a r =>
   have e':((a::r).length:Int)-1=((r.length:Nat):Int):=by simp
   rw[e'] at es;rw[zi7 es (by simp at hl;lia)];rfl
 have hc:za9 (zbV (dOp zhp (dFn zby (dA (zab 0) dA0)) (dC (.int 1)))) (zbg 1) dTT (dOp zmV (dOp gIx (zab 0) (zab 1)) (dOp gIx (zab 0) (dOp zbt (zab 1) (dC (.int 1))))) 1 Z0=.ok ((List.range (p.length-1)).map λk=>.bl (lt (p.getD k a0) (p.getD (k+1) a0)),Z0):=by
  refine zc5 (l:=List.range (p.length-1)) (u:=λk=>.int (0+(k:Nat))) (f:=λk=>.bl (lt (p.getD k a0) (p.getD (k+1) a0))) (ds:=zaX 0 (p.length-1)) em rfl (by rw[List.length_range];lia) (λk hk=>?_) rfl;have hkm:=List.mem_range.mp hk;show dOp zmV (dOp gIx (zab 0) (zab 1)) (dOp gIx (zab 0) (dOp zbt (zab 1) (dC (.int 1)))) [some (.val (.tup (p.map u))),some (.val (.int (0+(k:Nat))))]=_;have hk1:k<p.length:=by lia
  have hk2:k+1<p.length:=by lia
  have g1:gIx (.tup (p.map u)) (.int (0+(k:Nat)))=.ok (u (p.getD k a0)):=by refine ziw xwl (by simp;lia) ?_;rw[show (0+((k:Nat):Int)).toNat=k by lia,List.getElem?_map,List.getElem?_eq_getElem hk1,List.getD_eq_getElem?_getD,List.getElem?_eq_getElem hk1];rfl
  have g2:gIx (.tup (p.map u)) (.int (0+(k:Nat)+1))=.ok (u (p.getD (k+1) a0)):=by refine ziw xwl (by simp;lia) ?_;rw[show (0+((k:Nat):Int)+1).toNat=k+1 by lia,List.getElem?_map,List.getElem?_eq_getElem hk2,List.getD_eq_getElem?_getD,List.getElem?_eq_getElem hk2];rfl
  exact zat (zat rfl rfl g1) (zat rfl (zat rfl rfl rfl) g2) (hlt _ _)
 refine zao (Z':=Z0) rfl ?_ rfl;show zk5 Z0=_;unfold zk5;exact zbv (zbZ (zbI hc) (zj2 _ _))
theorem zmj{L:List (List Int)}(hl:L.length<=1000):∃ b,zdP [.val (.tup (L.map tz))]=.ok (.bl b,[.val .non])/\(b=true ↔ L.Pairwise λa b=>Ts.lxB a b=true) :=
 ⟨_,zjo (u:=tz) zua L [] hl,zkX (r:=Ts.lxB) (λ_ _ _ h1 h2=>Ts.lxB_tr h1 h2) [] L⟩
noncomputable def zmH(n:Int):Dt->Bool
 |.tup [.int a,.int b]=>decide (0<=a) && decide (a<b) && decide (b<n)
 |_=>false
theorem zqi(n:Int)(d:Dt)(hl:∀ l,d=.tup l->l.length<=1000):zd3 [.val (.int n),.val d]=.ok (.bl (zmH n d),[.val .non,.val .non]):=by
 let Z0:Ev:=[some (.val (.int n)),some (.val d)]
 have ep:zcv [.val (.int n),.val d]=.ok (.bl (zoj n d),[.val .non,.val .non]) :=
  zao (Z':=Z0) rfl (zbv (zfi (Z:=Z0) rfl rfl (zne n d hl))) rfl
 refine zao (Z':=Z0) rfl ?_ rfl;show zhO Z0=_;unfold zhO;refine zbv ?_;have e1:zad zcv (dR (zab 0) (dR (zab 1) dR0)) Z0=.ok (.bl (zoj n d),Z0):=zfi rfl rfl ep;cases ha:zoj n d with
 |false =>
  rw[ha] at e1;have ht:zmH n d=false:=by
   cases h:zmH n d with
   |false=>rfl
   |true =>
    unfold zmH at h;split at h
    ·rename_i a b;simp only[wae,war] at h;have:zoj n (.tup [.int a,.int b])=true:=by unfold zoj;simp only[List.all_cons,List.all_nil,isG,Bool.and_true,wae,war];exact ⟨⟨h.1.1,xwl⟩,xwl,h.2⟩
     rw[this] at ha;cases ha
    ·cases h
  rw[ht];unfold zeX;rw[e1];rfl
 |true =>
  rw[ha] at e1;obtain ⟨zs,hd,hz⟩ : ∃ zs:List Int,d=tz zs/\∀ x∈zs,0<=x/\x<n:=by
   unfold zoj at ha;split at ha
   ·obtain ⟨zs,rfl,h⟩:=zif ha;exact ⟨zs,rfl,h⟩
   ·cases ha
  subst hd;have hzl:zs.length<=1000:=by have:=hl _ rfl;simpa using this
  have e2:dOp (gEq false) (dFn zby (dA (zab 1) dA0)) (dC (.int 2)) Z0=.ok (.bl ((zs.length:Int) == 2),Z0):=zat (zbZ (d:=tz zs) (z:=.int zs.length) rfl (by simp[tz,zby])) rfl (by rw[zsE];rfl);have e3:=zjo (u:=Dt.int) (lt:=λa b=>decide (a<b)) (λa b=>rfl) zs 0 hzl;have key:zeX (zad zcv (dR (zab 0) (dR (zab 1) dR0))) (zeX (dOp (gEq false) (dFn zby (dA (zab 1) dA0)) (dC (.int 2))) (zad zdP (dR (zab 1) dR0))) Z0=.ok (.bl (true && (((zs.length:Int) == 2) && _)),Z0) :=
   zeh e1 λ_=>zeh e2 λ_=>zc1 rfl e3
  rw[key];refine congrArg (λb=>R.ok (Dt.bl b,Z0)) ?_;clear key e3 e2 e1 ep ha hl
  match zs,hz with
  |[],_=>rfl
  |[a],_=>rfl
  |[a,b],hz =>
   have h1:=hz a xws;have h2:=hz b xws;show (true && (true && ((decide (a<b)) && true)))=(decide (0<=a) && decide (a<b) && decide (b<n))
   rw[decide_eq_true h1.1,decide_eq_true h2.2];simp
  |a::b::c::r,_ =>
   have:((((a::b::c::r).length:Nat):Int) == 2)=false:=by simp only[wan,beq_eq_false_iff_ne];lia
   rw[this];rfl
noncomputable def isT:Dt->Bool
 |.tup _=>true
 |_=>false
theorem zrj(d:Dt):zhX (tyD d) "tuple"=isT d:=by cases d <;> rfl
theorem ziz{i:Nat}{Z:Ev}{d:Dt}(h:Z[i]? = some (some (.val d))):zcU "tuple" (zab i) Z=.ok (.bl (isT d),Z):=by rw[<- zrj];unfold zcU zab;rw[h];rfl
theorem ziC{d:Dt}(h:isT d=true):∃ xs,d=.tup xs:=by
 unfold isT at h;split at h
 ·exact ⟨_,rfl⟩
 ·cases h
theorem zly{i:Nat}{Z:Ev}{d:Dt}(h:Z[i]? = some (some (.val d))):zab i Z=.ok (d,Z):=by unfold zab;rw[h]
noncomputable def two:Dt->Bool
 |.tup [_,_]=>true
 |_=>false
theorem zds{d:Dt}(h:two d=true):∃ a b,d=.tup [a,b]:=by
 unfold two at h;split at h
 ·exact ⟨_,_,rfl⟩
 ·cases h
theorem zfp{i:Nat}{Z:Ev}{d:Dt}(h:Z[i]? = some (some (.val d))):zcw (za2 (dTB (zcU "tuple" (zab i)))) (dTB (dOp (gEq true) (dFn zby (dA (zab i) dA0)) (dC (.int 2)))) Z=.ok (!two d,Z):=by
 have e1:=zaP (zaM (ziz h));cases hd:isT d with
 |false =>
  rw[hd] at e1;rw[zdG e1];have:two d=false:=by
   cases ht:two d with
   |false=>rfl
   |true =>
    obtain ⟨a,b,rfl⟩:=zds ht;cases hd
  rw[this];rfl
 |true =>
  rw[hd] at e1;rw[zbc e1];obtain ⟨xs,rfl⟩:=ziC hd;refine zaM ?_;have e2:dOp (gEq true) (dFn zby (dA (zab i) dA0)) (dC (.int 2)) Z=.ok (.bl (!((xs.length:Int) == 2)),Z):=zat (zbZ (d:=.tup xs) (z:=.int xs.length) (zly h) (by simp[zby])) rfl (by rw[zsE];rfl);rw[e2];refine congrArg (λb=>R.ok (Dt.bl b,Z)) (congrArg not ?_)
  match xs with
  |[]=>rfl
  |[_]=>rfl
  |[_,_]=>rfl
  |a::b::c::r =>
   show (((a::b::c::r).length:Int) == 2)=false;simp only[wan,beq_eq_false_iff_ne];lia
noncomputable def zdx(d:Dt):Prop:=∃(n:Nat)(L:List (List Int)),d=zbQ n L/\1<=n/\n<=7/\(∀ p∈L,p∈prs n)/\L.Pairwise λa b=>Ts.lxB a b=true
noncomputable def LW(d:Dt):Prop:=∀ a ts,d=.tup [a,.tup ts]->ts.length<=1000/\∀ t∈ts,∀ l,t=.tup l->l.length<=1000
theorem zhT{n m:Nat}{L M:List (List Int)}(h:zbQ n L=zbQ m M):n=m/\L=M:=by
 unfold zbQ at h;simp only[Dt.tup.injEq,List.cons.injEq,Dt.int.injEq,and_true] at h;refine ⟨by have:=h.1;lia,?_⟩;have key:∀{L M:List (List Int)},L.map tz=M.map tz->L=M:=λ{L M}=>by
  have inj:∀ a b:List Int,tz a=tz b->a=b:=λa b e=>by
   have e1:a.map Dt.int=b.map Dt.int:=by unfold tz at e;injection e
   have e2:=zl5 a;rw[e1,zl5 b] at e2;exact (waB e2).symm
  induction L generalizing M with
  |nil=>intro e;cases M with
   |nil=>rfl
   |cons=>cases e
  |cons a L ih=>intro e;cases M with
   |nil=>cases e
   |cons b M =>
    rw[List.map_cons,List.map_cons] at e;injection e with e1 e2;rw[inj _ _ e1,ih e2]
 exact key h.2
theorem zlU{n:Nat}{d:Dt}:zmH n d=true ↔ ∃ p∈prs n,d=tz p:=by
 constructor
 ·intro h;unfold zmH at h;split at h
  ·rename_i a b;simp only[wae,war] at h;refine ⟨[a,b],zdi.mpr ⟨a.toNat,b.toNat,?_,xwl,xwl⟩,rfl⟩;rw[Int.toNat_of_nonneg h.1.1,Int.toNat_of_nonneg xwl]
  ·cases h
 ·rintro ⟨p,hp,rfl⟩;obtain ⟨i,j,rfl,h1,h2⟩:=zdi.mp hp;show (decide ((0:Int)<=(i:Int)) && decide ((i:Int)<(j:Int)) && decide ((j:Int)<(n:Int)))=true;simp only[wae,war];lia
theorem zlD{n:Nat}:∀{ts:List Dt},ts.all (zmH n)=true->∃ L:List (List Int),ts=L.map tz/\∀ p∈L,p∈prs n
 |[],_=>⟨[],rfl,xws⟩
 |d::ts,h=>by
  rw[List.all_cons,Bool.and_eq_true] at h;obtain ⟨p,hp,rfl⟩:=zlU.mp h.1;obtain ⟨L,rfl,hL⟩:=zlD h.2;exact ⟨p::L,rfl,λq hq=>by
   rcases wap.mp hq with rfl|hq
   ·exact hp
   ·exact hL q hq⟩
theorem zoG{n:Nat}{L:List (List Int)}(h:∀ p∈L,p∈prs n):(L.map tz).all (zmH n)=true:=by rw[List.all_eq_true];intro d hd;obtain ⟨p,hp,rfl⟩:=List.mem_map.mp hd;exact zlU.mpr ⟨p,h p hp,rfl⟩
noncomputable def zo9:Dt->Option Nat
 |.int n=>if 1<=n/\n<=7 then some n.toNat else none
 |_=>none
theorem zmX{d:Dt}{n:Nat}(h:zo9 d=some n):d=.int n/\1<=n/\n<=7:=by
 unfold zo9 at h;split at h
 ·split at h
  ·rename_i c;cases h;exact ⟨by rw[Int.toNat_of_nonneg xwl],xwl,xwl⟩
  ·cases h
 ·cases h
theorem zgs{d:Dt}(hl:LW d):∃ b,zbA [.val d]=.ok (.bl b,[.val .non])/\(b=true ↔ zdx d):=by
 have no:two d=false->¬ zdx d:=λh ⟨n,L,e,_⟩=>by subst e;cases h
 let Z0:Ev:=[some (.val d),none,none]
 have t1:=zfp (i:=0) (Z:=Z0) (d:=d) rfl;cases h2:two d with
 |false =>
  rw[h2] at t1;refine ⟨false,zao (Z':=Z0) rfl ?_ rfl,by simp[no h2]⟩;show zd4 Z0=_;unfold zd4;exact zb8 (by rw[zc9 t1];rfl)
 |true =>
  rw[h2] at t1;obtain ⟨a,t,rfl⟩:=zds h2;let Z1:Ev:=[some (.val (.tup [a,t])),some (.val a),some (.val t)]
  have hd:zd4 Z0=(zaE (dIf (zcw (za2 (dTB (zad zaV (dR (zab 1) dR0)))) (zcw (dTB (dOp gLt (zab 1) (dC (.int 1)))) (zcw (dTB (dOp gGt (zab 1) (dC (.int 7)))) (za2 (dTB (zcU "tuple" (zab 2))))))) (zbp (dC (.bl false))) dNx) (zbp (zeX (dFn zhk (dA (dFz (za9 (dIt (zab 2)) (zbg 3) dTT (zad zd3 (dR (zab 1) (dR (zab 3) dR0))) 1)) dA0)) (zad zdP (dR (zab 2) dR0))))) Z1:=by unfold zd4;rw[zam (Z1:=Z0) (by rw[zbO t1];rfl),zam (Z1:=[some (.val (.tup [a,t])),some (.val a),none]) rfl,zam (Z1:=Z1) rfl]
  have w1:za2 (dTB (zad zaV (dR (zab 1) dR0))) Z1=.ok (!isW a,Z1):=zaP (zaM (zc1 rfl (zcd a)));have out:∀{Z':Ev},zcw (za2 (dTB (zad zaV (dR (zab 1) dR0)))) (zcw (dTB (dOp gLt (zab 1) (dC (.int 1)))) (zcw (dTB (dOp gGt (zab 1) (dC (.int 7)))) (za2 (dTB (zcU "tuple" (zab 2)))))) Z1=.ok (true,Z1)->zbA [.val (.tup [a,t])]=.ok (.bl false,[.val .non]):=λh=>by refine zao (Z':=Z1) rfl ?_ rfl;show zd4 Z0=_;rw[hd];exact zb8 (by rw[zc9 h];rfl)
  have bad:(zo9 a=none\/isT t=false)->¬ zdx (.tup [a,t]):=λh ⟨n,L,e,h1,h7,_⟩=>by
   unfold zbQ at e;injection e with e;injection e with e1 e2;injection e2 with e2 _;subst e1 e2;rcases h with h|h
   ·unfold zo9 at h;simp only at h;rw[if_pos xwl] at h;cases h
   ·cases h
  cases hn:zo9 a with
  |none =>
   refine ⟨false,out (Z':=Z1) ?_,by simp[bad (.inl hn)]⟩;cases hw:isW a with
   |false=>rw[hw] at w1;rw[zdG w1]
   |true =>
    rw[hw] at w1;rw[zbc w1];obtain ⟨i,rfl⟩ : ∃ i,a=.int i:=by
     unfold isW at hw;split at hw
     ·exact ⟨_,rfl⟩
     ·cases hw
    have g1:dTB (dOp gLt (zab 1) (dC (.int 1))) Z1=.ok (decide (i<1),Z1):=rfl;have g2:dTB (dOp gGt (zab 1) (dC (.int 7))) Z1=.ok (decide (i > 7),Z1):=rfl;by_cases c1:i<1
    ·rw[decide_eq_true c1] at g1;rw[zdG g1]
    ·rw[decide_eq_false c1] at g1;rw[zbc g1];by_cases c2:i > 7
     ·rw[decide_eq_true c2] at g2;rw[zdG g2]
     ·unfold zo9 at hn;simp only at hn;rw[if_pos xwl] at hn;cases hn
  |some n =>
   obtain ⟨rfl,h1,h7⟩:=zmX hn;rw[show isW (.int (n:Int))=true from rfl] at w1;have g1:dTB (dOp gLt (zab 1) (dC (.int 1))) Z1=.ok (decide ((n:Int)<1),Z1):=rfl;have g2:dTB (dOp gGt (zab 1) (dC (.int 7))) Z1=.ok (decide ((n:Int) > 7),Z1):=rfl;rw[decide_eq_false xwl] at g1 g2;have g3:=zaP (zaM (ziz (i:=2) (Z:=Z1) (d:=t) rfl));cases ht:isT t with
   |false =>
    refine ⟨false,out (Z':=Z1) ?_,by simp[bad (.inr ht)]⟩;rw[zbc w1,zbc g1,zbc g2,g3,ht];rfl
   |true =>
    rw[ht] at g3;obtain ⟨ts,rfl⟩:=ziC ht;obtain ⟨l1,l2⟩:=hl _ ts rfl;have hc:za9 (dIt (zab 2)) (zbg 3) dTT (zad zd3 (dR (zab 1) (dR (zab 3) dR0))) 1 Z1=.ok (ts.map λx=>.bl (zmH n x),Z1):=by
     refine zc5 (l:=ts) (u:=id) (f:=λx=>.bl (zmH n x)) (ds:=ts) rfl (by rw[List.map_id]) l1 (λx hx=>?_) rfl;let Z2:Ev:=Z1++[some (.val x)]
     exact zfi (Z:=Z2) (Z':=Z2) (Z'':=Z2) rfl rfl (zqi n x (l2 x hx))
    have ea:dFn zhk (dA (dFz (za9 (dIt (zab 2)) (zbg 3) dTT (zad zd3 (dR (zab 1) (dR (zab 3) dR0))) 1)) dA0) Z1=.ok (.bl (ts.all (zmH n)),Z1):=zbZ (zbI hc) (zj2 _ _);have fin:∀ b,zeX (dFn zhk (dA (dFz (za9 (dIt (zab 2)) (zbg 3) dTT (zad zd3 (dR (zab 1) (dR (zab 3) dR0))) 1)) dA0)) (zad zdP (dR (zab 2) dR0)) Z1=.ok (.bl b,Z1)->zbA [.val (.tup [.int n,.tup ts])]=.ok (.bl b,[.val .non]):=λb h=>by refine zao (Z':=Z1) rfl ?_ rfl;show zd4 Z0=_;rw[hd,zam (Z1:=Z1) (by rw[zbO (Z1:=Z1) (by rw[zbc w1,zbc g1,zbc g2];exact g3)];rfl)];exact zbv h
    cases hall:ts.all (zmH n) with
    |false =>
     rw[hall] at ea;refine ⟨false,fin _ (by unfold zeX;rw[ea];rfl),?_⟩;simp only[Bool.false_eq_true,false_iff];rintro ⟨m,L,e,_,_,hL,_⟩;unfold zbQ at e;injection e with e;injection e with e1 e2;injection e2 with e2 _;injection e1 with e1;injection e2 with e2;have:n=m:=by lia
     subst this e2;rw[zoG hL] at hall;cases hall
    |true =>
     rw[hall] at ea;obtain ⟨L,rfl,hL⟩:=zlD hall;obtain ⟨b,e1,e2⟩:=zmj (L:=L) (by simpa using l1);refine ⟨true && b,fin _ (zeh ea λ_=>zc1 rfl e1),?_⟩;rw[Bool.true_and,e2];constructor
     ·intro h;exact ⟨n,L,rfl,h1,h7,hL,h⟩
     ·rintro ⟨m,M,e,_,_,_,h⟩;obtain ⟨_,rfl⟩:=zhT (n:=n) e;exact h
theorem zck(A B C:DT)(Z:Ev):zcw A (zcw B C) Z=zcw (zcw A B) C Z:=by
 unfold zcw;cases A Z with
 |ok a =>
  simp only[R.bind_ok];by_cases h:a.1=true
  ·simp only[h,if_true,R.bind_ok]
  ·simp only[h,Bool.false_eq_true,if_false]
 |er n=>rfl
 |no=>rfl
theorem zlK{fa fb fc:De}{Z:Ev}{i j k:Int}(h1:fa Z=.ok (.int i,Z))(h2:fb Z=.ok (.int j,Z))(h3:fc Z=.ok (.int k,Z)):zdE gLe gLe fa fb fc Z=.ok (.bl (decide (i<=j) && decide (j<=k)),Z):=by
 unfold zdE;rw[h1];simp only[R.bind_ok];rw[h2];simp only[R.bind_ok];have e:gLe (.int i) (.int j)=.ok (.bl (decide (i<=j))):=rfl;have e2:gLe (.int j) (.int k)=.ok (.bl (decide (j<=k))):=rfl;rw[e];simp only[R.bind_ok];cases decide (i<=j) with
 |false=>rfl
 |true=>simp only[h3,R.bind_ok,e2,Bool.true_and]
theorem zr2(a b:List Int):eqD (tz a) (tz b)=(a == b):=by unfold tz;rw[eqD,zlq]
theorem ziB:∀ a b:List (List Int),zfh (a.map tz) (b.map tz)=(a == b)
 |[],[]=>by rw[List.map_nil,zfh];rfl
 |[],b::r=>by rw[List.map_nil,List.map_cons,zfh];rfl;all_goals (intros;simp at *)
 |a::r,[]=>by rw[List.map_nil,List.map_cons,zfh];rfl;all_goals (intros;simp at *)
 |a::r,b::q=>by rw[List.map_cons,List.map_cons,zfh,zr2,ziB r q];rfl
theorem ztR(p:List Int)(L:List (List Int)):inD (tz p) (L.map tz)=decide (p∈L):=by
 unfold inD;rw[List.any_map,Bool.eq_iff_iff,List.any_eq_true,decide_eq_true_eq];constructor
 ·rintro ⟨q,hq,h⟩;have h':eqD (tz q) (tz p)=true:=h;rw[zr2] at h';rw[<- eq_of_beq h'];exact hq
 ·intro h;exact ⟨p,h,by show eqD (tz p) (tz p)=true;rw[zr2];simp⟩
theorem zkI(L:List (List Int)):okN 60 (.lst (L.map tz))=true/\okN 60 (.tup (L.map tz))=true/\(L.map tz).all (okN 60)=true:=by
 have h:(L.map tz).all (okN 59)=true:=by rw[List.all_eq_true];intro d hd;obtain ⟨p,_,rfl⟩:=List.mem_map.mp hd;exact (zm4 p).1
 refine ⟨h,h,?_⟩;rw[List.all_eq_true];intro d hd;obtain ⟨p,_,rfl⟩:=List.mem_map.mp hd;exact (zm4 p).2
theorem zig{g:Dt->Bool}{i:Nat}{body:DS}{mk:Option B->Ev}(hs:∀ d o,zbg i d (mk o)=.ok (mk (some (.val d)))):∀(ts:List Dt)(o:Option B),(∀ d∈ts,body (mk (some (.val d)))=if g d=true then .ok (.nx,mk (some (.val d))) else .ok (.rt (.bl false),mk (some (.val d)))) ->
  ∃ o',zk1 (zbg i) body ts (mk o)=if ts.all g=true then .ok (.nx,mk o') else .ok (.rt (.bl false),mk o')
 |[],o,_=>⟨o,rfl⟩
 |d::ts,o,h=>by
  have h1:=h d wau;cases hg:g d with
  |false =>
   rw[hg] at h1;refine ⟨some (.val d),?_⟩;rw[zk1,hs];simp only[R.bind_ok];rw[h1,List.all_cons,hg];rfl
  |true =>
   rw[hg] at h1;obtain ⟨o',e⟩:=zig hs ts (some (.val d)) λx hx=>h x (wah _ hx);refine ⟨o',?_⟩;rw[zk1,hs];simp only[R.bind_ok];rw[h1,List.all_cons,hg,Bool.true_and];exact e
theorem zkG:∀{n:Nat},n<=7->(prs n).Pairwise λa b=>Ts.lxB a b=true
 |0,_=>by decide +kernel
 |1,_=>by decide +kernel
 |2,_=>by decide +kernel
 |3,_=>by decide +kernel
 |4,_=>by decide +kernel
 |5,_=>by decide +kernel
 |6,_=>by decide +kernel
 |7,_=>by decide +kernel
theorem zjS{L:List (List Int)}(h:L.Pairwise λa b=>Ts.lxB a b=true):L.Nodup :=
 h.imp λ{a b} hab e=>by subst e;rw[Ts.lxB_irr] at hab;cases hab
theorem zqm{L M:List (List Int)}(h1:L.Pairwise λa b=>Ts.lxB a b=true)(h2:M.Pairwise λa b=>Ts.lxB a b=true)(hm:∀ p,p∈L ↔ p∈M):L=M:=by
 have le:∀{L:List (List Int)},(L.Pairwise λa b=>Ts.lxB a b=true)->L.Pairwise λa b=>leL a b=true:=λh=>h.imp λ{a b} hab=>by
  unfold leL;cases e:Ts.lxB b a with
  |false=>rfl
  |true=>have:=Ts.lxB_tr hab e;rw[Ts.lxB_irr] at this;cases this
 exact ziL ((List.perm_ext_iff_of_nodup (zjS h1) (zjS h2)).mpr hm) (le h1) (le h2)
theorem zi5{n:Nat}(h7:n<=7){L:List (List Int)}:L=(prs n).filter (λp=>decide (p∈L)) ↔ (∀ p∈L,p∈prs n)/\L.Pairwise λa b=>Ts.lxB a b=true:=by
 constructor
 ·intro h;refine ⟨λp hp=>?_,?_⟩
  ·rw[h] at hp;exact (List.mem_filter.mp hp).1
  ·rw[h];exact (zkG h7).filter _
 ·rintro ⟨h1,h2⟩;refine zqm h2 ((zkG h7).filter _) λp=>?_;rw[List.mem_filter,decide_eq_true_eq];exact ⟨λh=>⟨h1 p h,h⟩,λh=>h.2⟩
noncomputable def gB(n:Int)(d:Dt):Bool:=two d && zoj n d
theorem zqZ{n:Nat}:∀{ts:List Dt},ts.all (gB n)=true->∃ L:List (List Int),ts=L.map tz
 |[],_=>⟨[],rfl⟩
 |d::ts,h=>by
  rw[List.all_cons,Bool.and_eq_true] at h;obtain ⟨L,rfl⟩:=zqZ h.2;have h1:=h.1;unfold gB at h1;rw[Bool.and_eq_true] at h1;have h2:=h1.2;unfold zoj at h2;split at h2
  ·obtain ⟨zs,rfl,_⟩:=zif h2;exact ⟨zs::L,rfl⟩
  ·cases h2
theorem ztf{n:Nat}{L:List (List Int)}(h:∀ p∈L,p∈prs n):(L.map tz).all (gB n)=true:=by rw[List.all_eq_true];intro d hd;obtain ⟨p,hp,rfl⟩:=List.mem_map.mp hd;obtain ⟨i,j,rfl,h1,h2⟩:=zdi.mp (h p hp);show (true && ((decide ((0:Int)<=(i:Int)) && decide ((i:Int)<(n:Int))) && ((decide ((0:Int)<=(j:Int)) && decide ((j:Int)<(n:Int))) && true)))=true;simp only[Bool.true_and,Bool.and_true,wae,war];lia
theorem zmW{d:Dt}(hl:LW d):∃ b,zaT [.val d]=.ok (.bl b,[.val .non])/\(b=true ↔ zdx d):=by
 have no:two d=false->¬ zdx d:=λh ⟨n,L,e,_⟩=>by subst e;cases h
 let Z0:Ev:=[some (.val d),none]
 have t1:=zfp (i:=0) (Z:=Z0) (d:=d) rfl;have out:∀ c:DT,c Z0=.ok (true,Z0)->∀ f:DS,(zaE (dIf c (zbp (dC (.bl false))) dNx) f) Z0=.ok (.rt (.bl false),Z0):=λc h f=>zb8 (by rw[zc9 h];rfl);cases h2:two d with
 |false =>
  rw[h2] at t1;refine ⟨false,zao (Z':=Z0) rfl ?_ rfl,by simp[no h2]⟩;show zaI Z0=_;unfold zaI;exact out _ (by rw[zck,zdG t1]) _
 |true =>
  rw[h2] at t1;obtain ⟨a,t,rfl⟩:=zds h2;have bad:(zo9 a=none\/isT t=false)->¬ zdx (.tup [a,t]):=λh ⟨n,L,e,h1,h7,_⟩=>by
   unfold zbQ at e;injection e with e;injection e with e1 e2;injection e2 with e2 _;subst e1 e2;rcases h with h|h
   ·unfold zo9 at h;simp only at h;rw[if_pos xwl] at h;cases h
   ·cases h
  have w1:za2 (dTB (zad zaC (dR (dOp gIx (zab 0) (dC (.int 0))) dR0))) Z0=.ok (!isW a,Z0):=zaP (zaM (zc1 (d:=a) rfl (zcd a)));cases hn:zo9 a with
  |none =>
   refine ⟨false,zao (Z':=Z0) rfl ?_ rfl,by simp[bad (.inl hn)]⟩;show zaI Z0=_;unfold zaI;refine out _ ?_ _;rw[zck,zbc t1];cases hw:isW a with
   |false=>rw[hw] at w1;rw[zdG w1]
   |true =>
    rw[hw] at w1;rw[zbc w1];obtain ⟨i,rfl⟩ : ∃ i,a=.int i:=by
     unfold isW at hw;split at hw
     ·exact ⟨_,rfl⟩
     ·cases hw
    have hc:(decide (1<=i) && decide (i<=7))=false:=by
     cases e:(decide (1<=i) && decide (i<=7)) with
     |false=>rfl
     |true =>
      simp only[wae,war] at e;unfold zo9 at hn;simp only at hn;rw[if_pos e] at hn;cases hn
    have:=zlK (fa:=dC (.int 1)) (fb:=dOp gIx (zab 0) (dC (.int 0))) (fc:=dC (.int 7)) (Z:=Z0) (i:=1) (j:=i) (k:=7) rfl rfl rfl;rw[hc] at this;exact zaP (b:=false) (zaM this)
  |some n =>
   obtain ⟨rfl,h1,h7⟩:=zmX hn;rw[show isW (.int (n:Int))=true from rfl] at w1;have c1:za2 (dTB (zdE gLe gLe (dC (.int 1)) (dOp gIx (zab 0) (dC (.int 0))) (dC (.int 7)))) Z0=.ok (false,Z0):=by have:=zlK (fa:=dC (.int 1)) (fb:=dOp gIx (zab 0) (dC (.int 0))) (fc:=dC (.int 7)) (Z:=Z0) (i:=1) (j:=n) (k:=7) rfl rfl rfl;rw[decide_eq_true (show (1:Int)<=(n:Int) by lia),decide_eq_true (show (n:Int)<=7 by lia)] at this;exact zaP (b:=true) (zaM this)
   have e1:(zcw (za2 (dTB (zcU "tuple" (zab 0)))) (zcw (dTB (dOp (gEq true) (dFn zby (dA (zab 0) dA0)) (dC (.int 2)))) (zcw (za2 (dTB (zad zaC (dR (dOp gIx (zab 0) (dC (.int 0))) dR0)))) (za2 (dTB (zdE gLe gLe (dC (.int 1)) (dOp gIx (zab 0) (dC (.int 0))) (dC (.int 7)))))))) Z0=.ok (false,Z0):=by rw[zck,zbc t1,zbc w1];exact c1
   have x1:dOp gIx (zab 0) (dC (.int 1)) Z0=.ok (t,Z0):=rfl;have i1:za2 (dTB (zcU "tuple" (dOp gIx (zab 0) (dC (.int 1))))) Z0=.ok (!isT t,Z0):=zaP (zaM (by rw[<- zrj];unfold zcU;rw[x1];rfl))
   cases ht:isT t with
   |false =>
    rw[ht] at i1;refine ⟨false,zao (Z':=Z0) rfl ?_ rfl,by simp[bad (.inr ht)]⟩;show zaI Z0=_;unfold zaI;rw[zam (Z1:=Z0) (by rw[zbO e1];rfl)];exact out _ i1 _
   |true =>
    rw[ht] at i1;obtain ⟨ts,rfl⟩:=ziC ht;obtain ⟨l1,l2⟩:=hl _ ts rfl;let mk:Option B->Ev:=λo=>[some (.val (.tup [.int n,.tup ts])),o]
    obtain ⟨o',ef⟩:=zig (g:=gB n) (i:=1) (mk:=mk) (body:=(dIf (zcw (za2 (dTB (zcU "tuple" (zab 1)))) (zcw (dTB (dOp (gEq true) (dFn zby (dA (zab 1) dA0)) (dC (.int 2)))) (za2 (dTB (dFn zhk (dA (dFz (za9 (dIt (zab 1)) (zbg 2) dTT (zad zbm (dR (dOp gIx (zab 0) (dC (.int 0))) (dR (zab 2) dR0))) 1)) dA0)))))) (zbp (dC (.bl false))) dNx)) (λd o=>rfl) ts none (λx hx=>by
     have tx:=zfp (i:=1) (Z:=mk (some (.val x))) (d:=x) rfl;cases hx2:two x with
     |false =>
      rw[hx2] at tx;rw[zc9 (by rw[zck,zdG tx]),if_neg (by unfold gB;rw[hx2];simp)];rfl
     |true =>
      rw[hx2] at tx;obtain ⟨p,q,rfl⟩:=zds hx2;have hc:za9 (dIt (zab 1)) (zbg 2) dTT (zad zbm (dR (dOp gIx (zab 0) (dC (.int 0))) (dR (zab 2) dR0))) 1 (mk (some (.val (.tup [p,q]))))=.ok ([p,q].map λx=>.bl (isG n x),mk (some (.val (.tup [p,q])))):=by
       refine zc5 (l:=[p,q]) (u:=id) (f:=λx=>.bl (isG n x)) (ds:=[p,q]) rfl (by rw[List.map_id]) xws (λx hx=>?_) rfl;let Z2:Ev:=mk (some (.val (.tup [p,q])))++[some (.val x)]
       exact zfi (Z:=Z2) (Z':=Z2) (Z'':=Z2) rfl rfl (zh9 n x)
      have ea:za2 (dTB (dFn zhk (dA (dFz (za9 (dIt (zab 1)) (zbg 2) dTT (zad zbm (dR (dOp gIx (zab 0) (dC (.int 0))) (dR (zab 2) dR0))) 1)) dA0))) (mk (some (.val (.tup [p,q]))))=.ok (!zoj n (.tup [p,q]),mk (some (.val (.tup [p,q])))):=zaP (zaM (zbZ (zbI hc) (zj2 _ _)));unfold gB;rw[hx2,Bool.true_and];cases hb:zoj n (.tup [p,q]) with
      |false=>rw[hb] at ea;rw[zc9 (by rw[zck,zbc tx];exact ea)];rfl
      |true=>rw[hb] at ea;rw[zbO (by rw[zck,zbc tx];exact ea)];rfl)
    have ed:zhj (dIt (dOp gIx (zab 0) (dC (.int 1)))) (zbg 1) (dIf (zcw (za2 (dTB (zcU "tuple" (zab 1)))) (zcw (dTB (dOp (gEq true) (dFn zby (dA (zab 1) dA0)) (dC (.int 2)))) (za2 (dTB (dFn zhk (dA (dFz (za9 (dIt (zab 1)) (zbg 2) dTT (zad zbm (dR (dOp gIx (zab 0) (dC (.int 0))) (dR (zab 2) dR0))) 1)) dA0)))))) (zbp (dC (.bl false))) dNx) Z0=if ts.all (gB n)=true then .ok (.nx,mk o') else .ok (.rt (.bl false),mk o'):=by rw[<- ef];rfl
    cases hall:ts.all (gB n) with
    |false =>
     rw[hall] at ed;refine ⟨false,zao (Z':=mk o') rfl ?_ rfl,?_⟩
     ·show zaI Z0=_;unfold zaI;rw[zam (Z1:=Z0) (by rw[zbO e1];rfl),zam (Z1:=Z0) (by rw[zbO i1];rfl)];exact zb8 ed
     ·simp only[Bool.false_eq_true,false_iff];rintro ⟨m,L,e,_,_,hL,_⟩;unfold zbQ at e;injection e with e;injection e with e1 e2;injection e2 with e2 _;injection e1 with e1;injection e2 with e2;have:n=m:=by lia
      subst this e2;rw[ztf hL] at hall;cases hall
    |true =>
     rw[hall] at ed;obtain ⟨L,rfl⟩:=zqZ hall;have hc:za9 (dIt (zad zbr (dR (dOp gIx (zab 0) (dC (.int 0))) dR0))) (zbg 2) (dTB (dOp (gIn false) (zab 2) (dOp gIx (zab 0) (dC (.int 1))))) (zab 2) 1 (mk o')=.ok ((((prs n).map tz).filter λx=>inD x (L.map tz)).map id,mk o'):=by
      refine zda ?_ rfl (by rw[List.length_map];have:=zdS h7;lia) (λx hx=>?_) (λx hx _=>rfl)
      ·have e1:=zc1 (F:=zbr) (fa:=dOp gIx (zab 0) (dC (.int 0))) (Z:=mk o') (Z':=mk o') (d:=.int n) rfl (zgW h7);unfold dIt;rw[e1];rfl
      ·obtain ⟨p,hp,rfl⟩:=List.mem_map.mp hx;refine zaM (zat (d:=tz p) (e:=.tup (L.map tz)) rfl rfl ?_);unfold gIn;simp only;rw[if_pos (by rw[(zm4 p).2,(zkI L).2.2];rfl)];rfl
     have ef:((prs n).map tz).filter (λx=>inD x (L.map tz))=((prs n).filter λp=>decide (p∈L)).map tz:=by rw[List.filter_map];exact congrArg (List.map tz) (List.filter_congr λp _=>ztR p L)
     rw[List.map_id,ef] at hc;have el:dFz (ze8 zel (dA (dOp gIx (zab 0) (dC (.int 1))) dA0)) (mk o')=.ok (.lst (L.map tz),mk o'):=rfl;refine ⟨L == (prs n).filter λp=>decide (p∈L),zao (Z':=mk o') rfl ?_ rfl,?_⟩
     ·show zaI Z0=_;unfold zaI;rw[zam (Z1:=Z0) (by rw[zbO e1];rfl),zam (Z1:=Z0) (by rw[zbO i1];rfl),zam ed];refine zbv (zat el (zbI hc) ?_);rw[zdr (zkI _).1 (zkI _).1,eqD,ziB];rfl
     ·rw[beq_iff_eq,zi5 h7];constructor
      ·rintro ⟨h,h'⟩;exact ⟨n,L,rfl,h1,h7,h,h'⟩
      ·rintro ⟨m,M,e,_,_,h,h'⟩;obtain ⟨rfl,rfl⟩:=zhT (n:=n) e;exact ⟨h,h'⟩
theorem ztB(n:Nat)(L:List (List Int))(h:L.length<=1000)(h2:∀ p∈L,p.length<=1000):LW (zbQ n L):=λa ts e=>by unfold zbQ at e;injection e with e;injection e with _ e;injection e with e _;injection e with e;subst e;refine ⟨by rw[List.length_map];exact h,λt ht l el=>?_⟩;obtain ⟨p,hp,rfl⟩:=List.mem_map.mp ht;unfold tz at el;injection el with el;rw[<- el,List.length_map];exact h2 p hp
theorem zlj{d:Dt}(h:zdx d):LW d:=by
 obtain ⟨n,L,rfl,h1,h7,hL,hp⟩:=h;refine ztB n L ?_ λp hp=>?_
 ·have:L.Sublist (prs n):=by rw[(zi5 h7).mpr ⟨hL,hp⟩];exact List.filter_sublist
  have:=this.length_le;have:=zdS h7;lia
 ·obtain ⟨i,j,rfl,_⟩:=zdi.mp (hL p hp);simp
theorem znp{d:Dt}(h:zdx d):zbN [.val d]=.ok (.non,[.val .non]):=by obtain ⟨b,e,hb⟩:=zgs (zlj h);rw[hb.mpr h] at e;refine znP (Z':=[some (.val d)]) rfl ?_ rfl;show zcf [some (.val d)]=_;unfold zcf;rw[zbO (Z1:=[some (.val d)]) (zaP (b:=true) (zaM (zc1 rfl e)))];rfl
theorem zpS{d:Dt}(hl:LW d)(h:¬ zdx d):zbN [.val d]=.er 6:=by
 obtain ⟨b,e,hb⟩:=zgs hl;have:b=false:=by
  cases b with
  |false=>rfl
  |true=>exact absurd (hb.mp rfl) h
 subst this;have:zcf [some (.val d)]=.er 6:=by unfold zcf;rw[zc9 (Z1:=[some (.val d)]) (zaP (b:=false) (zaM (zc1 rfl e)))];rfl
 unfold zbN zas;show (match zcf [some (.val d)] with|_=>_)=_;simp[zbG,zll,this]
noncomputable def stB:Dt->Bool
 |.tup [.int a,.int b]=>decide (a<=b)
 |_=>false
theorem znQ:∀{xs:List Dt},xs.all stB=true->∃ l:List (Int×Int),xs=l.map pz
 |[],_=>⟨[],rfl⟩
 |d::xs,h=>by
  rw[List.all_cons,Bool.and_eq_true] at h;obtain ⟨l,rfl⟩:=znQ h.2;have h1:=h.1;unfold stB at h1;split at h1
  ·rename_i a b;exact ⟨(a,b)::l,rfl⟩
  ·cases h1
theorem ziD{d:Dt}(h:isW d=true):∃ i,d=.int i:=by
 unfold isW at h;split at h
 ·exact ⟨_,rfl⟩
 ·cases h
theorem zoc{d:Dt}(h:two d=false):stB d=false:=by
 cases e:stB d with
 |false=>rfl
 |true =>
  unfold stB at e;split at e
  ·cases h
  ·cases e
theorem zpw{a b:Dt}(h:isW a=false\/isW b=false):stB (.tup [a,b])=false:=by
 cases e:stB (.tup [a,b]) with
 |false=>rfl
 |true =>
  unfold stB at e;split at e
  ·rename_i hx;cases hx;rcases h with h|h <;> cases h
  ·cases e
theorem zjk(d:Dt):zbR [.val d]=.ok (.bl (stB d),[.val .non]):=by
 let Z0:Ev:=[some (.val d)]
 have t1:=zfp (i:=0) (Z:=Z0) (d:=d) rfl;refine zao (Z':=Z0) rfl ?_ rfl;show zeb Z0=_;unfold zeb;cases h2:two d with
 |false =>
  rw[h2] at t1;rw[zoc h2];exact zb8 (by rw[zc9 t1];rfl)
 |true =>
  rw[h2] at t1;obtain ⟨a,b,rfl⟩:=zds h2;rw[zam (Z1:=Z0) (by rw[zbO t1];rfl)];refine zbv ?_;have w1:zad zaV (dR (dOp gIx (zab 0) (dC (.int 0))) dR0) Z0=.ok (.bl (isW a),Z0):=zc1 (d:=a) rfl (zcd a);have w2:zad zaV (dR (dOp gIx (zab 0) (dC (.int 1))) dR0) Z0=.ok (.bl (isW b),Z0):=zc1 (d:=b) rfl (zcd b);cases ha:isW a with
  |false=>rw[zpw (.inl ha)];rw[ha] at w1;unfold zeX;rw[w1];rfl
  |true =>
   rw[ha] at w1;cases hb:isW b with
   |false=>rw[zpw (.inr hb)];rw[hb] at w2;exact zeh (b:=false) w1 λ_=>by unfold zeX;rw[w2];rfl
   |true =>
    rw[hb] at w2;obtain ⟨i,rfl⟩:=ziD ha;obtain ⟨j,rfl⟩:=ziD hb;exact zeh (b:=decide (i<=j)) w1 λ_=>zeh (b:=decide (i<=j)) w2 λ_=>rfl
theorem zqY(n:Nat)(L:List (List Int)):okN 60 (zbQ n L)=true:=by
 have h:(L.map tz).all (okN 58)=true:=by rw[List.all_eq_true];intro d hd;obtain ⟨p,_,rfl⟩:=List.mem_map.mp hd;unfold tz okN;exact zjA p 57
 show (true && (((L.map tz).all (okN 58)) && true))=true;rw[h];rfl
theorem ztG(n m:Nat)(L M:List (List Int)):eqD (zbQ n L) (zbQ m M)=((n == m) && (L == M)):=by
 unfold zbQ;rw[eqD,zfh,eqI,zfh,eqD,ziB,zfh];have:((n:Int) == (m:Int))=(n == m):=by rw[Bool.eq_iff_iff,beq_iff_eq,beq_iff_eq];lia
 rw[this,Bool.and_true]
theorem zm6{n:Nat}{L:List (List Int)}{d:Dt}(hw:zdx (zbQ n L))(hn:n<=7)(hl:∀ xs,d=.tup xs->xs.length<=1000) :
  ∃ b,zaG [.val (zbQ n L),.val d]=.ok (.bl b,[.val .non,.val .non])/\zbS [.val (zbQ n L),.val d]=.ok (.bl b,[.val .non,.val .non]):=by
 let ρA:Ev:=[some (.val (zbQ n L)),some (.val d)]
 let ρB:Ev:=[some (.val (zbQ n L)),some (.val d),none]
 have eA:zaW ρA=(zaE (dIf (zcw (za2 (dTB (zcU "tuple" (zab 1)))) (zcw (dTB (dOp (gEq true) (dFn zby (dA (zab 1) dA0)) (dOp gIx (zab 0) (dC (.int 0))))) (za2 (dTB (dFn zhk (dA (dFz (za9 (dIt (zab 1)) (zbg 2) dTT (zad zbR (dR (zab 2) dR0)) 1)) dA0)))))) (zbp (dC (.bl false))) dNx) (zbp (dOp (gEq false) (zad zdC (dR (zab 1) dR0)) (zab 0)))) ρA:=by unfold zaW;rw[zam (Z1:=ρA) (zon (zc1 rfl (znp hw)))]
 have iA:=zaP (zaM (ziz (i:=1) (Z:=ρA) (d:=d) rfl));have iB:=zaP (zaM (ziz (i:=1) (Z:=ρB) (d:=d) rfl));cases ht:isT d with
 |false =>
  rw[ht] at iA iB;refine ⟨false,zao (Z':=ρA) rfl ?_ rfl,zao (Z':=ρB) rfl ?_ rfl⟩
  ·show zaW ρA=_;rw[eA];exact zb8 (by rw[zc9 (Z1:=ρA) (by rw[zdG iA])];rfl)
  ·show zbe ρB=_;unfold zbe;exact zb8 (by rw[zc9 (Z1:=ρB) (by rw[zdG iB])];rfl)
 |true =>
  rw[ht] at iA iB;obtain ⟨xs,rfl⟩:=ziC ht;have hx:=hl xs rfl;have hlen:∀ Z:Ev,Z[0]? = some (some (.val (zbQ n L)))->Z[1]? = some (some (.val (.tup xs)))->dTB (dOp (gEq true) (dFn zby (dA (zab 1) dA0)) (dOp gIx (zab 0) (dC (.int 0)))) Z=.ok (!(xs.length == n),Z):=λZ h0 h1=>by refine zaM (zat (d:=.int xs.length) (e:=.int n) (zbZ (d:=.tup xs) (zly h1) (by simp[zby])) (zat (d:=zbQ n L) (zly h0) rfl rfl) ?_);rw[zsE];refine congrArg (λb=>R.ok (Dt.bl b)) (congrArg not ?_);rw[Bool.eq_iff_iff,beq_iff_eq,beq_iff_eq];lia
  have lA:=hlen ρA rfl rfl;have lB:=hlen ρB rfl rfl;cases hq:(xs.length == n) with
  |false =>
   rw[hq] at lA lB;refine ⟨false,zao (Z':=ρA) rfl ?_ rfl,zao (Z':=ρB) rfl ?_ rfl⟩
   ·show zaW ρA=_;rw[eA];exact zb8 (by rw[zc9 (Z1:=ρA) (by rw[zbc iA,zdG lA])];rfl)
   ·show zbe ρB=_;unfold zbe;exact zb8 (by rw[zc9 (Z1:=ρB) (by rw[zbc iB];exact lB)];rfl)
  |true =>
   rw[hq] at lA lB;have hxn:xs.length=n:=eq_of_beq hq;have hc:za9 (dIt (zab 1)) (zbg 2) dTT (zad zbR (dR (zab 2) dR0)) 1 ρA=.ok (xs.map λx=>.bl (stB x),ρA):=by
    refine zc5 (l:=xs) (u:=id) (f:=λx=>.bl (stB x)) (ds:=xs) rfl (by rw[List.map_id]) hx (λx hx=>?_) rfl;let Z2:Ev:=ρA++[some (.val x)]
    exact zc1 (Z:=Z2) (Z':=Z2) rfl (zjk x)
   have aA:za2 (dTB (dFn zhk (dA (dFz (za9 (dIt (zab 1)) (zbg 2) dTT (zad zbR (dR (zab 2) dR0)) 1)) dA0))) ρA=.ok (!xs.all stB,ρA):=zaP (zaM (zbZ (zbI hc) (zj2 _ _)));let mk:Option B->Ev:=λo=>[some (.val (zbQ n L)),some (.val (.tup xs)),o]
   obtain ⟨o',ef⟩:=zig (g:=stB) (i:=2) (mk:=mk) (body:=(zaE (dIf (zcw (za2 (dTB (zcU "tuple" (zab 2)))) (zcw (dTB (dOp (gEq true) (dFn zby (dA (zab 2) dA0)) (dC (.int 2)))) (zcw (za2 (dTB (zad zaC (dR (dOp gIx (zab 2) (dC (.int 0))) dR0)))) (za2 (dTB (zad zaC (dR (dOp gIx (zab 2) (dC (.int 1))) dR0))))))) (zbp (dC (.bl false))) dNx) (dIf (dTB (dOp gLt (dOp gIx (zab 2) (dC (.int 1))) (dOp gIx (zab 2) (dC (.int 0))))) (zbp (dC (.bl false))) dNx))) (λd o=>rfl) xs none (λx hx=>by
    let Z1:=mk (some (.val x));have tx:=zfp (i:=2) (Z:=Z1) (d:=x) rfl;cases hx2:two x with
    |false =>
     rw[hx2] at tx;rw[if_neg (by rw[zoc hx2];simp)];exact zb8 (by rw[zc9 (Z1:=Z1) (by rw[zck,zdG tx])];rfl)
    |true =>
     rw[hx2] at tx;obtain ⟨a,b,rfl⟩:=zds hx2;have w1:za2 (dTB (zad zaC (dR (dOp gIx (zab 2) (dC (.int 0))) dR0))) Z1=.ok (!isW a,Z1):=zaP (zaM (zc1 (d:=a) rfl (zcd a)));have w2:za2 (dTB (zad zaC (dR (dOp gIx (zab 2) (dC (.int 1))) dR0))) Z1=.ok (!isW b,Z1):=zaP (zaM (zc1 (d:=b) rfl (zcd b)));cases ha:isW a with
     |false =>
      rw[ha] at w1;rw[if_neg (by rw[zpw (.inl ha)];simp)];exact zb8 (by rw[zc9 (Z1:=Z1) (by rw[zck,zbc tx,zdG w1])];rfl)
     |true =>
      rw[ha] at w1;cases hb:isW b with
      |false =>
       rw[hb] at w2;rw[if_neg (by rw[zpw (.inr hb)];simp)];exact zb8 (by rw[zc9 (Z1:=Z1) (by rw[zck,zbc tx,zbc w1];exact w2)];rfl)
      |true =>
       rw[hb] at w2;obtain ⟨i,rfl⟩:=ziD ha;obtain ⟨j,rfl⟩:=ziD hb;rw[zam (Z1:=Z1) (by rw[zbO (Z1:=Z1) (by rw[zck,zbc tx,zbc w1];exact w2)];rfl)];have g:dTB (dOp gLt (dOp gIx (zab 2) (dC (.int 1))) (dOp gIx (zab 2) (dC (.int 0)))) Z1=.ok (decide (j<i),Z1):=rfl;show _=if decide (i<=j)=true then _ else _
       by_cases hij:i<=j
       ·rw[decide_eq_false xwl] at g;rw[zbO g,if_pos (by simpa using hij)];rfl
       ·rw[decide_eq_true xwl] at g;rw[zc9 g,if_neg (by simpa using hij)];rfl)
   have eB:∀ zbo:DS,zbe ρB=_:=λ_=>by unfold zbe;rw[zam (Z1:=ρB) (by rw[zbO (Z1:=ρB) (by rw[zbc iB];exact lB)];rfl)]
   have ed:zhj (dIt (zab 1)) (zbg 2) (zaE (dIf (zcw (za2 (dTB (zcU "tuple" (zab 2)))) (zcw (dTB (dOp (gEq true) (dFn zby (dA (zab 2) dA0)) (dC (.int 2)))) (zcw (za2 (dTB (zad zaC (dR (dOp gIx (zab 2) (dC (.int 0))) dR0)))) (za2 (dTB (zad zaC (dR (dOp gIx (zab 2) (dC (.int 1))) dR0))))))) (zbp (dC (.bl false))) dNx) (dIf (dTB (dOp gLt (dOp gIx (zab 2) (dC (.int 1))) (dOp gIx (zab 2) (dC (.int 0))))) (zbp (dC (.bl false))) dNx)) ρB=if xs.all stB=true then .ok (.nx,mk o') else .ok (.rt (.bl false),mk o'):=by rw[<- ef];rfl
   cases hall:xs.all stB with
   |false =>
    rw[hall] at aA ed;refine ⟨false,zao (Z':=ρA) rfl ?_ rfl,zao (Z':=mk o') rfl ?_ rfl⟩
    ·show zaW ρA=_;rw[eA];exact zb8 (by rw[zc9 (Z1:=ρA) (by rw[zbc iA,zbc lA];exact aA)];rfl)
    ·show zbe ρB=_;rw[eB dNo];exact zb8 ed
   |true =>
    rw[hall] at aA ed;obtain ⟨l,rfl⟩:=znQ hall;rw[List.length_map] at hxn;have hl7:l.length<=7:=by lia
    refine ⟨zcm l == L,zao (Z':=ρA) rfl ?_ rfl,zao (Z':=mk o') rfl ?_ rfl⟩
    ·show zaW ρA=_;rw[eA,zam (Z1:=ρA) (by rw[zbO (Z1:=ρA) (by rw[zbc iA,zbc lA];exact aA)];rfl)];refine zbv (zat (zc1 (d:=.tup (l.map pz)) rfl (zg7 (.inr rfl) hl7)) rfl ?_);rw[zdr (zqY _ _) (zqY _ _),ztG,hxn];simp
    ·show zbe ρB=_;rw[eB dNo,zam ed];refine zbv (zat (zc1 (d:=.tup (l.map pz)) rfl (zgz (.inr rfl) hl7)) (zat (d:=zbQ n L) rfl rfl rfl) ?_);rw[zdr (zkI _).2.1 (zkI _).2.1,eqD,ziB];rfl
theorem zdV{nw:Bool}{ks:List Bool}{m n:Nat}{body:DS}{bs:List B}(hk:zbG bs=ks)(hb:body (bs.map some++List.replicate m none)=.er n):zas nw ks m body bs=.er n:=by unfold zas;rw[if_pos hk,hb];rfl
theorem zcX{F:FD}{fa:De}{Z Z':Ev}{d:Dt}{n:Nat}(h:fa Z=.ok (d,Z'))(hF:F [.val d]=.er n):zad F (dR fa dR0) Z=.er n:=by unfold zad dR dR0;rw[h];simp only[R.bind_ok];show (F [.val d]).bind _=_;rw[hF];rfl
theorem zjq{f g:DS}{Z:Ev}{n:Nat}(h:f Z=.er n):zaE f g Z=.er n:=by unfold zaE;rw[h];rfl
theorem zss{f:De}{Z:Ev}{n:Nat}(h:f Z=.er n):dEx f Z=.er n:=by unfold dEx;rw[h];rfl
theorem zqQ{f:De}{i:Nat}{Z:Ev}{n:Nat}(h:f Z=.er n):zbd i f Z=.er n:=by unfold zbd;rw[h];rfl
theorem zow{d:Dt}(hl:LW d)(h:¬ zdx d):zax [.val d,.tab zhB]=.ok (.bl true,[.val .non,.tab zhB]):=by
 have c:=zpS hl h;have e1:zf0 [.val d]=.er 6:=zdV rfl (zjq (zss (zcX (Z:=[some (.val d)]) rfl c)));have e2:zb6 [.val d]=.er 6:=zdV rfl (zjq (zqQ (zcX (Z:=[some (.val d),none]) rfl e1)));have e3:zdd [.val d]=.er 6:=zdV rfl (zjq (zqQ (zcX (Z:=[some (.val d),none,none,none]) rfl e2)));have e4:ze7 [.val d,.val .non]=.er 6:=zdV rfl (zjq (zss (zcX (Z:=[some (.val d),some (.val .non)]) rfl c)));have e5:zaG [.val d,.val .non]=.er 6:=zdV rfl (zjq (zss (zcX (Z:=[some (.val d),some (.val .non)]) rfl c)));let Z0:Ev:=[some (.val d),some (.tab zhB),none]
 refine zao (Z':=Z0) rfl ?_ rfl;show zb0 Z0=_;unfold zb0 zik;show (if zhB=zhB/\6<8/\_ then _ else _)=_;let ρv:Ev:=[some (.val d),none,none]
 have r1:zmI 6 (zad zf0 (dR (zab 0) dR0) ρv)=true:=by rw[zcX rfl e1];rfl
 have r2:zmI 6 (zad zb6 (dR (zab 0) dR0) ρv)=true:=by rw[zcX rfl e2];rfl
 have r3:zmI 6 (zad zdd (dR (zab 0) dR0) ρv)=true:=by rw[zcX rfl e3];rfl
 have r4:zmI 6 (zad ze7 (dR (zab 0) (dR (dC .non) dR0)) ρv)=true:=by rw[zl4 (d:=d) (e:=.non) rfl rfl e4];rfl
 have r5:zmI 6 (zad zaG (dR (zab 0) (dR (dC .non) dR0)) ρv)=true:=by rw[zl4 (d:=d) (e:=.non) rfl rfl e5];rfl
 exact if_pos ⟨rfl,xwd,r1,r2,r3,r4,r5⟩
noncomputable def zrB:DS:=(zaE (zbd 4 (dOp zhp (zad zae (dRO 0 (dR (dC (.int 9)) dR0))) (dC (.int 4)))) (dEx (zhm 2 (zbK (dA (zab 4) (dA (dOp zbt (zab 4) (zad zae (dRO 0 (dR (dC (.int 5)) dR0)))) dA0))))))
theorem zeD{m:Nat}(hm:m<=7){st:List Dt}(hs:St st):∃(l:List (Int×Int))(st':List Dt),St st'/\l.length=m/\zaB [.own st,.val (.int m)]=.ok (.tup (l.map pz),[.own st',.val .non]):=by
 let M:Option B:=some (.val (.int (m:Nat)));let I:List Nat->Ev->Prop:=λdn Z=>∃(l:List (Int×Int))(st:List Dt)(o3 o4:Option B),St st/\l.length=dn.length/\Z=[some (.own st),M,some (.own (l.map pz)),o3,o4]
 obtain ⟨Z',⟨l,st',o3,o4,hs',hl,rfl⟩,e⟩:=zh7 (fi:=zbV (zab 1)) (g:=zbg 3) (body:=zrB) (I:=I) (l:=List.range m) (u:=λk:Nat=>Dt.int k) (Z:=[some (.own st),M,some (.own []),none,none]) (Z0:=[some (.own st),M,some (.own []),none,none])
  (zi7 rfl xwl) (by unfold zaX;refine List.map_congr_left λk _=>?_;rw[Int.zero_add]) ⟨[],st,none,none,hs,rfl,rfl⟩ (λdn i zbo hdn Z ⟨l,st,o3,o4,hs,hl,ho⟩=>by
   subst ho;have hdl:dn.length<=7:=by have:=congrArg List.length hdn;simp at this;lia
   obtain ⟨v,st1,e1,hs1,_,_⟩:=zaZ (m:=9) hs xwd xwd;obtain ⟨w,st2,e2,hs2,_,_⟩:=zaZ (m:=5) hs1 xwd xwd;let L:Option B:=some (.own (l.map pz));let I3:Option B:=some (.val (.int i));refine ⟨[some (.own st),M,L,I3,o4],[some (.own st2),M,some (.own ((l++[(v-4,v-4+w)]).map pz)),I3,some (.val (.int (v-4)))],rfl,?_,l++[(v-4,v-4+w)],st2,_,_,hs2,by simp[hl],rfl⟩;unfold zrB;have s1:zbd 4 (dOp zhp (zad zae (dRO 0 (dR (dC (.int 9)) dR0))) (dC (.int 4))) [some (.own st),M,L,I3,o4]=.ok (.nx,[some (.own st1),M,L,I3,some (.val (.int (v-4)))]) :=
    zaS (i:=4) (Z1:=[some (.own st1),M,L,I3,o4]) (zat (zfC (zbo:=[M,L,I3,o4]) e1 rfl) rfl rfl) (show 4<5 by decide)
   rw[zam s1];refine zon (d:=.non) ?_;have a:=ztK (i:=2) (fa:=(zbK (dA (zab 4) (dA (dOp zbt (zab 4) (zad zae (dRO 0 (dR (dC (.int 5)) dR0)))) dA0)))) (Z:=[some (.own st1),M,L,I3,some (.val (.int (v-4)))]) (Z1:=[some (.own st2),M,L,I3,some (.val (.int (v-4)))]) (l0:=l.map pz) (ds:=l.map pz) (d:=pz (v-4,v-4+w)) rfl
    (zg9 (zbz rfl (zbz (zat rfl (zfC e2 rfl) rfl) rfl)) xws) rfl (by rw[List.length_map];lia)
   rw[a,List.map_append];rfl)
 refine ⟨l,st',hs',by simpa using hl,zao (Z':=[some (.own st'),M,some (.val (.lst (l.map pz))),o3,o4]) rfl ?_ rfl⟩;show zcx [some (.own st),M,none,none,none]=_;unfold zcx;unfold zrB at e;rw[zam (Z1:=[some (.own st),M,some (.own []),none,none]) rfl,zam e];rfl
theorem zfY{D:List Dt}{u:Int}(h0:0<=u)(h1:u<D.length):∃ d∈D,gIx (.lst D) (.int u)=.ok d:=by
 have hl:u.toNat<D.length:=by lia
 exact ⟨D[u.toNat],List.getElem_mem hl,zoh h0 h1 (wac hl)⟩
theorem zq4{u:Int}(h:0<=u):∃ i:Nat,u=i:=⟨u.toNat,xwl⟩
noncomputable def Sm(d:Dt):Prop:=∀ xs,d=.tup xs->xs.length<=1000
theorem zff{xs:List Dt}(h:xs.length<=1000):Sm (.tup xs):=λys e=>by cases e;exact h
theorem zf1{f:DA}{Z Z1:Ev}{ds:List Dt}(h:f Z=.ok (ds,Z1))(hl:ds.length<=1000):dFz (zbL f) Z=.ok (.lst ds,Z1):=zbI (zsh h xwl)
theorem zkg{l:List (Int×Int)}(h1:1<=l.length)(h7:l.length<=7){st:List Dt}(hs:St st):∃(d:Dt)(st':List Dt),St st'/\Sm d/\zaQ [.own st,.val (.tup (l.map pz))]=.ok (d,[.own st',.val .non]):=by
 let S:Option B:=some (.val (.tup (l.map pz)));have hlen:∀(o:Option B)(r:Ev),dFn zby (dA (zab 1) dA0) (o::S::r)=.ok (.int l.length,o::S::r):=λo r=>zbZ (d:=.tup (l.map pz)) rfl (by simp[zby]);obtain ⟨v,st1,e1,hs1,v0,v1⟩:=zaZ (m:=l.length) hs xwl xwl;obtain ⟨i,rfl⟩:=zq4 v0;obtain ⟨u,st2,e2,hs2,u0,u1⟩:=zaZ (m:=10) hs1 xwd xwd;obtain ⟨x,st3,e3,hs3,x0,x1⟩:=zaZ (m:=10) hs2 xwd xwd;let a:=(atP l i).1;let b:=(atP l i).2;let D1:List Dt:=[.tup [.int a,.int (b+1)],.tup [.int (a-1),.int b],.tup [.int (a+9),.int (b+9)],.tup [.int (b+1),.int a],.tup [.int a,.bl true],.lst [.int a,.int b],.tup [.int a]]
 let D2:List Dt:=[.non,.tup [.int a,.int b,.int 0],.tup [.str (Str.ofString "0"),.int b]]
 obtain ⟨od,_,hod⟩:=zfY (D:=D1++D2) u0 (show u<10 from u1);let V2:Option B:=some (.val (.int (i:Nat)));let V3:Option B:=some (.val (.int a));let V4:Option B:=some (.val (.int b));let xs:=l.map pz;have xl:xs.length<=7:=by show (l.map pz).length<=7;rw[List.length_map];exact h7
 let c1:=ziX xs none (some (i:Int));let c2:=ziX xs (some ((i:Int)+1)) none;have k1:c1.length<=7:=waO zeU xl;have k2:c2.length<=7:=waO zeU xl;let D3:List Dt:=[.tup (c1++[od]++c2),.tup (ziX xs none (some (-1))),.tup (xs++[.tup [.int 0,.int 0]]),.lst xs,.non,.tup xs.reverse,.dct []]
 have hD3:∀ d∈D3,Sm d:=λd hd=>by
  simp only[D3,wap,wak,or_false] at hd;rcases hd with rfl|rfl|rfl|rfl|rfl|rfl|rfl
  ·exact zff (by simp;lia)
  ·exact zff (by have:=zeU (l:=xs) (lo:=none) (hi:=some (-1));lia)
  ·exact zff (by simp;lia)
  ·exact λ_ e=>by cases e
  ·exact λ_ e=>by cases e
  ·exact zff (by simp;lia)
  ·exact λ_ e=>by cases e
 let C:List Dt:=[.int 0,.int 0,.int 0,.int 0,.int 1,.int 2,.int 3,.int 4,.int 5,.int 6]
 obtain ⟨cd,hcd,hci⟩:=zfY (D:=C) x0 (show x<10 from x1);obtain ⟨c,rfl,c0,c6⟩ : ∃ c:Int,cd=.int c/\0<=c/\c<7:=by simp only[C,wap,wak,or_false] at hcd;rcases hcd with rfl|rfl|rfl|rfl|rfl|rfl|rfl|rfl|rfl|rfl <;> exact ⟨_,rfl,xwd,xwd⟩
 obtain ⟨d,hd,hdi⟩:=zfY (D:=D3) c0 (show c<7 from c6);let Z4:Ev:=[some (.own st2),S,V2,V3,V4,some (.val od),none]
 let Z5:Ev:=[some (.own st2),S,V2,V3,V4,some (.val od),some (.val (.lst D3))]
 refine ⟨d,st3,hs3,hD3 d hd,zao (Z':=[some (.own st3),S,V2,V3,V4,some (.val od),some (.val (.lst D3))]) rfl ?_ rfl⟩;show zeW [some (.own st),S,none,none,none,none,none]=_;unfold zeW;have s1:zbd 2 (zad zae (dRO 0 (dR (dFn zby (dA (zab 1) dA0)) dR0))) [some (.own st),S,none,none,none,none,none]=.ok (.nx,[some (.own st1),S,V2,none,none,none,none]) :=
  zaS (i:=2) (Z1:=[some (.own st1),S,none,none,none,none,none]) (zfC (zbo:=[S,none,none,none,none,none]) e1 (hlen _ _)) (show 2<7 by decide)
 rw[zam s1];have s2:zuu (dOp gIx (zab 1) (zab 2)) (zdL 3 4) [some (.own st1),S,V2,none,none,none,none]=.ok (.nx,[some (.own st1),S,V2,V3,V4,none,none]):=by have g:dOp gIx (zab 1) (zab 2) [some (.own st1),S,V2,none,none,none,none]=.ok (pz (atP l i),[some (.own st1),S,V2,none,none,none,none]):=zat rfl rfl (SqD.ix (.inr rfl) xwl);unfold zuu;rw[g];rfl
 rw[zam s2];rw[zam (Z1:=[some (.own st1),S,V2,V3,V4,some (.val (.lst D1)),none]) rfl];have s4:zbd 5 (dOp gIx (dFz (zgp (zab 5) (dFz (zbL (dA (dC .non) (dA (zbK (dA (zab 3) (dA (zab 4) (dA (dC (.int 0)) dA0)))) (dA (zbK (dA (dC (.str (Str.ofString "0"))) (dA (zab 4) dA0))) dA0))))))) (zad zae (dRO 0 (dR (dC (.int 10)) dR0)))) [some (.own st1),S,V2,V3,V4,some (.val (.lst D1)),none]=.ok (.nx,Z4) :=
  zaS (i:=5) (Z1:=[some (.own st2),S,V2,V3,V4,some (.val (.lst D1)),none]) (zat (d:=.lst (D1++D2)) rfl (zfC (zbo:=[S,V2,V3,V4,some (.val (.lst D1)),none]) e2 rfl) hod) (show 5<7 by decide)
 rw[zam s4];have a1:dOp zbM (dOp zbM (zcg (zab 1) dO0 (dO1 (zab 2))) (zbK (dA (zab 5) dA0))) (zcg (zab 1) (dO1 (dOp zbt (zab 2) (dC (.int 1)))) dO0) Z4=.ok (.tup (c1++[od]++c2),Z4) :=
  zat (d:=.tup (c1++[od])) (e:=.tup c2) (zat (d:=.tup c1) (e:=.tup [od]) (zd2 (ds:=xs) rfl rfl rfl) rfl (zeS (by simp;lia))) (zd2 (ds:=xs) rfl rfl rfl) (zeS (by simp;lia))
 have a2:zcg (zab 1) dO0 (dO1 (zsF (dC (.int 1)))) Z4=.ok (.tup (ziX xs none (some (-1))),Z4):=zd2 (ds:=xs) rfl rfl rfl;have a3:dOp zbM (zab 1) (dC (.tup [(.tup [(.int 0),(.int 0)])])) Z4=.ok (.tup (xs++[.tup [.int 0,.int 0]]),Z4):=zat (d:=.tup xs) rfl rfl (zeS (by simp;lia));have s5:zbd 6 (dFz (zbL (dA (dOp zbM (dOp zbM (zcg (zab 1) dO0 (dO1 (zab 2))) (zbK (dA (zab 5) dA0))) (zcg (zab 1) (dO1 (dOp zbt (zab 2) (dC (.int 1)))) dO0)) (dA (zcg (zab 1) dO0 (dO1 (zsF (dC (.int 1))))) (dA (dOp zbM (zab 1) (dC (.tup [(.tup [(.int 0),(.int 0)])]))) (dA (dFz (ze8 zel (dA (zab 1) dA0))) (dA (dC .non) (dA (znv (zab 1)) (dA (dC (.dct [])) dA0))))))))) Z4=.ok (.nx,Z5) :=
  zaS (i:=6) (Z1:=Z4) (zf1 (ds:=D3) (zbz a1 (zbz a2 (zbz a3 (zbz (d:=.lst xs) rfl (zbz rfl (zbz (d:=.tup xs.reverse) rfl (zbz rfl rfl))))))) (by show 7<=1000;decide)) (show 6<7 by decide)
 rw[zam s5];exact zbv (zat (d:=.lst D3) (e:=.int c) rfl (zat (d:=.lst C) rfl (zfC (zbo:=[S,V2,V3,V4,some (.val od),some (.val (.lst D3))]) e3 rfl) hci) hdi)
noncomputable def Tk(ts:List Dt):Prop:=ts.length<=1000/\∀ t∈ts,Sm t
theorem zjf{a:Dt}{ts:List Dt}(h:Tk ts):LW (.tup [a,.tup ts]):=λb us e=>by injection e with e;injection e with _ e;injection e with e _;injection e with e;subst e;exact ⟨h.1,λt ht=>h.2 t ht⟩
theorem znD{fa:De}{fb:DA}{Z:Ev}{x y:List Dt}(h:fa Z=.ok (.lst x,Z))(h2:fb Z=.ok (y,Z))(hl:x.length+y.length<=1000):dFz (zgp fa (dFz (zbL fb))) Z=.ok (.lst (x++y),Z):=zbI (zk0 h (zf1 h2 xwl) xwl)
theorem zmt{n:Nat}{L:List (List Int)}(hL:L.length<=100)(hp:∀ p∈L,p.length<=1000){st:List Dt}(hs:St st):∃(d:Dt)(st':List Dt),St st'/\LW d/\zb3 [.own st,.val (zbQ n L)]=.ok (d,[.own st',.val .non]):=by
 let xs:=L.map tz;have xl:xs.length=L.length:=wag _;have tx:∀ t∈xs,Sm t:=λt ht=>by obtain ⟨p,h,rfl⟩:=List.mem_map.mp ht;exact zff (by rw[List.length_map];exact hp p h)
 let W:Option B:=some (.val (zbQ n L));let V2:Option B:=some (.val (.int n));let V3:Option B:=some (.val (.tup xs));obtain ⟨v,st1,e1,hs1,v0,v1⟩:=zaZ (m:=(L.length:Int)+1) hs xwl xwl;obtain ⟨i,rfl⟩:=zq4 v0;obtain ⟨u,st2,e2,hs2,u0,u1⟩:=zaZ (m:=9) hs1 xwd xwd;obtain ⟨x,st3,e3,hs3,x0,x1⟩:=zaZ (m:=15) hs2 xwd xwd;let V4:Option B:=some (.val (.int (i:Nat)));let O:List Dt:=[.tup [.int 0,.int 0],.tup [.int 1,.int 0],.tup [.int 0,.int n],.tup [.int (-1),.int 0],.tup [.int 0,.bl true],.lst [.int 0,.int 1],.tup [.int 0,.int 1,.int 2],.tup [.int 0],.non]
 obtain ⟨od,hom,hod⟩:=zfY (D:=O) u0 (show u<9 from u1);have ho:Sm od:=by simp only[O,wap,wak,or_false] at hom;rcases hom with rfl|rfl|rfl|rfl|rfl|rfl|rfl|rfl|rfl <;> first|exact zff xwd|exact zff (by show 2<=1000;decide)|exact λ_ e=>by cases e
 let c1:=ziX xs none (some (i:Int));let c2:=ziX xs (some (i:Int)) none;let c3:=ziX xs (some ((i:Int)+1)) none;let c4:=ziX xs (some (-1)) none;have k1:c1.length<=100:=waO zeU xwl;have k2:c2.length<=100:=waO zeU xwl;have k3:c3.length<=100:=waO zeU xwl;have k4:c4.length<=100:=waO zeU xwl;have tk:∀{p q:List Dt},p.length<=100->q.length<=100->(∀ t∈p,t∈xs)->(∀ t∈q,t∈xs)->Tk (p++[od]++q):=λ{p q} h1 h2 h3 h4=>⟨by simp;lia,λt ht=>by
  rcases wax.mp ht with ht|ht
  ·rcases wax.mp ht with ht|ht
   ·exact tx t (h3 t ht)
   ·rw[List.mem_singleton.mp ht];exact ho
  ·exact tx t (h4 t ht)⟩
 let D1:List Dt:=[.tup [.int n,.tup (c1++[od]++c2)],.tup [.int n,.tup (c1++[od]++c3)],.tup [.int n,.tup xs.reverse]]
 let D2:List Dt:=[.tup [.int 0,.tup []],.tup [.int 8,.tup xs],.tup [.bl true,.tup []],.tup [.int n,.lst xs],.lst [.int n,.tup xs],.tup [.int n],.tup [.int n,.tup xs,.tup []],.non]
 let D3:List Dt:=[.tup [.int n,.tup (xs++c4)],.dct [],.int n,.tup [.tup [.int n],.tup xs]]
 have hD:∀ d∈D1++D2++D3,LW d:=λd hd=>by
  simp only[D1,D2,D3,List.cons_append,List.nil_append,wap,wak,or_false] at hd;rcases hd with rfl|rfl|rfl|rfl|rfl|rfl|rfl|rfl|rfl|rfl|rfl|rfl|rfl|rfl|rfl
  ·exact zjf (tk k1 k2 (λ_ h=>zg6 h) λ_ h=>zg6 h)
  ·exact zjf (tk k1 k3 (λ_ h=>zg6 h) λ_ h=>zg6 h)
  ·exact zjf ⟨by rw[List.length_reverse];lia,λt ht=>tx t (List.mem_reverse.mp ht)⟩
  ·exact zjf ⟨xwd,λt ht=>by cases ht⟩
  ·exact zjf ⟨xwl,tx⟩
  ·exact zjf ⟨xwd,λt ht=>by cases ht⟩
  ·exact λ_ _ e=>by cases e
  ·exact λ_ _ e=>by cases e
  ·exact λ_ _ e=>by cases e
  ·exact λ_ _ e=>by cases e
  ·exact λ_ _ e=>by cases e
  ·exact zjf ⟨by rw[List.length_append];lia,λt ht=>by
    rcases wax.mp ht with h|h
    ·exact tx t h
    ·exact tx t (zg6 h)⟩
  ·exact λ_ _ e=>by cases e
  ·exact λ_ _ e=>by cases e
  ·exact zjf ⟨xwl,tx⟩
 obtain ⟨d,hd,hdi⟩:=zfY (D:=D1++D2++D3) x0 (show x<15 from x1);let Z3:Ev:=[some (.own st2),W,V2,V3,V4,some (.val od),none]
 let Z4:Ev:=[some (.own st2),W,V2,V3,V4,some (.val od),some (.val (.lst D1))]
 let Z5:Ev:=[some (.own st2),W,V2,V3,V4,some (.val od),some (.val (.lst (D1++D2)))]
 refine ⟨d,st3,hs3,hD d hd,zao (Z':=[some (.own st3),W,V2,V3,V4,some (.val od),some (.val (.lst (D1++D2)))]) rfl ?_ rfl⟩;show zcI [some (.own st),W,none,none,none,none,none]=_;unfold zcI;rw[zam (Z1:=[some (.own st),W,V2,V3,none,none,none]) rfl];have el:dOp zbt (dFn zby (dA (zab 3) dA0)) (dC (.int 1)) [some (.own st),W,V2,V3,none,none,none]=.ok (.int ((L.length:Int)+1),[some (.own st),W,V2,V3,none,none,none]):=zat (d:=.int L.length) (zbZ (d:=.tup xs) rfl (by rw[<- xl];rfl)) rfl rfl;have s2:zbd 4 (zad zae (dRO 0 (dR (dOp zbt (dFn zby (dA (zab 3) dA0)) (dC (.int 1))) dR0))) [some (.own st),W,V2,V3,none,none,none]=.ok (.nx,[some (.own st1),W,V2,V3,V4,none,none]) :=
  zaS (i:=4) (Z1:=[some (.own st1),W,V2,V3,none,none,none]) (zfC (zbo:=[W,V2,V3,none,none,none]) e1 el) (show 4<7 by decide)
 rw[zam s2];have s3:zbd 5 (dOp gIx (dFz (zbL (dA (dC (.tup [(.int 0),(.int 0)])) (dA (dC (.tup [(.int 1),(.int 0)])) (dA (zbK (dA (dC (.int 0)) (dA (zab 2) dA0))) (dA (dC (.tup [(.int (-1)),(.int 0)])) (dA (dC (.tup [(.int 0),(.bl true)])) (dA (dC (.lst [(.int 0),(.int 1)])) (dA (dC (.tup [(.int 0),(.int 1),(.int 2)])) (dA (dC (.tup [(.int 0)])) (dA (dC .non) dA0))))))))))) (zad zae (dRO 0 (dR (dC (.int 9)) dR0)))) [some (.own st1),W,V2,V3,V4,none,none]=.ok (.nx,Z3) :=
  zaS (i:=5) (Z1:=[some (.own st2),W,V2,V3,V4,none,none]) (zat (d:=.lst O) rfl (zfC (zbo:=[W,V2,V3,V4,none,none]) e2 rfl) hod) (show 5<7 by decide)
 rw[zam s3];have a0:dOp zbM (zcg (zab 3) dO0 (dO1 (zab 4))) (zbK (dA (zab 5) dA0)) Z3=.ok (.tup (c1++[od]),Z3):=zat (d:=.tup c1) (e:=.tup [od]) (zd2 (ds:=xs) rfl rfl rfl) rfl (zeS (by simp;lia));have a1:dOp zbM (dOp zbM (zcg (zab 3) dO0 (dO1 (zab 4))) (zbK (dA (zab 5) dA0))) (zcg (zab 3) (dO1 (zab 4)) dO0) Z3=.ok (.tup (c1++[od]++c2),Z3):=zat (e:=.tup c2) a0 (zd2 (ds:=xs) rfl rfl rfl) (zeS (by simp;lia));have a2:dOp zbM (dOp zbM (zcg (zab 3) dO0 (dO1 (zab 4))) (zbK (dA (zab 5) dA0))) (zcg (zab 3) (dO1 (dOp zbt (zab 4) (dC (.int 1)))) dO0) Z3=.ok (.tup (c1++[od]++c3),Z3):=zat (e:=.tup c3) a0 (zd2 (ds:=xs) rfl rfl rfl) (zeS (by simp;lia));have p2:∀{f:De}{z:Dt}{Z:Ev},Z[2]? = some V2->f Z=.ok (z,Z)->zbK (dA (zab 2) (dA f dA0)) Z=.ok (.tup [.int n,z],Z):=λ{f z Z} h0 h=>zg9 (zbz (zly h0) (zbz h rfl)) xws;have s4:zbd 6 (dFz (zbL (dA (zbK (dA (zab 2) (dA (dOp zbM (dOp zbM (zcg (zab 3) dO0 (dO1 (zab 4))) (zbK (dA (zab 5) dA0))) (zcg (zab 3) (dO1 (zab 4)) dO0)) dA0))) (dA (zbK (dA (zab 2) (dA (dOp zbM (dOp zbM (zcg (zab 3) dO0 (dO1 (zab 4))) (zbK (dA (zab 5) dA0))) (zcg (zab 3) (dO1 (dOp zbt (zab 4) (dC (.int 1)))) dO0)) dA0))) (dA (zbK (dA (zab 2) (dA (znv (zab 3)) dA0))) dA0))))) Z3=.ok (.nx,Z4) :=
  zaS (i:=6) (Z1:=Z3) (zf1 (ds:=D1) (zbz (p2 rfl a1) (zbz (p2 rfl a2) (zbz (p2 (z:=.tup xs.reverse) rfl rfl) rfl))) (by show 3<=1000;decide)) (show 6<7 by decide)
 rw[zam s4];have s5:zbd 6 (dFz (zgp (zab 6) (dFz (zbL (dA (dC (.tup [(.int 0),(.tup [])])) (dA (zbK (dA (dC (.int 8)) (dA (zab 3) dA0))) (dA (dC (.tup [(.bl true),(.tup [])])) (dA (zbK (dA (zab 2) (dA (dFz (ze8 zel (dA (zab 3) dA0))) dA0))) (dA (dFz (zbL (dA (zab 2) (dA (zab 3) dA0)))) (dA (zbK (dA (zab 2) dA0)) (dA (zbK (dA (zab 2) (dA (zab 3) (dA (zbK dA0) dA0)))) (dA (dC .non) dA0)))))))))))) Z4=.ok (.nx,Z5) :=
  zaS (i:=6) (Z1:=Z4) (znD (x:=D1) (y:=D2) rfl rfl (by show 3+8<=1000;decide)) (show 6<7 by decide)
 rw[zam s5];have a4:dOp zbM (zab 3) (zcg (zab 3) (dO1 (zsF (dC (.int 1)))) dO0) Z5=.ok (.tup (xs++c4),Z5):=zat (d:=.tup xs) (e:=.tup c4) rfl (zd2 (ds:=xs) rfl rfl rfl) (zeS xwl);exact zbv (zat (d:=.lst (D1++D2++D3)) (znD (x:=D1++D2) (y:=D3) rfl (zbz (p2 rfl a4) (zbz rfl (zbz rfl (zbz rfl rfl)))) (by show 11+4<=1000;decide)) (zfC (zbo:=[W,V2,V3,V4,some (.val od),some (.val (.lst (D1++D2)))]) e3 rfl) hdi)
theorem znd{ft:DT}{zbo:Ev}{fi:DA}{l:List Dt}{st:List Dt}{j:Nat}(hi:fi (some (.own st)::zbo)=.ok (l,some (.own st)::zbo))(hl:l.length<=1000)(hj:j=zbo.length+1)
  (h:∀ d∈l,∀ st,St st->∃ b st',St st'/\ft (some (.own st)::(zbo++[some (.val d)]))=.ok (b,some (.own st')::(zbo++[some (.val d)]))) (hs:St st) :
  ∃ ys st',St st'/\ys.Sublist l/\za9 fi (zbg j) ft (zab j) 1 (some (.own st)::zbo)=.ok (ys,some (.own st')::zbo):=by
 subst hj;obtain ⟨ys,st',o',hs',hp,e⟩:=zl1 (o:=none) h hs;refine ⟨ys,st',hs',hp,?_⟩;unfold za9;rw[hi];simp only[R.bind_ok];rw[if_pos (by unfold fits;simp only[decide_eq_true_eq];lia)];show (match zbx (zbg (zbo.length+1)) ft (zab (zbo.length+1)) l (some (.own st)::(zbo++[none])) with|.ok z=>R.ok (z.1,z.2.take (zbo.length+1))|_=>.no)=_;rw[e];simp
theorem zjO{α:Type}{x y f:α->Dt}{fe:De}{Z0:Ev}:∀{l:List α}{o o2:Option B},(∀ a∈l,fe (Z0++[some (.val (x a)),some (.val (y a))])=.ok (f a,Z0++[some (.val (x a)),some (.val (y a))])) ->
  ∃ o' o2',zbx (zdL Z0.length (Z0.length+1)) dTT fe (l.map λa=>.tup [x a,y a]) (Z0++[o,o2])=.ok (l.map f,Z0++[o',o2'])
 |[],o,o2,_=>⟨o,o2,rfl⟩
 |a::l,o,o2,h=>by
  obtain ⟨o',o2',e⟩:=zjO (l:=l) (o:=some (.val (x a))) (o2:=some (.val (y a))) λb hb=>h b (wah _ hb);refine ⟨o',o2',?_⟩;have hg:zdL Z0.length (Z0.length+1) (.tup [x a,y a]) (Z0++[o,o2])=.ok (Z0++[some (.val (x a)),some (.val (y a))]):=by simp[zdL]
  rw[List.map_cons,zbx,hg];simp only[R.bind_ok];have ht:dTT (Z0++[some (.val (x a)),some (.val (y a))])=.ok (true,Z0++[some (.val (x a)),some (.val (y a))]):=rfl;rw[ht];simp only[R.bind_ok,if_true];rw[h a List.mem_cons_self];simp only[R.bind_ok];rw[e];rfl
theorem zme{α:Type}{x y f:α->Dt}{fe:De}{Z0:Ev}{fi:DA}{l:List α}{i j:Nat}(hi:fi Z0=.ok (l.map (λa=>.tup [x a,y a]),Z0))(hl:l.length<=1000)(h1:i = Z0.length)(h2:j = Z0.length+1)(h:∀ a∈l,fe (Z0++[some (.val (x a)),some (.val (y a))])=.ok (f a,Z0++[some (.val (x a)),some (.val (y a))])) :
  za9 fi (zdL i j) dTT fe 2 Z0=.ok (l.map f,Z0):=by
 subst h1 h2;obtain ⟨o',o2',e⟩:=zjO (o:=none) (o2:=none) h;unfold za9;rw[hi];simp only[R.bind_ok];rw[if_pos (by unfold fits;simp only[List.length_map,decide_eq_true_eq];lia)];show (match zbx (zdL Z0.length (Z0.length+1)) dTT fe (l.map λa=>.tup [x a,y a]) (Z0++[none,none]) with|.ok z=>R.ok (z.1,z.2.take Z0.length)|_=>.no)=_;rw[e];simp
theorem ztD{T:List (List Int)}{ys:List Dt}(h:ys.Sublist (T.map tz)):∃ T':List (List Int),T'.Sublist T/\ys=T'.map tz:=by obtain ⟨T',h1,h2⟩:=List.sublist_map_iff.mp h;exact ⟨T',h1,h2⟩
theorem zsW{n:Nat}{a b:Int}(ha:0<=a/\a<n)(hb:0<=b/\b<n)(hab:a≠b):zeV [a,b]∈prs n:=by
 have e:zeV [a,b]=if a<=b then [a,b] else [b,a]:=rfl
 rw[e];by_cases h:a<=b
 ·rw[if_pos h];exact zdi.mpr ⟨a.toNat,b.toNat,by rw[Int.toNat_of_nonneg ha.1,Int.toNat_of_nonneg hb.1],xwl,xwl⟩
 ·rw[if_neg h];exact zdi.mpr ⟨b.toNat,a.toNat,by rw[Int.toNat_of_nonneg ha.1,Int.toNat_of_nonneg hb.1],xwl,xwl⟩
theorem zuh{f g:De}{Z:Ev}{a b:Int}(h1:f Z=.ok (.int a,Z))(h2:g Z=.ok (.int b,Z)):dFn zbX (dA (dFz (ze8 zcS (dA (dFz (zbL (dA f (dA g dA0)))) dA0))) dA0) Z=.ok (tz (zeV [a,b]),Z):=by
 have e1:dFz (zbL (dA f (dA g dA0))) Z=.ok (.lst [.int a,.int b],Z):=zf1 (zbz h1 (zbz h2 rfl)) xws;have e2:ze8 zcS (dA (dFz (zbL (dA f (dA g dA0)))) dA0) Z=.ok ((zeV [a,b]).map .int,Z):=by unfold ze8;rw[zbz e1 rfl];rfl
 exact zbZ (d:=.lst ((zeV [a,b]).map .int)) (zbI e2) rfl
theorem zl3{row:List Int}{i:Nat}(h:i<row.length):gIx (tz row) (.int (i:Nat))=.ok (.int (row.getD i 0)):=by refine ziw xwl (by rw[List.length_map];lia) ?_;rw[Int.toNat_natCast,List.getElem?_map,List.getElem?_eq_getElem h,List.getD_eq_getElem?_getD,List.getElem?_eq_getElem h];rfl
theorem zoL{row:List Int}(h:0<row.length):gIx (tz row) (.int (-1))=.ok (.int (row.getD (row.length-1) 0)):=by
 unfold gIx tz;have e:atI (row.map Dt.int) (-1)=some (.int (row.getD (row.length-1) 0)):=by
  unfold atI ixN;rw[if_neg xwl,List.length_map,if_pos xwl];show (row.map Dt.int)[((-1:Int)+(row.length:Int)).toNat]? = _;have hl:row.length-1<row.length:=by lia
  rw[show ((-1:Int)+(row.length:Int)).toNat=row.length-1 by lia,List.getElem?_map,List.getElem?_eq_getElem hl,List.getD_eq_getElem?_getD,List.getElem?_eq_getElem hl];rfl
 simp only[e]
theorem zlG{n:Nat}{row:List Int}(h:row.Perm (zco n)){i:Nat}(hi:i<n):0<=row.getD i 0/\row.getD i 0<n:=by
 have hl:i<row.length:=by rw[h.length_eq,zch];exact hi
 rw[List.getD_eq_getElem?_getD,List.getElem?_eq_getElem hl];exact zmc.mp (h.mem_iff.mp (List.getElem_mem hl))
theorem zqP{n:Nat}{row:List Int}(h:row.Perm (zco n)){i j:Nat}(hi:i<n)(hj:j<n)(hij:i≠j):row.getD i 0≠row.getD j 0:=λe=>by
 have hi':i<row.length:=by rw[h.length_eq,zch];exact hi
 have hj':j<row.length:=by rw[h.length_eq,zch];exact hj
 rw[List.getD_eq_getElem?_getD,List.getElem?_eq_getElem hi',List.getD_eq_getElem?_getD,List.getElem?_eq_getElem hj'] at e;have hn:row.Nodup:=h.nodup_iff.mpr (zjU n);have key:=List.pairwise_iff_getElem.mp hn;rcases Nat.lt_or_gt_of_ne hij with z|z
 ·exact key i j hi' hj' z e
 ·exact key j i hj' hi' z e.symm
noncomputable def Td(n:Nat)(T:List (List Int)):Prop:=(∀ p∈T,p∈prs n)/\T.length<=60
theorem zlS{n:Nat}(h7:n<=7){T:List (List Int)}(h:T.Sublist (prs n)):Td n T:=⟨λp hp=>h.subset hp,by have:=h.length_le;have:=zdS h7;lia⟩
noncomputable abbrev vI(i:Int):Option B:=some (.val (.int i))
noncomputable abbrev vT(T:List (List Int)):Option B:=some (.val (.lst (T.map tz)))
noncomputable def EW(st:List Dt)(n:Nat)(w:Int)(T:List (List Int))(o5 o6 o7:Option B):Ev:=[some (.own st),vI n,vI w,vT (prs n),vT T,o5,o6,o7]
noncomputable def w1:DS:=(dIf (zfj (dTB (dOp (gEq false) (zab 2) (dC (.int 1)))) (dTB (dOp (gEq true) (zab 3) (dFz (zbL dA0))))) (zaE (zbd 5 (dOp gIx (zab 3) (zad zae (dRO 0 (dR (dFn zby (dA (zab 3) dA0)) dR0))))) (zbd 4 (dFz (za9 (dIt (zab 3)) (zbg 8) (dTB (dOp (gEq true) (dOp (gIn false) (zab 8) (zab 4)) (dOp (gEq false) (zab 8) (zab 5)))) (zab 8) 1)))) dNx)
noncomputable def w2:DS:=(dIf (dTB (dOp (gEq false) (zab 2) (dC (.int 2)))) (zbd 4 (dFz (za9 (dIt (zab 3)) (zbg 8) (dTB (dOp (gEq false) (zad zae (dRO 0 (dR (dC (.int 3)) dR0))) (dC (.int 0)))) (zab 8) 1))) dNx)
noncomputable def w3:DS:=(dIf (zfj (dTB (dOp (gEq false) (zab 2) (dC (.int 3)))) (dTB (dOp gGt (zab 1) (dC (.int 2))))) (zaE (zbd 4 (dFz (za9 (zbV (zab 1)) (zbg 8) dTT (dFn zbX (dA (dFz (ze8 zcS (dA (dFz (zbL (dA (dOp gIx (zab 6) (dOp zhp (zab 8) (dC (.int 1)))) (dA (dOp gIx (zab 6) (zab 8)) dA0)))) dA0))) dA0)) 1))) (zbd 4 (dFz (zgp (zab 4) (dFz (za9 (dIt (zab 3)) (zbg 8) (dTB (dOp (gEq false) (zad zae (dRO 0 (dR (dC (.int 9)) dR0))) (dC (.int 0)))) (zab 8) 1)))))) dNx)
noncomputable def w4:DS:=(dIf (zfj (dTB (dOp (gEq false) (zab 2) (dC (.int 4)))) (dTB (dOp (gEq false) (zab 1) (dC (.int 7))))) (zaE (zbd 7 (dC (.lst [(.tup [(.int 0),(.int 1)]),(.tup [(.int 1),(.int 2)]),(.tup [(.int 0),(.int 3)]),(.tup [(.int 3),(.int 4)]),(.tup [(.int 0),(.int 5)]),(.tup [(.int 5),(.int 6)])]))) (zaE (zbd 7 (dFz (zgp (zab 7) (dOp gIx (dC (.lst [(.lst []),(.lst [(.tup [(.int 1),(.int 3)])]),(.lst [(.tup [(.int 1),(.int 3)]),(.tup [(.int 3),(.int 5)]),(.tup [(.int 1),(.int 5)])])])) (zad zae (dRO 0 (dR (dC (.int 3)) dR0))))))) (zbd 4 (dFz (za9 (dIt (zab 7)) (zdL 8 9) dTT (dFn zbX (dA (dFz (ze8 zcS (dA (dFz (zbL (dA (dOp gIx (zab 6) (zab 8)) (dA (dOp gIx (zab 6) (zab 9)) dA0)))) dA0))) dA0)) 2))))) dNx)
theorem zl6{st:List Dt}{n:Nat}{w k:Int}{T:List (List Int)}{o5 o6 o7:Option B}:dTB (dOp (gEq false) (zab 2) (dC (.int k))) (EW st n w T o5 o6 o7)=.ok (w == k,EW st n w T o5 o6 o7):=zaM (zat rfl rfl (by rw[zsE];rfl))
theorem zu9{st:List Dt}{n:Nat}{w:Int}{T:List (List Int)}{o5 o6 o7:Option B}(h7:n<=7)(hs:St st)(hT:Td n T):∃ st' T' b5,St st'/\Td n T'/\w1 (EW st n w T o5 o6 o7)=.ok (.nx,EW st' n w T' b5 o6 o7):=by
 unfold w1;have e1:=zl6 (st:=st) (n:=n) (w:=w) (k:=1) (T:=T) (o5:=o5) (o6:=o6) (o7:=o7);cases hw:(w == 1) with
 |false =>
  rw[hw] at e1;exact ⟨st,T,o5,hs,hT,by rw[zbO (by rw[zi0 e1])];rfl⟩
 |true =>
  rw[hw] at e1;have e2:dTB (dOp (gEq true) (zab 3) (dFz (zbL dA0))) (EW st n w T o5 o6 o7)=.ok (!(prs n).isEmpty,EW st n w T o5 o6 o7):=zaM (zat (d:=.lst ((prs n).map tz)) (e:=.lst []) rfl rfl (by rw[zdr (zkI _).1 rfl,zrv];cases prs n <;> rfl));cases hq:(prs n).isEmpty with
  |true =>
   rw[hq] at e2;exact ⟨st,T,o5,hs,hT,by rw[zbO (by rw[zeT e1];exact e2)];rfl⟩
  |false =>
   rw[hq] at e2;rw[zc9 (by rw[zeT e1];exact e2)];have hpos:0<(prs n).length:=by
    cases hp:prs n with
    |nil=>rw[hp] at hq;cases hq
    |cons=>simp
   have hpl:=zdS h7;obtain ⟨v,st1,e3,hs1,v0,v1⟩:=zaZ (m:=(prs n).length) hs xwl xwl;obtain ⟨q,hq',hqi⟩:=zfY (D:=(prs n).map tz) v0 (by rw[List.length_map];exact v1);obtain ⟨q,_,rfl⟩:=List.mem_map.mp hq';have s1:zbd 5 (dOp gIx (zab 3) (zad zae (dRO 0 (dR (dFn zby (dA (zab 3) dA0)) dR0)))) (EW st n w T o5 o6 o7)=.ok (.nx,EW st1 n w T (some (.val (tz q))) o6 o7) :=
    zaS (i:=5) (Z1:=EW st1 n w T o5 o6 o7) (zat (d:=.lst ((prs n).map tz)) rfl (zfC (zbo:=[vI n,vI w,vT (prs n),vT T,o5,o6,o7]) e3 (zbZ (d:=.lst ((prs n).map tz)) rfl (by simp[zby]))) hqi) (show 5<8 by decide)
   rw[zam s1];let Z1:=EW st1 n w T (some (.val (tz q))) o6 o7;have hc:za9 (dIt (zab 3)) (zbg 8) (dTB (dOp (gEq true) (dOp (gIn false) (zab 8) (zab 4)) (dOp (gEq false) (zab 8) (zab 5)))) (zab 8) 1 Z1=.ok ((((prs n).map tz).filter λx=>!((inD x (T.map tz)) == (eqD x (tz q)))).map id,Z1):=by
    refine zda rfl rfl (by rw[List.length_map];lia) (λx hx=>?_) (λx hx _=>rfl);obtain ⟨p,hp,rfl⟩:=List.mem_map.mp hx;have a1:gIn false (tz p) (.lst (T.map tz))=.ok (.bl (inD (tz p) (T.map tz))):=by unfold gIn;simp only;rw[if_pos (by rw[(zm4 p).2,(zkI T).2.2];rfl)];rfl
    have a2:gEq false (tz p) (tz q)=.ok (.bl (eqD (tz p) (tz q))):=by rw[zdr (zm4 p).2 (zm4 q).2];rfl
    exact zaM (zat (zat (d:=tz p) (e:=.lst (T.map tz)) rfl rfl a1) (zat (d:=tz p) (e:=tz q) rfl rfl a2) (by rw[zuT];rfl))
   rw[List.map_id,List.filter_map] at hc;refine ⟨st1,(prs n).filter ((λx=>!((inD x (T.map tz)) == (eqD x (tz q)))) ∘ tz),some (.val (tz q)),hs1,zlS h7 List.filter_sublist,?_⟩;exact zaS (i:=4) (Z1:=Z1) (zbI hc) (show 4<8 by decide)
theorem znf{st:List Dt}{n:Nat}{w k:Int}{T:List (List Int)}{o5 o6 o7:Option B}(h7:n<=7)(hk0:0<k)(hk:k<100)(hs:St st):∃(st':List Dt)(T':List (List Int)),St st'/\T'.Sublist (prs n)/\za9 (dIt (zab 3)) (zbg 8) (dTB (dOp (gEq false) (zad zae (dRO 0 (dR (dC (.int k)) dR0))) (dC (.int 0)))) (zab 8) 1 (EW st n w T o5 o6 o7)=.ok (T'.map tz,EW st' n w T o5 o6 o7):=by
 have hpl:=zdS h7;obtain ⟨ys,st',hs',hsub,e⟩:=znd (fi:=dIt (zab 3)) (ft:=(dTB (dOp (gEq false) (zad zae (dRO 0 (dR (dC (.int k)) dR0))) (dC (.int 0))))) (zbo:=[vI n,vI w,vT (prs n),vT T,o5,o6,o7]) (l:=(prs n).map tz) (st:=st) (j:=8) rfl (by rw[List.length_map];lia) rfl (λd hd st hs=>by obtain ⟨v,st1,e1,hs1,_,_⟩:=zaZ (m:=k) hs hk0 xwl;exact ⟨v == 0,st1,hs1,zaM (zat (zfC (zbo:=[vI n,vI w,vT (prs n),vT T,o5,o6,o7]++[some (.val d)]) e1 rfl) rfl (by rw[zsE];rfl))⟩) hs
 obtain ⟨T',h1,rfl⟩:=ztD hsub;exact ⟨st',T',hs',h1,e⟩
theorem zu5{st:List Dt}{n:Nat}{w:Int}{T:List (List Int)}{o5 o6 o7:Option B}(h7:n<=7)(hs:St st)(hT:Td n T):∃ st' T',St st'/\Td n T'/\w2 (EW st n w T o5 o6 o7)=.ok (.nx,EW st' n w T' o5 o6 o7):=by
 unfold w2;have e1:=zl6 (st:=st) (n:=n) (w:=w) (k:=2) (T:=T) (o5:=o5) (o6:=o6) (o7:=o7);cases hw:(w == 2) with
 |false =>
  rw[hw] at e1;exact ⟨st,T,hs,hT,by rw[zbO e1];rfl⟩
 |true =>
  rw[hw] at e1;obtain ⟨st',T',hs',hsub,e⟩:=znf (w:=w) (T:=T) (o5:=o5) (o6:=o6) (o7:=o7) (k:=3) h7 xwd xwd hs;exact ⟨st',T',hs',zlS h7 hsub,by rw[zc9 e1];exact zaS (i:=4) (Z1:=EW st' n w T o5 o6 o7) (zbI e) (show 4<8 by decide)⟩
theorem zu8{st:List Dt}{n:Nat}{w:Int}{T:List (List Int)}{row:List Int}{o5 o7:Option B}(h7:n<=7)(hs:St st)(hT:Td n T)(hr:row.Perm (zco n)):∃ st' T',St st'/\Td n T'/\w3 (EW st n w T o5 (some (.val (tz row))) o7)=.ok (.nx,EW st' n w T' o5 (some (.val (tz row))) o7):=by
 unfold w3;let R0:Option B:=some (.val (tz row));have rl:row.length=n:=by rw[hr.length_eq,zch]
 have e1:=zl6 (st:=st) (n:=n) (w:=w) (k:=3) (T:=T) (o5:=o5) (o6:=R0) (o7:=o7);have e2:dTB (dOp gGt (zab 1) (dC (.int 2))) (EW st n w T o5 R0 o7)=.ok (decide ((n:Int) > 2),EW st n w T o5 R0 o7):=rfl;cases hw:(w == 3) with
 |false =>
  rw[hw] at e1;exact ⟨st,T,hs,hT,by rw[zbO (by rw[zi0 e1])];rfl⟩
 |true =>
  rw[hw] at e1;by_cases hn:(n:Int) > 2
  ·rw[decide_eq_true hn] at e2;rw[zc9 (by rw[zeT e1];exact e2)];let pv:Nat->Nat:=λk=>if k=0 then n-1 else k-1
   let f:Nat->List Int:=λk=>zeV [row.getD (pv k) 0,row.getD k 0];let Z0:=EW st n w T o5 R0 o7;have hc:za9 (zbV (zab 1)) (zbg 8) dTT (dFn zbX (dA (dFz (ze8 zcS (dA (dFz (zbL (dA (dOp gIx (zab 6) (dOp zhp (zab 8) (dC (.int 1)))) (dA (dOp gIx (zab 6) (zab 8)) dA0)))) dA0))) dA0)) 1 Z0=.ok ((List.range n).map λk=>tz (f k),Z0):=by
    refine zc5 (l:=List.range n) (u:=λk:Nat=>Dt.int (0+(k:Int))) (f:=λk=>tz (f k)) (ds:=zaX 0 n) (zi7 rfl xwl) rfl (by rw[List.length_range];lia) (λk hk=>?_) rfl;have hkn:=List.mem_range.mp hk;let Z1:Ev:=Z0++[some (.val (.int (0+(k:Int))))]
    have g2:dOp gIx (zab 6) (zab 8) Z1=.ok (.int (row.getD k 0),Z1):=zat (d:=tz row) (e:=.int (0+(k:Int))) rfl rfl (by rw[Int.zero_add];exact zl3 xwl);have g1:dOp gIx (zab 6) (dOp zhp (zab 8) (dC (.int 1))) Z1=.ok (.int (row.getD (pv k) 0),Z1):=by
     refine zat (d:=tz row) (e:=.int (0+(k:Int)-1)) rfl (zat rfl rfl rfl) ?_;by_cases k0:k=0
     ·subst k0;have:=zoL (row:=row) xwl;rw[rl] at this;exact this
     ·have e:(0+(k:Int)-1)=((k-1:Nat):Int):=by lia
      show gIx (tz row) _=.ok (.int (row.getD (if k=0 then n-1 else k-1) 0));rw[e,if_neg k0];exact zl3 xwl
    exact zuh g1 g2
   have hf:∀ p∈(List.range n).map f,p∈prs n:=λp hp=>by
    obtain ⟨k,hk,rfl⟩:=List.mem_map.mp hp;have hkn:=List.mem_range.mp hk;have hpv:pv k<n/\pv k≠k:=by show (if k=0 then n-1 else k-1)<n/\(if k=0 then n-1 else k-1)≠k;split <;> lia
    exact zsW (zlG hr hpv.1) (zlG hr hkn) (zqP hr hpv.1 hkn hpv.2)
   have s1:zbd 4 (dFz (za9 (zbV (zab 1)) (zbg 8) dTT (dFn zbX (dA (dFz (ze8 zcS (dA (dFz (zbL (dA (dOp gIx (zab 6) (dOp zhp (zab 8) (dC (.int 1)))) (dA (dOp gIx (zab 6) (zab 8)) dA0)))) dA0))) dA0)) 1)) Z0=.ok (.nx,EW st n w ((List.range n).map f) o5 R0 o7):=by rw[zaS (i:=4) (Z1:=Z0) (zbI hc) (show 4<8 by decide)];unfold EW vT;rw[List.map_map];rfl
   rw[zam s1];obtain ⟨st',T',hs',hsub,e⟩:=znf (w:=w) (T:=(List.range n).map f) (o5:=o5) (o6:=R0) (o7:=o7) (k:=9) h7 xwd xwd hs;have hT':=zlS h7 hsub;refine ⟨st',(List.range n).map f++T',hs',⟨λp hp=>?_,by rw[List.length_append,List.length_map,List.length_range];have:=hsub.length_le;have:=zdS h7;lia⟩,?_⟩
   ·rcases wax.mp hp with h|h
    ·exact hf p h
    ·exact hT'.1 p h
   ·rw[zaS (i:=4) (Z1:=EW st' n w ((List.range n).map f) o5 R0 o7) (zbI (zk0 (x:=((List.range n).map f).map tz) (y:=T'.map tz) rfl (zbI e) (by rw[List.length_map,List.length_map,List.length_map,List.length_range];have:=hT'.2;lia))) (show 4<8 by decide),<- List.map_append];rfl
  ·rw[decide_eq_false hn] at e2;exact ⟨st,T,hs,hT,by rw[zbO (by rw[zeT e1];exact e2)];rfl⟩
noncomputable def zjs:List (Nat×Nat):=[(0,1),(1,2),(0,3),(3,4),(0,5),(5,6)]
noncomputable def lgD(p:Nat×Nat):Dt:=.tup [.int p.1,.int p.2]
theorem zvm{st:List Dt}{n:Nat}{w:Int}{T:List (List Int)}{row:List Int}{o5 o7:Option B}(h7:n<=7)(hs:St st)(hT:Td n T)(hr:row.Perm (zco n)):∃ st' T' b7,St st'/\Td n T'/\w4 (EW st n w T o5 (some (.val (tz row))) o7)=.ok (.nx,EW st' n w T' o5 (some (.val (tz row))) b7):=by
 unfold w4;let R0:Option B:=some (.val (tz row));have rl:row.length=n:=by rw[hr.length_eq,zch]
 have e1:=zl6 (st:=st) (n:=n) (w:=w) (k:=4) (T:=T) (o5:=o5) (o6:=R0) (o7:=o7);have e2:dTB (dOp (gEq false) (zab 1) (dC (.int 7))) (EW st n w T o5 R0 o7)=.ok ((n:Int) == 7,EW st n w T o5 R0 o7):=zaM (zat rfl rfl (by rw[zsE];rfl));cases hw:(w == 4) with
 |false =>
  rw[hw] at e1;exact ⟨st,T,o7,hs,hT,by rw[zbO (by rw[zi0 e1])];rfl⟩
 |true =>
  rw[hw] at e1;cases hn:((n:Int) == 7) with
  |false =>
   rw[hn] at e2;exact ⟨st,T,o7,hs,hT,by rw[zbO (by rw[zeT e1];exact e2)];rfl⟩
  |true =>
   rw[hn] at e2;have hn7:n=7:=by have:=eq_of_beq hn;lia
   rw[zc9 (by rw[zeT e1];exact e2)];rw[zam (Z1:=EW st n w T o5 R0 (some (.val (.lst (zjs.map lgD))))) rfl];obtain ⟨v,st1,e3,hs1,v0,v1⟩:=zaZ (m:=3) hs xwd xwd;obtain ⟨ex,hex,hxi⟩:=zfY (D:=[.lst [],.lst ([(1,3)].map lgD),.lst ([(1,3),(3,5),(1,5)].map lgD)]) v0 (show v<3 from v1);obtain ⟨E,rfl,hE,hEl⟩ : ∃ E:List (Nat×Nat),ex=.lst (E.map lgD)/\(∀ p∈E,p.1<p.2/\p.2<7)/\E.length<=3:=by
    simp only[wap,wak,or_false] at hex;rcases hex with rfl|rfl|rfl
    ·exact ⟨[],rfl,xws,xwd⟩
    ·exact ⟨_,rfl,xwd,xwd⟩
    ·exact ⟨_,rfl,xwd,xwd⟩
   let lg:=zjs++E;have hlg:∀ p∈lg,p.1<p.2/\p.2<7:=λp hp=>by
    rcases wax.mp hp with h|h
    ·exact (show ∀ p∈zjs,p.1<p.2/\p.2<7 by decide) p h
    ·exact hE p h
   have hll:lg.length<=9:=by show (zjs++E).length<=9;rw[List.length_append];show 6+E.length<=9;lia
   let V7:Option B:=some (.val (.lst (lg.map lgD)));have s2:zbd 7 (dFz (zgp (zab 7) (dOp gIx (dC (.lst [(.lst []),(.lst [(.tup [(.int 1),(.int 3)])]),(.lst [(.tup [(.int 1),(.int 3)]),(.tup [(.int 3),(.int 5)]),(.tup [(.int 1),(.int 5)])])])) (zad zae (dRO 0 (dR (dC (.int 3)) dR0)))))) (EW st n w T o5 R0 (some (.val (.lst (zjs.map lgD)))))=.ok (.nx,EW st1 n w T o5 R0 V7):=by rw[zaS (i:=7) (Z1:=EW st1 n w T o5 R0 (some (.val (.lst (zjs.map lgD))))) (zbI (zk0 (x:=zjs.map lgD) (y:=E.map lgD) rfl (zat (d:=.lst [.lst [],.lst ([(1,3)].map lgD),.lst ([(1,3),(3,5),(1,5)].map lgD)]) rfl (zfC (zbo:=[vI n,vI w,vT (prs n),vT T,o5,R0,some (.val (.lst (zjs.map lgD)))]) e3 rfl) hxi) (by rw[List.length_map,List.length_map];show 6+E.length<=16777216;lia))) (show 7<8 by decide),<- List.map_append];rfl
   rw[zam s2];let Z1:=EW st1 n w T o5 R0 V7;let f:Nat×Nat->List Int:=λp=>zeV [row.getD p.1 0,row.getD p.2 0];have hc:za9 (dIt (zab 7)) (zdL 8 9) dTT (dFn zbX (dA (dFz (ze8 zcS (dA (dFz (zbL (dA (dOp gIx (zab 6) (zab 8)) (dA (dOp gIx (zab 6) (zab 9)) dA0)))) dA0))) dA0)) 2 Z1=.ok (lg.map λp=>tz (f p),Z1):=by
    refine zme (x:=λp:Nat×Nat=>.int p.1) (y:=λp=>.int p.2) (f:=λp=>tz (f p)) (l:=lg) rfl xwl rfl rfl (λp hp=>?_);have hp':=hlg p hp;let Z2:Ev:=Z1++[some (.val (.int p.1)),some (.val (.int p.2))]
    exact zuh (Z:=Z2) (zat (d:=tz row) (e:=.int p.1) rfl rfl (zl3 xwl)) (zat (d:=tz row) (e:=.int p.2) rfl rfl (zl3 xwl))
   refine ⟨st1,lg.map f,V7,hs1,⟨λq hq=>?_,by rw[List.length_map];lia⟩,?_⟩
   ·obtain ⟨p,hp,rfl⟩:=List.mem_map.mp hq;have hp':=hlg p hp;exact zsW (zlG hr xwl) (zlG hr xwl) (zqP hr xwl xwl xwl)
   ·rw[zaS (i:=4) (Z1:=Z1) (zbI hc) (show 4<8 by decide)];unfold EW vT;rw[List.map_map];rfl
theorem zqN:∀{T:List (List Int)},(∀ p∈T,p≠[])->zrS (T.map tz)=some T
 |[],_=>rfl
 |p::T,h=>by
  have ih:=zqN (T:=T) λq hq=>h q (wah _ hq);have hp:=h p wau;cases p with
  |nil=>exact absurd rfl hp
  |cons a p =>
   rw[List.map_cons];show (match ziY ((a::p).map Dt.int),zrS (T.map tz) with|some (a::l),some ls=>some ((a::l)::ls)|_,_=>none)=_;rw[zl5,ih]
theorem znY:∀(l L:List (List Int)),L.Nodup->(l.foldl (λL x=>if x∈L then L else x::L) L).Nodup/\∀ p,p∈l.foldl (λL x=>if x∈L then L else x::L) L ↔ p∈L\/p∈l
 |[],L,h=>⟨h,λp=>by simp⟩
 |x::l,L,h=>by
  rw[List.foldl_cons];by_cases hx:x∈L
  ·rw[if_pos hx];obtain ⟨h1,h2⟩:=znY l L h;refine ⟨h1,λp=>?_⟩;rw[h2,List.mem_cons];constructor
   ·rintro (z|z)
    ·exact .inl z
    ·exact .inr (.inr z)
   ·rintro (z|rfl|z)
    ·exact .inl z
    ·exact .inl hx
    ·exact .inr z
  ·rw[if_neg hx];obtain ⟨h1,h2⟩:=znY l (x::L) (List.nodup_cons.mpr ⟨hx,h⟩);refine ⟨h1,λp=>?_⟩;rw[h2,List.mem_cons,List.mem_cons];constructor
   ·rintro ((rfl|z)|z)
    ·exact .inr (.inl rfl)
    ·exact .inl z
    ·exact .inr (.inr z)
   ·rintro (z|rfl|z)
    ·exact .inl (.inr z)
    ·exact .inl (.inl rfl)
    ·exact .inr z
theorem zny{n:Nat}(h1:1<=n)(h7:n<=7){T:List (List Int)}(hT:Td n T):zdx (zbQ n (zfM (ddL T))):=by
 obtain ⟨d1,d2⟩:=znY T [] List.nodup_nil;have hm:∀ p,p∈zfM (ddL T) ↔ p∈T:=λp=>by rw[(ze5 _).mem_iff];show p∈T.foldl _ [] ↔ _;rw[d2];simp
 have hn:(zfM (ddL T)).Nodup:=(ze5 _).nodup_iff.mpr d1;refine ⟨n,_,rfl,h1,h7,λp hp=>hT.1 p ((hm p).mp hp),?_⟩;refine (List.Pairwise.and (zgP (ddL T)) hn).imp λ{a b} ⟨hab,hne⟩=>?_;unfold leL at hab;rw[Bool.not_eq_true'] at hab;cases e:Ts.lxB a b with
 |true=>rfl
 |false=>exact absurd (Ts.lxB_tot e hab) hne
theorem zs7:zfD=zaE (zbd 1 (dOp gIx (dC (.lst [(.int 7),(.int 6),(.int 5),(.int 7),(.int 6),(.int 4),(.int 3),(.int 2),(.int 1)])) (zad zae (dRO 0 (dR (dC (.int 9)) dR0))))) (zaE (zbd 2 (zad zae (dRO 0 (dR (dC (.int 5)) dR0)))) (zaE (zbd 3 (zad zbr (dR (zab 1) dR0))) (zaE (zbd 4 (dFz (ze8 zel (dA (zad zaA (dR (zad zaB (dRO 0 (dR (zab 1) dR0))) dR0)) dA0)))) (zaE w1 (zaE w2 (zaE (zbd 6 (zad zcr (dRO 0 (dR (zab 1) dR0)))) (zaE w3 (zaE w4 (zbp (zbK (dA (zab 1) (dA (dFn zbX (dA (dFz (ze8 zeE (dA (zab 4) dA0))) dA0)) dA0)))))))))))):=rfl
theorem zpB{st:List Dt}(hs:St st):∃(n:Nat)(L:List (List Int))(st':List Dt),St st'/\1<=n/\n<=7/\zdx (zbQ n L)/\zc4 [.own st]=.ok (zbQ n L,[.own st']):=by
 obtain ⟨v,st1,e1,hs1,v0,v1⟩:=zaZ (m:=9) hs xwd xwd;obtain ⟨nd,hnd,hni⟩:=zfY (D:=[7,6,5,7,6,4,3,2,1].map λk:Nat=>Dt.int k) v0 (show v<9 from v1);obtain ⟨n,hn,rfl⟩:=List.mem_map.mp hnd;obtain ⟨h1,h7⟩:=(show ∀ n∈[7,6,5,7,6,4,3,2,1],1<=n/\n<=7 by decide) n hn;obtain ⟨w,st2,e2,hs2,_,_⟩:=zaZ (m:=5) hs1 xwd xwd;obtain ⟨l,st3,hs3,hl,e3⟩:=zeD h7 hs2;have hT0:Td n (zcm l):=by refine zlS h7 ?_;unfold zcm;rw[hl];exact List.filter_sublist
 obtain ⟨st4,T4,b5,hs4,hT4,e4⟩:=zu9 (w:=w) (o5:=none) (o6:=none) (o7:=none) h7 hs3 hT0;obtain ⟨st5,T5,hs5,hT5,e5⟩:=zu5 (w:=w) (o5:=b5) (o6:=none) (o7:=none) h7 hs4 hT4;obtain ⟨row,st6,hs6,hr,e6⟩:=zmo (n:=n) h7 hs5;obtain ⟨st7,T7,hs7,hT7,e7⟩:=zu8 (w:=w) (o5:=b5) (o7:=none) h7 hs6 hT5 hr;obtain ⟨st8,T8,b7,hs8,hT8,e8⟩:=zvm (w:=w) (o5:=b5) (o7:=none) h7 hs7 hT7 hr;let R0:Option B:=some (.val (tz row));refine ⟨n,zfM (ddL T8),st8,hs8,h1,h7,zny h1 h7 hT8,zao (Z':=EW st8 n w T8 b5 R0 b7) rfl ?_ rfl⟩;show zfD [some (.own st),none,none,none,none,none,none,none]=_;rw[zs7];have s1:zbd 1 (dOp gIx (dC (.lst [(.int 7),(.int 6),(.int 5),(.int 7),(.int 6),(.int 4),(.int 3),(.int 2),(.int 1)])) (zad zae (dRO 0 (dR (dC (.int 9)) dR0)))) [some (.own st),none,none,none,none,none,none,none]=.ok (.nx,[some (.own st1),vI n,none,none,none,none,none,none]) :=
  zaS (i:=1) (Z1:=[some (.own st1),none,none,none,none,none,none,none]) (zat (d:=.lst ([7,6,5,7,6,4,3,2,1].map λk:Nat=>Dt.int k)) rfl (zfC (zbo:=[none,none,none,none,none,none,none]) e1 rfl) hni) (show 1<8 by decide)
 have s2:zbd 2 (zad zae (dRO 0 (dR (dC (.int 5)) dR0))) [some (.own st1),vI n,none,none,none,none,none,none]=.ok (.nx,[some (.own st2),vI n,vI w,none,none,none,none,none]) :=
  zaS (i:=2) (Z1:=[some (.own st2),vI n,none,none,none,none,none,none]) (zfC (zbo:=[vI n,none,none,none,none,none,none]) e2 rfl) (show 2<8 by decide)
 have s3:zbd 3 (zad zbr (dR (zab 1) dR0)) [some (.own st2),vI n,vI w,none,none,none,none,none]=.ok (.nx,[some (.own st2),vI n,vI w,vT (prs n),none,none,none,none]) :=
  zaS (i:=3) (Z1:=[some (.own st2),vI n,vI w,none,none,none,none,none]) (zc1 rfl (zgW h7)) (show 3<8 by decide)
 have s4:zbd 4 (dFz (ze8 zel (dA (zad zaA (dR (zad zaB (dRO 0 (dR (zab 1) dR0))) dR0)) dA0))) [some (.own st2),vI n,vI w,vT (prs n),none,none,none,none]=.ok (.nx,EW st3 n w (zcm l) none none none):=by refine zaS (i:=4) (Z1:=[some (.own st3),vI n,vI w,vT (prs n),none,none,none,none]) (zbI ?_) (show 4<8 by decide);have c:=zkd (Z:=[some (.own st2),vI n,vI w,vT (prs n),none,none,none,none]) (i:=0) (fb:=zab 1) rfl rfl e3;unfold ze8;rw[zbz (zc1 c (zgz (.inr rfl) xwl)) rfl];rfl
 have s6:zbd 6 (zad zcr (dRO 0 (dR (zab 1) dR0))) (EW st5 n w T5 b5 none none)=.ok (.nx,EW st6 n w T5 b5 R0 none) :=
  zaS (i:=6) (Z1:=EW st6 n w T5 b5 none none) (zkd (Z:=EW st5 n w T5 b5 none none) (i:=0) (fb:=zab 1) rfl rfl e6) (show 6<8 by decide)
 rw[zam s1,zam s2,zam s3,zam s4,zam e4,zam e5,zam s6,zam e7,zam e8];have hls:=zqN (T:=T8) λp hp=>by obtain ⟨i,j,rfl,_⟩:=zdi.mp (hT8.1 p hp);simp
 have g:ze8 zeE (dA (zab 4) dA0) (EW st8 n w T8 b5 R0 b7)=.ok ((zfM (ddL T8)).map tz,EW st8 n w T8 b5 R0 b7):=by
  unfold ze8;rw[zbz (d:=.lst (T8.map tz)) (ds:=[]) (Z1:=EW st8 n w T8 b5 R0 b7) (Z2:=EW st8 n w T8 b5 R0 b7) rfl rfl];simp only[R.bind_ok];have:zeE [.lst (T8.map tz)]=.ok ((zfM (ddL T8)).map tz):=by unfold zeE;simp only[hls];rw[if_pos (by have:=hT8.2;lia)];rfl
  rw[this];rfl
 exact zbv (zg9 (zbz (d:=.int n) rfl (zbz (zbZ (d:=.lst ((zfM (ddL T8)).map tz)) (zbI g) rfl) rfl)) xws)
theorem zkB{i k:Nat}:zdw [.s i] k=if i=k then some 0 else none:=by
 unfold zdw zdk;split
 ·rename_i h;simp_all
 ·rename_i h;simp_all [zdk]
theorem zqW{i:Nat}{b:B}:∀{Z:Ev}{k:Nat},k<=i->zfN [.s i] [b] k Z = Z.set (i-k) (some b)
 |[],k,_=>rfl
 |o::r,k,hk=>by
  show (match zdw [.s i] k with|some j=>[b][j]?|none=>o)::zfN [.s i] [b] (k+1) r=_;rw[zkB];by_cases h:i=k
  ·subst h;have q:∀(r:Ev)(k:Nat),i<k->zfN [.s i] [b] k r=r:=λr=>by
    induction r with
    |nil=>intro k _;rfl
    |cons o r ih =>
     intro k hk;show (match zdw [.s i] k with|some j=>[b][j]?|none=>o)::zfN [.s i] [b] (k+1) r=_;rw[ih (k+1) xwl,zkB,if_neg xwl]
   rw[if_pos rfl,q r (i+1) xwl,Nat.sub_self];rfl
  ·rw[if_neg h,zqW (Z:=r) (k:=k+1) xwl,show i-k=(i-(k+1))+1 by lia];rfl
theorem zvd{F:FD}{i:Nat}{Z:Ev}{y:Dt}{st st':List Dt}(hi:Z[i]? = some (some (.own st)))(hF:F [.own st]=.ok (y,[.own st'])):zad F (dRO i dR0) Z=.ok (y,Z.set i (some (.own st'))):=by
 have u:uniq [.s i]=true:=by unfold uniq zbf;rw[zkB];simp[zbf]
 unfold zad dRO dR0;simp only[hi,R.bind_ok,u,if_true,za0,zll,hF];rw[zqW (Nat.zero_le _)];rfl
theorem zoP(n:Nat)(L:List (List Int))(hl:L.length<=1000)(hp:∀ p∈L,p.length<=1000):zav 6 [.val (zbQ n L),.val (zbQ n L)]=.ok (.bl true,[.val .non,.val .non]):=by
 unfold zbQ;refine zhU (n:=4) xws λd hd=>?_;simp only[wap,wak,or_false] at hd;rcases hd with rfl|rfl
 ·exact zl0 4 _
 ·refine zhU (n:=3) (by rw[List.length_map];exact hl) λd hd=>?_;obtain ⟨p,h,rfl⟩:=List.mem_map.mp hd;exact zrY (k:=2) p (hp p h)
theorem zo4(b:Bool):zav 6 [.val (.bl b),.val (.bl b)]=.ok (.bl true,[.val .non,.val .non]):=zao rfl (zjJ rfl rfl (by rw[eqB];simp)) rfl
theorem zp5{l:List (Int×Int)}(h1:1<=l.length)(h7:l.length<=7):zdx (zbQ l.length (zcm l)):=by refine ⟨l.length,zcm l,rfl,h1,h7,λp hp=>(List.mem_filter.mp hp).1,?_⟩;exact (zkG h7).filter _
theorem zg8{n:Nat}{L:List (List Int)}(h:zdx (zbQ n L)):L.length<=21/\∀ p∈L,p.length<=1000:=by
 obtain ⟨m,M,e,h1,h7,hL,hp⟩:=h;obtain ⟨rfl,rfl⟩:=zhT e;refine ⟨?_,λp hp=>?_⟩
 ·have:L.Sublist (prs n):=by rw[(zi5 h7).mpr ⟨hL,hp⟩];exact List.filter_sublist
  have:=this.length_le;have:=zdS h7;lia
 ·obtain ⟨i,j,rfl,_⟩:=zdi.mp (hL p hp);simp
noncomputable def EV(a b c d e f g h i:Option B):Ev:=[a,b,c,d,e,f,g,h,i]
noncomputable def inn:DS:=(zhj (dIt (dFz (zbL (dA (zab 5) (dA (zab 3) dA0))))) (zbg 7) (dIf (za2 (dTB (zad (zav 6) (dR (zad zaG (dR (zab 7) (dR (zab 6) dR0))) (dR (zad zbS (dR (zab 7) (dR (zab 6) dR0))) dR0))))) (zbp (dC (.bl false))) dNx))
noncomputable def outer:DS:=(zaE (zdh 2 (zgc zcq (dR (zab 0) (dR (zab 1) dR0)))) (zaE (zte 3 4 (dA (zad zc4 (dRO 2 dR0)) (dA (zad zaB (dRO 2 (dR (dOp zbt (dC (.int 1)) (zad zae (dRO 2 (dR (dC (.int 7)) dR0)))) dR0))) dA0))) (zaE (zbd 5 (zad zdC (dR (dFz (ze8 zel (dA (zab 4) dA0))) dR0))) (zaE (dIf (zcw (za2 (dTB (zad (zav 6) (dR (zab 5) (dR (zbK (dA (dFn zby (dA (zab 4) dA0)) (dA (zad zaA (dR (zab 4) dR0)) dA0))) dR0))))) (dTB (dOp (zpD true) (zad zbA (dR (zab 3) dR0)) (dC (.bl true))))) (zbp (dC (.bl false))) dNx) (zaE (zhj (dIt (dFz (zbL (dA (zab 4) (dA (zad zaQ (dRO 2 (dR (zab 4) dR0))) (dA (zad zaQ (dRO 2 (dR (zab 4) dR0))) (dA (zbK dA0) dA0))))))) (zbg 6) inn) (zaE (zbd 6 (zad zb3 (dRO 2 (dR (zab 3) dR0)))) (zaE (dIf (za2 (dTB (zad (zav 6) (dR (zad zbA (dR (zab 6) dR0)) (dR (zad zaT (dR (zab 6) dR0)) dR0))))) (zbp (dC (.bl false))) dNx) (dIf (zfj (za2 (dTB (zad zaT (dR (zab 6) dR0)))) (za2 (dTB (zad zax (dRT 8 (dR (zab 6) dR0)))))) (zbp (dC (.bl false))) dNx))))))))
theorem zrR:zlg=(zaE (zhj (zbV (dFn zic (dA (dC (.int 1)) (dA (dFn ziU (dA (dFn zby (dA (zab 0) dA0)) (dA (dC (.int 8)) dA0))) dA0)))) (zbg 1) outer) (zbp (dC (.bl true)))):=rfl
theorem zpZ{a b c s t e:Option B}{o7:Option B}{n m:Nat}{L M:List (List Int)}(hw:zdx (zbQ n L))(hn:n<=7)(ho:zdx (zbQ m M))(hm:m<=7){d:Dt}(hd:Sm d) :
  ∃ b7,inn (EV a b c (some (.val (zbQ n L))) s (some (.val (zbQ m M))) (some (.val d)) o7 e)=.ok (.nx,EV a b c (some (.val (zbQ n L))) s (some (.val (zbQ m M))) (some (.val d)) b7 e):=by
 let E:Option B->Ev:=λo=>EV a b c (some (.val (zbQ n L))) s (some (.val (zbQ m M))) (some (.val d)) o e;have step:∀(k:Nat)(K:List (List Int)),zdx (zbQ k K)->k<=7->(dIf (za2 (dTB (zad (zav 6) (dR (zad zaG (dR (zab 7) (dR (zab 6) dR0))) (dR (zad zbS (dR (zab 7) (dR (zab 6) dR0))) dR0))))) (zbp (dC (.bl false))) dNx) (E (some (.val (zbQ k K))))=.ok (.nx,E (some (.val (zbQ k K)))):=λk K hk h7=>by obtain ⟨q,e1,e2⟩:=zm6 hk h7 hd;have c1:zad zaG (dR (zab 7) (dR (zab 6) dR0)) (E (some (.val (zbQ k K))))=.ok (.bl q,E (some (.val (zbQ k K)))):=zfi (d:=zbQ k K) (e:=d) rfl rfl e1;have c2:zad zbS (dR (zab 7) (dR (zab 6) dR0)) (E (some (.val (zbQ k K))))=.ok (.bl q,E (some (.val (zbQ k K)))):=zfi (d:=zbQ k K) (e:=d) rfl rfl e2;rw[zbO (Z1:=E (some (.val (zbQ k K)))) (zaP (b:=true) (zaM (zfi c1 c2 (zo4 q))))];rfl
 refine ⟨some (.val (zbQ n L)),?_⟩;unfold inn zhj;have hi:dIt (dFz (zbL (dA (zab 5) (dA (zab 3) dA0)))) (E o7)=.ok ([zbQ m M,zbQ n L],E o7):=rfl;show (dIt (dFz (zbL (dA (zab 5) (dA (zab 3) dA0)))) (E o7)).bind _=_;rw[hi];simp only[R.bind_ok];rw[zk1];show (R.ok (E (some (.val (zbQ m M))))).bind _=_;simp only[R.bind_ok];rw[step m M ho hm];simp only[R.bind_ok];rw[zk1];show (R.ok (E (some (.val (zbQ n L))))).bind _=_;simp only[R.bind_ok];rw[step n L hw hn];rfl
theorem zm5{ns:List Int}{k:Nat}{o2 o3 o4 o5 o6 o7:Option B}:∃ b2 b3 b4 b5 b6 b7,outer (EV (some (.val (.scr ns))) (some (.val (.int k))) o2 o3 o4 o5 o6 o7 (some (.tab zhB)))=.ok (.nx,EV (some (.val (.scr ns))) (some (.val (.int k))) b2 b3 b4 b5 b6 b7 (some (.tab zhB))):=by
 let S:Option B:=some (.val (.scr ns));let K:Option B:=some (.val (.int k));let Q:Option B:=some (.tab zhB);obtain ⟨st,hs,e1⟩:=zm9 (ns:=ns) (k:=k);have x1:zdh 2 (zgc zcq (dR (zab 0) (dR (zab 1) dR0))) (EV S K o2 o3 o4 o5 o6 o7 Q)=.ok (.nx,EV S K (some (.own st)) o3 o4 o5 o6 o7 Q) :=
  zlr (i:=2) (Z1:=EV S K o2 o3 o4 o5 o6 o7 Q) (zsZ (Z':=EV S K o2 o3 o4 o5 o6 o7 Q) (Z'':=EV S K o2 o3 o4 o5 o6 o7 Q) rfl rfl e1) (show 2<9 by decide)
 obtain ⟨n,L,st1,hs1,h1,h7,hw,e2⟩:=zpB hs;obtain ⟨v,st2,e3,hs2,v0,v1⟩:=zaZ (m:=7) hs1 xwd xwd;obtain ⟨m,hm⟩ : ∃ m:Nat,(m:Int)=1+v:=⟨(1+v).toNat,xwl⟩
 have m1:1<=m:=by lia
 have m7:m<=7:=by lia
 obtain ⟨l,st3,hs3,hl,e4⟩:=zeD m7 hs2;let W:Option B:=some (.val (zbQ n L));let Zq:Option B:=some (.val (.tup (l.map pz)));have x2:zte 3 4 (dA (zad zc4 (dRO 2 dR0)) (dA (zad zaB (dRO 2 (dR (dOp zbt (dC (.int 1)) (zad zae (dRO 2 (dR (dC (.int 7)) dR0)))) dR0))) dA0)) (EV S K (some (.own st)) o3 o4 o5 o6 o7 Q)=.ok (.nx,EV S K (some (.own st3)) W Zq o5 o6 o7 Q):=by
  have c1:zad zc4 (dRO 2 dR0) (EV S K (some (.own st)) o3 o4 o5 o6 o7 Q)=.ok (zbQ n L,EV S K (some (.own st1)) o3 o4 o5 o6 o7 Q):=zvd (Z:=EV S K (some (.own st)) o3 o4 o5 o6 o7 Q) (i:=2) rfl e2;have c2:dOp zbt (dC (.int 1)) (zad zae (dRO 2 (dR (dC (.int 7)) dR0))) (EV S K (some (.own st1)) o3 o4 o5 o6 o7 Q)=.ok (.int m,EV S K (some (.own st2)) o3 o4 o5 o6 o7 Q) :=
   zat (d:=.int 1) rfl (zkd (Z:=EV S K (some (.own st1)) o3 o4 o5 o6 o7 Q) (i:=2) rfl rfl e3) (by rw[hm];rfl)
  have c3:zad zaB (dRO 2 (dR (dOp zbt (dC (.int 1)) (zad zae (dRO 2 (dR (dC (.int 7)) dR0)))) dR0)) (EV S K (some (.own st1)) o3 o4 o5 o6 o7 Q)=.ok (.tup (l.map pz),EV S K (some (.own st3)) o3 o4 o5 o6 o7 Q) :=
   ztT (Z:=EV S K (some (.own st1)) o3 o4 o5 o6 o7 Q) (Z1:=EV S K (some (.own st2)) o3 o4 o5 o6 o7 Q) (i:=2) rfl c2 rfl e4
  unfold zte;rw[zbz c1 (zbz c3 rfl)];rfl
 let O:=zbQ l.length (zcm l);have hO:zdx (zbQ l.length (zcm l)):=zp5 xwl xwl;have x3:zbd 5 (zad zdC (dR (dFz (ze8 zel (dA (zab 4) dA0))) dR0)) (EV S K (some (.own st3)) W Zq o5 o6 o7 Q)=.ok (.nx,EV S K (some (.own st3)) W Zq (some (.val O)) o6 o7 Q) :=
  zaS (i:=5) (Z1:=EV S K (some (.own st3)) W Zq o5 o6 o7 Q) (zc1 (d:=.lst (l.map pz)) rfl (zg7 (.inl rfl) xwl)) (show 5<9 by decide)
 let V5:Option B:=some (.val O);have x4:(dIf (zcw (za2 (dTB (zad (zav 6) (dR (zab 5) (dR (zbK (dA (dFn zby (dA (zab 4) dA0)) (dA (zad zaA (dR (zab 4) dR0)) dA0))) dR0))))) (dTB (dOp (zpD true) (zad zbA (dR (zab 3) dR0)) (dC (.bl true))))) (zbp (dC (.bl false))) dNx) (EV S K (some (.own st3)) W Zq V5 o6 o7 Q)=.ok (.nx,EV S K (some (.own st3)) W Zq V5 o6 o7 Q):=by
  let Z:=EV S K (some (.own st3)) W Zq V5 o6 o7 Q;have c1:zbK (dA (dFn zby (dA (zab 4) dA0)) (dA (zad zaA (dR (zab 4) dR0)) dA0)) Z=.ok (O,Z) :=
   zg9 (zbz (zbZ (d:=.tup (l.map pz)) (z:=.int l.length) rfl (by simp[zby])) (zbz (zc1 (d:=.tup (l.map pz)) rfl (zgz (.inr rfl) xwl)) rfl)) xws
  obtain ⟨sm1,sm2⟩:=zg8 hO;have c2:za2 (dTB (zad (zav 6) (dR (zab 5) (dR (zbK (dA (dFn zby (dA (zab 4) dA0)) (dA (zad zaA (dR (zab 4) dR0)) dA0))) dR0)))) Z=.ok (false,Z) :=
   zaP (b:=true) (zaM (zfi (d:=O) rfl c1 (zoP _ _ xwl sm2)))
  obtain ⟨q,f1,f2⟩:=zgs (zlj hw);rw[f2.mpr hw] at f1;have c3:dTB (dOp (zpD true) (zad zbA (dR (zab 3) dR0)) (dC (.bl true))) Z=.ok (false,Z):=zaM (zat (zc1 (d:=zbQ n L) rfl f1) rfl rfl);rw[zbO (Z1:=Z) (by rw[zbc c2];exact c3)];rfl
 obtain ⟨d1,st4,hs4,hd1,e5⟩:=zkg (l:=l) xwl xwl hs3;obtain ⟨d2,st5,hs5,hd2,e6⟩:=zkg (l:=l) xwl xwl hs4;let D:List Dt:=[.tup (l.map pz),d1,d2,.tup []]
 have hD:∀ d∈D,Sm d:=λd hd=>by
  simp only[D,wap,wak,or_false] at hd;rcases hd with rfl|rfl|rfl|rfl
  ·exact zff (by rw[List.length_map];lia)
  ·exact hd1
  ·exact hd2
  ·exact zff xwd
 have xi:dIt (dFz (zbL (dA (zab 4) (dA (zad zaQ (dRO 2 (dR (zab 4) dR0))) (dA (zad zaQ (dRO 2 (dR (zab 4) dR0))) (dA (zbK dA0) dA0)))))) (EV S K (some (.own st3)) W Zq V5 o6 o7 Q)=.ok (D,EV S K (some (.own st5)) W Zq V5 o6 o7 Q):=by have c1:zad zaQ (dRO 2 (dR (zab 4) dR0)) (EV S K (some (.own st3)) W Zq V5 o6 o7 Q)=.ok (d1,EV S K (some (.own st4)) W Zq V5 o6 o7 Q):=zkd (Z:=EV S K (some (.own st3)) W Zq V5 o6 o7 Q) (i:=2) rfl rfl e5;have c2:zad zaQ (dRO 2 (dR (zab 4) dR0)) (EV S K (some (.own st4)) W Zq V5 o6 o7 Q)=.ok (d2,EV S K (some (.own st5)) W Zq V5 o6 o7 Q):=zkd (Z:=EV S K (some (.own st4)) W Zq V5 o6 o7 Q) (i:=2) rfl rfl e6;unfold dIt;rw[zf1 (ds:=D) (zbz (d:=.tup (l.map pz)) rfl (zbz c1 (zbz c2 (zbz (d:=.tup []) rfl rfl)))) (by show 4<=1000;decide)];rfl
 obtain ⟨Z',⟨b6,b7,rfl⟩,x5⟩:=ziE (g:=zbg 6) (body:=inn) (ds:=D) (Z:=EV S K (some (.own st5)) W Zq V5 o6 o7 Q)
  (I:=λZ=>∃ a6 a7,Z=EV S K (some (.own st5)) W Zq V5 a6 a7 Q)
  (λd hd Z ⟨a6,a7,hρ⟩=>by subst hρ;obtain ⟨b7,e⟩:=zpZ (a:=S) (b:=K) (c:=some (.own st5)) (s:=Zq) (t:=none) (e:=Q) (o7:=a7) hw h7 hO xwl (hD d hd);exact ⟨EV S K (some (.own st5)) W Zq V5 (some (.val d)) a7 Q,_,rfl,e,_,_,rfl⟩) ⟨o6,o7,rfl⟩
 have x5':zhj (dIt (dFz (zbL (dA (zab 4) (dA (zad zaQ (dRO 2 (dR (zab 4) dR0))) (dA (zad zaQ (dRO 2 (dR (zab 4) dR0))) (dA (zbK dA0) dA0))))))) (zbg 6) inn (EV S K (some (.own st3)) W Zq V5 o6 o7 Q)=.ok (.nx,EV S K (some (.own st5)) W Zq V5 b6 b7 Q):=by unfold zhj;rw[xi];exact x5
 obtain ⟨sm1,sm2⟩:=zg8 hw;obtain ⟨d,st6,hs6,hlw,e7⟩:=zmt (n:=n) (L:=L) xwl sm2 hs5;let V6:Option B:=some (.val d);have x6:zbd 6 (zad zb3 (dRO 2 (dR (zab 3) dR0))) (EV S K (some (.own st5)) W Zq V5 b6 b7 Q)=.ok (.nx,EV S K (some (.own st6)) W Zq V5 V6 b7 Q) :=
  zaS (i:=6) (Z1:=EV S K (some (.own st6)) W Zq V5 b6 b7 Q) (zkd (Z:=EV S K (some (.own st5)) W Zq V5 b6 b7 Q) (i:=2) rfl rfl e7) (show 6<9 by decide)
 let Z6:=EV S K (some (.own st6)) W Zq V5 V6 b7 Q;obtain ⟨q1,f1,g1⟩:=zgs hlw;obtain ⟨q2,f2,g2⟩:=zmW hlw;have hq:q1=q2:=by rw[Bool.eq_iff_iff,g1,g2]
 subst hq;have c1:zad zbA (dR (zab 6) dR0) Z6=.ok (.bl q1,Z6):=zc1 (d:=d) rfl f1;have c2:zad zaT (dR (zab 6) dR0) Z6=.ok (.bl q1,Z6):=zc1 (d:=d) rfl f2;have x7:(dIf (za2 (dTB (zad (zav 6) (dR (zad zbA (dR (zab 6) dR0)) (dR (zad zaT (dR (zab 6) dR0)) dR0))))) (zbp (dC (.bl false))) dNx) Z6=.ok (.nx,Z6):=by rw[zbO (Z1:=Z6) (zaP (b:=true) (zaM (zfi c1 c2 (zo4 q1))))];rfl
 have x8:(dIf (zfj (za2 (dTB (zad zaT (dR (zab 6) dR0)))) (za2 (dTB (zad zax (dRT 8 (dR (zab 6) dR0)))))) (zbp (dC (.bl false))) dNx) Z6=.ok (.nx,Z6):=by
  have c3:=zaP (zaM c2);cases hq:q1 with
  |true =>
   rw[hq] at c3;rw[zbO (Z1:=Z6) (by rw[zi0 c3])];rfl
  |false =>
   rw[hq] at c3;have hno:¬ zdx d:=λh=>by have:=g1.mpr h;rw[hq] at this;cases this
   have c4:zad zax (dRT 8 (dR (zab 6) dR0)) Z6=.ok (.bl true,Z6):=by show ((zax [.val d,.tab zhB]).bind λz=>R.ok (z.1,zfN [.d d,.s 8] z.2 0 Z6))=_;rw[zow hlw hno];rfl
   rw[zbO (Z1:=Z6) (by rw[zeT c3];exact zaP (b:=true) (zaM c4))];rfl
 refine ⟨some (.own st6),W,Zq,V5,V6,b7,?_⟩;unfold outer;rw[zam x1,zam x2,zam x3,zam x4,zam x5',zam x6,zam x7];exact x8
theorem zoW(ns:List Int):zsG 7 zhB zlg ns:=by
 let Z0:Ev:=EV (some (.val (.scr ns))) none none none none none none none (some (.tab zhB));obtain ⟨j,hj,ej⟩ : ∃ j:Int,zcO j=true/\dFn zic (dA (dC (.int 1)) (dA (dFn ziU (dA (dFn zby (dA (zab 0) dA0)) (dA (dC (.int 8)) dA0))) dA0)) Z0=.ok (.int j,Z0):=by refine ⟨(if (if (8:Int)<ns.length then (8:Int) else ns.length) > 1 then (if (8:Int)<ns.length then (8:Int) else ns.length) else 1),?_,rfl⟩;unfold zcO;simp only[wae,war];split <;> split <;> lia
 obtain ⟨Z',⟨a1,a2,a3,a4,a5,a6,a7,rfl⟩,e⟩:=ziE (g:=zbg 1) (body:=outer) (ds:=zaX 0 j.toNat) (Z:=Z0)
  (I:=λZ=>∃ a1 a2 a3 a4 a5 a6 a7,Z=EV (some (.val (.scr ns))) a1 a2 a3 a4 a5 a6 a7 (some (.tab zhB)))
  (λd hd Z ⟨a1,a2,a3,a4,a5,a6,a7,hρ⟩=>by subst hρ;obtain ⟨k,_,rfl⟩:=List.mem_map.mp hd;obtain ⟨b2,b3,b4,b5,b6,b7,e⟩:=zm5 (ns:=ns) (k:=k) (o2:=a2) (o3:=a3) (o4:=a4) (o5:=a5) (o6:=a6) (o7:=a7);refine ⟨EV (some (.val (.scr ns))) (some (.val (.int k))) a2 a3 a4 a5 a6 a7 (some (.tab zhB)),_,?_,e,_,_,_,_,_,_,_,rfl⟩;rw[Int.zero_add];rfl) ⟨none,none,none,none,none,none,none,rfl⟩
 have x:zhj (zbV (dFn zic (dA (dC (.int 1)) (dA (dFn ziU (dA (dFn zby (dA (zab 0) dA0)) (dA (dC (.int 8)) dA0))) dA0)))) (zbg 1) outer Z0=.ok (.nx,EV (some (.val (.scr ns))) a1 a2 a3 a4 a5 a6 a7 (some (.tab zhB))):=by unfold zhj;rw[zq2 ej,zmT hj];exact e
 refine ⟨EV (some (.val (.scr ns))) a1 a2 a3 a4 a5 a6 a7 (some (.tab zhB)),?_⟩;show zlg Z0=_;rw[zrR,zam x];rfl
theorem atN{α:Type}{f g:Nat->α}(h:(List.range 8).map f=(List.range 8).map g):∀ n,n<8->f n=g n:=λn hn=>List.map_inj_left.mp h n (List.mem_range.mpr hn)
theorem xc_of{K:W.Frag}{cls:Nat->Addr}(h:((List.range 8).map λn=>(W.excIn K (cls n) bmV "ValueError.__new__",W.findIn K (.ref (cls n)) "__getattribute__",W.findIn K (.ref (cls n)) "__getattr__",W.findIn K (.ref (cls n)) "__class__",W.subIn K (.ref (cls n)) (.type "BaseException")))=(List.range 8).map λ_=>(true,some (some (.builtin "BaseException.__getattribute__")),some none,some (some (.builtin "object.__class__")),some true)):∀ n,n<8->Xin K (cls n):=λn hn=>by have e:=atN h n hn;simp only[Prod.mk.injEq] at e;exact ⟨e.1,e.2.1,e.2.2.1,e.2.2.2.1,e.2.2.2.2⟩
theorem xi_of{K:W.Frag}{cls:Nat->Addr}(h:((List.range 8).map λn=>(List.range 8).map λk=>W.kitOne K (.ref (cls n)) (.ref (cls k)))=(List.range 8).map λn=>(List.range 8).map λk=>some (n == k)):∀ n k,n<8->k<8->W.kitOne K (.ref (cls n)) (.ref (cls k))=some (n == k):=λn k hn hk=>atN (atN h n hn) k hk
noncomputable abbrev cN(C0 C1 C2 C3 C4 C5 C6 C7:Addr):Nat->Addr:=λn=>match n with|0=>C0|1=>C1|2=>C2|3=>C3|4=>C4|5=>C5|6=>C6|_=>C7
section
variable{K:W.Frag}{h:Heap}{mg:Str->Option Value}(X:K.In h)(G:h.Ns mainGlobals mg)
include X G in
theorem fe{x:String}{i:Nat}{f:Addr}{od an:Option Addr}{sl:Array (Option Value)}{oc kV dc pm cd ct:Value}(a:W.nsIn K mainGlobals (Str.ofString x)=some (some (.ref f)))(l:K.lookup f=some ⟨oc,od,.func (W.fnOf (Str.ofString x) (Str.ofString x) (zdR (top i)) (zbY (top i)) (zah (top i)) .none kV dc pm an cd ct),sl⟩)(c:W.codeIn K cd (Str.ofString x)=true)(k:W.keepIn K (.ref f)=true):Uf K mg x i:=⟨_,_,zo7 (st:=top i) l c k,W.mg_of X G a⟩
include X G in
theorem xs_of{CZ:Addr}{x:Str}{cls:Nat->Addr}(m:W.nsIn K mainGlobals x=some (some (.ref CZ)))(i:Xin K CZ)(s:∀ n,n<8->W.subIn K (.ref (cls n)) (.ref CZ)=some true):∃ Cs,Xin K Cs/\mg x=some (.ref Cs)/\∀ n,n<8->W.subIn K (.ref (cls n)) (.ref Cs)=some true:=⟨_,i,W.mg_of X G m,s⟩
include X G in
theorem ct{x:Str}{i:Int}{t:Tok}(m:W.nsIn K mainGlobals x=some (some (.int i t))):∃ t,mg x=some (.int i t):=⟨_,W.mg_of X G m⟩
include X G in
theorem fin{l:W.OpenLaw}{w:World}{fa f g cL PT:Addr}{C0 C1 C2 C3 C4 C5 C6 C7:Addr}(hfa:mg "law"=some (.ref fa)){od an oe ao:Option Addr}{sl sm:Array (Option Value)}{oc kV dc pm ct o2 k2 d2 p2 c2 cM:Value}(T:Tx K mg (cN C0 C1 C2 C3 C4 C5 C6 C7))
  (a:W.nsIn K mainGlobals (Str.ofString "_law_refusals_right")=some (some (.ref f))) (la:K.lookup f=some ⟨oc,od,.func (W.fnOf (Str.ofString "_law_refusals_right") (Str.ofString "_law_refusals_right") (zdR (top 99)) (zbY (top 99)) (zah (top 99)) .none kV dc pm an (.ref cL) ct),sl⟩) (ca:W.codeIn K (.ref cL) (Str.ofString "_law_refusals_right")=true) (ka:W.keepIn K (.ref f)=true)
  (b:W.nsIn K mainGlobals (Str.ofString "law")=some (some (.ref g))) (lb:K.lookup g=some ⟨o2,oe,.func (W.fnOf (Str.ofString "law") (Str.ofString "law") (zdR (top 100)) (zbY (top 100)) (zah (top 100)) .none k2 d2 p2 ao cM c2),sm⟩) (cb:W.codeIn K cM (Str.ofString "law")=true) (kb:W.keepIn K (.ref g)=true)
  (ch:W.codeHdIn K cL PT=true) :
  ∃(fd:FuncData)(cL:Addr),(∀(s:Shared)(v:Value),BindsTo s fd ⟨[v],[]⟩ [("script",v)])/\W.codeHdIn K cL PT=true/\∀ base:Heap,K.In base->base.Ns mainGlobals mg->base.BuiltinsAt mg PT->zgI l.prog w K mg base (CXe l.prog w) 39 fa fd ["script"] (spT K PT (zsG 7 zhB zlg)):=by
 have e:=hfa.symm.trans (W.mg_of X G b);cases e;exact ⟨W.fnOf "law" "law" (zdR (top 100)) (zbY (top 100)) (zah (top 100)) .none k2 d2 p2 ao cM c2,cL,λs v=>.of_eq rfl,ch,λbase hK _ hb=>zvc T (zo7 (st:=top 100) lb cb kb) (zer T (zo7 (st:=top 99) la ca ka) (W.mg_of X G a) rfl ch hb hK)⟩
end
theorem walk{l:W.OpenLaw}{q:Program}{loose:List Str}{XP:(Str->Option Value)->Heap->Prop}{YP:World->Heap->Prop}{d:DefRec}{K:Params->W.Frag}{PT:Addr}(hn:l.most=some 63)(hdf:d.params.defaults=[])
  (hY:∀(w:World)(h:Heap),YP w h->(K w.params).In h) (hYT:∀(w:World)(h:Heap),YP w h->h.get? PT=some (W.tabObj #[])) (hnt:∀ w:World,W.noTabs (K w.params)=true)
  (F:∀(w:World)(mg:Str->Option Value)(fa:Addr)(h:Heap),(K w.params).In h->h.Ns mainGlobals mg->mg d.name=some (.ref fa) ->
   ∃(fd:FuncData)(cL:Addr),(∀(s:Shared)(u:Value),BindsTo s fd ⟨[u],[]⟩ [("script",u)])/\W.codeHdIn (K w.params) cL PT=true/\∀ base:Heap,(K w.params).In base->base.Ns mainGlobals mg->base.BuiltinsAt mg PT->zgI l.prog w (K w.params) mg base (CXe l.prog w) 39 fa fd ["script"] (spT (K w.params) PT (zsG 7 zhB zlg))) :
  W.WalkO q loose XP YP l.row.toRowW d [] (λf vs=>PySem.call f vs) :=
 zpd (n:=63) (k:=39) (x:="script") (CX:=λw=>CXe l.prog w) (sp:=λw=>spT (K w.params) PT (zsG 7 zhB zlg)) hn xwd hdf ⟨rfl,xwd,xwd⟩ hY hYT hnt F (λw H a ns hl hP hS=>⟨a,ns,rfl,hS,hP,zoW ns,λ_=>rfl⟩) λ_ _ _ _ _ z=>CXe.none z
end Lw
def PySem.W.Fast.tw18013615568558437919:=0
def PySem.W.Fast.tw11913869829450892867:=0
def PySem.W.Fast.tw12401743588008850168:=0
def PySem.W.Fast.tw2821489586148263709:=0
def PySem.W.Fast.tw2702452434851135034:=0
def PySem.W.Fast.tw13419666713700396990:=0
def PySem.W.Fast.tw6020002829876399519:=0
def PySem.W.Fast.tw2647880061915335165:=0
def PySem.W.Fast.tw6308287511733550606:=0
def PySem.W.Fast.tw18434567154346279849:=0
def PySem.W.Fast.tw13113710600091795556:=0
def PySem.W.Fast.tw17353971245959233552:=0
def PySem.W.Fast.tw2921830116239355546:=0
def PySem.W.Fast.tw4864362292169332954:=0
def PySem.W.Fast.tw8277216570066403352:=0
def PySem.W.Fast.tw5356755898143715421:=0
def PySem.W.Fast.tw13601901390030226899:=0
def PySem.W.Fast.tw9792928928676376489:=0
def PySem.W.Fast.tw2839726621657113303:=0
def PySem.W.Fast.tw11430835181621865596:=0
def PySem.W.Fast.tw9975791471619571544:=0
def PySem.W.Fast.tw6913583270497800345:=0
def PySem.W.Fast.tw4661859621089367781:=0
def PySem.W.Fast.tw2113760270036438679:=0
def PySem.W.Fast.tw12189926641677679846:=0
def PySem.W.Fast.tw6857581409786689059:=0
def PySem.W.Fast.tw14879823193005464213:=0
def PySem.W.Fast.tw14423728709527525941:=0
def PySem.W.Fast.tw3101401815614691668:=0
def PySem.W.Fast.tw17452877407384128984:=0
def PySem.W.Fast.tw6585271908231831079:=0
def PySem.W.Fast.tw3519752942281588448:=0
def PySem.W.Fast.tw7479335877264025743:=0
def PySem.W.Fast.tw16384809775043671313:=0
def PySem.W.Fast.tw15042725708642302035:=0
def PySem.W.Fast.tw10216288860430630962:=0
def PySem.W.Fast.tw7574892544534667318:=0
def PySem.W.Fast.tw4244017668049882296:=0
def PySem.W.Fast.tw7245754509963824752:=0
def PySem.W.Fast.tw10885751415122684443:=0
def PySem.W.Fast.tw15388872717619104388:=0
def PySem.W.Fast.tw10604136774203695383:=0
def PySem.W.Fast.tw5119977318083355599:=0
def PySem.W.Fast.tw8395103315693385123:=0
def PySem.W.Fast.tw5170116328459530806:=0
def PySem.W.Fast.tw1925577108335241652:=0
def PySem.W.Fast.tw16451094321088695649:=0
def PySem.W.Fast.tw2490650733593783497:=0
def PySem.W.Fast.tw17158064490208464720:=0
def PySem.W.Fast.tw6248835780342318801:=0
def PySem.W.Fast.tw7946930949769186765:=0
def PySem.W.Fast.tw6433872807130522708:=0
def PySem.W.Fast.tw3039796699445662044:=0
def PySem.W.Fast.tw9028073638083371266:=0
def PySem.W.Fast.tw12984448784400007849:=0
def PySem.W.Fast.tw12404471658653702894:=0
def PySem.W.Fast.tw11794192604679261029:=0
def PySem.W.Fast.tw2667975054510119012:=0
def PySem.W.Fast.tw9146610397790491775:=0
def PySem.W.Fast.tw15040012213804749411:=0
def PySem.W.Fast.tw4839630967347440948:=0
def PySem.W.Fast.tw4114489165109082697:=0
def PySem.W.Fast.tw8032569151924888988:=0
def PySem.W.Fast.tw4784764945584789199:=0
def PySem.W.Fast.tw4827328159897955776:=0
def PySem.W.Fast.tw6125953711420072237:=0
def PySem.W.Fast.tw6975804194462172235:=0
def PySem.W.Fast.tw726927341607493857:=0
def PySem.W.Fast.tw3505253053734329986:=0
def PySem.W.Fast.tw1803409929687980464:=0
def PySem.W.Fast.tw1852816698906637746:=0
def PySem.W.Fast.tw18009492972225871125:=0
def PySem.W.Fast.tw1947229475723539749:=0
def PySem.W.Fast.tw8021844847222631775:=0
def PySem.W.Fast.tw14349755693172709323:=0
def PySem.W.Fast.tw17375007230867040378:=0
def PySem.W.Fast.tw13838370872251692567:=0
def PySem.W.Fast.tw8581395420566908372:=0
def PySem.W.Fast.tw16821132088268352464:=0
def PySem.W.Fast.tw2007480596607954696:=0
def PySem.W.Fast.tw15486687868647006933:=0
def PySem.W.Fast.tw4344979108775900062:=0
def PySem.W.Fast.tw351086520975899626:=0
def PySem.W.Fast.tw7571689831428368036:=0
def PySem.W.Fast.tw16075979353743620268:=0
def PySem.W.Fast.tw13596991648073279092:=0
def PySem.W.Fast.tw4183883735395393447:=0
def PySem.W.Fast.tw9604026942950976629:=0
def PySem.W.Fast.tw11731856187920647377:=0
def PySem.W.Fast.tw8462324748222876033:=0
def PySem.W.Fast.tw2222382702789036840:=0
def PySem.W.Fast.tw4261560215845544164:=0
def PySem.W.Fast.tw3587804212469211783:=0
def PySem.W.Fast.tw6760036131203442657:=0
def PySem.W.Fast.tw8114129549465216195:=0
def PySem.W.Fast.tw4651415627927560658:=0
def PySem.W.Fast.tw9535299789191209491:=0
def PySem.W.Fast.tw9510856875819267231:=0
def PySem.W.Fast.tw1958188995409830137:=0
def PySem.W.Fast.tw10357986506444605252:=0
def PySem.W.Fast.tw9626385934802761478:=0
def PySem.W.Fast.tw9294636377391243723:=0
def PySem.W.Fast.tw756720504949856857:=0
def PySem.W.Fast.tw18198425381686997536:=0
def PySem.W.Fast.tw16691360762757199867:=0
def PySem.W.Fast.tw17371063110528644657:=0
def PySem.W.Fast.tw11434092702420575671:=0
def PySem.W.Fast.tw59017660065989319:=0
def PySem.W.Fast.tw12558913520617271228:=0
def PySem.W.Fast.tw15647399806004288476:=0
def PySem.W.Fast.tw8872332372749467947:=0
def PySem.W.Fast.tw11473161058597479194:=0
def PySem.W.Fast.tw8024346693315816056:=0
def PySem.W.Fast.tw12413890869648916049:=0
def PySem.W.Fast.tw12349091906806079677:=0
def PySem.W.Fast.tw5394377814192686416:=0
def PySem.W.Fast.tw5310897934053897430:=0
def PySem.W.Fast.tw521850370425645478:=0
def PySem.W.Fast.tw13759615951060161152:=0
def PySem.W.Fast.tw15717611425329656777:=0
def PySem.W.Fast.tw25104870200992733:=0
def PySem.W.Fast.tw12040049059296317430:=0
def PySem.W.Fast.tw13961767634716334080:=0
def PySem.W.Fast.tw12140516277129891908:=0
def PySem.W.Fast.tw8513125265974006432:=0
def PySem.W.Fast.tw12472268954885944918:=0
def PySem.W.Fast.tw12384795891607509091:=0
def PySem.W.Fast.tw1439696527757753824:=0
def PySem.W.Fast.tw13688411506307001081:=0
def PySem.W.Fast.tw13399969672167864086:=0
def PySem.W.Fast.tw11431720111317913246:=0
def PySem.W.Fast.tw14993056203216417423:=0
def PySem.W.Fast.tw7591211203892342953:=0
def PySem.W.Fast.tw11065936906524183763:=0
def PySem.W.Fast.tw14597669492513958944:=0
def PySem.W.Fast.tw6855462903805830368:=0
def PySem.W.Fast.tw14583895191205141609:=0
def PySem.W.Fast.tw436066955666923717:=0
def PySem.W.Fast.tw1005866475340548379:=0
def PySem.W.Fast.tw11628391776667549716:=0
def PySem.W.Fast.tw9844691123275532831:=0
def PySem.W.Fast.tw15755561258530583222:=0
def PySem.W.Fast.tw11868958771829773185:=0
def PySem.W.Fast.tw6993095982127204632:=0
def PySem.W.Fast.tw14048355710007505947:=0
def PySem.W.Fast.tw2837309848969628294:=0
def PySem.W.Fast.tw8926498380146856200:=0
def PySem.W.Fast.tw11985946940766595770:=0
def PySem.W.Fast.tw15167945902007159430:=0
def PySem.W.Fast.tw18242689799372259601:=0
def PySem.W.Fast.tw14092333881217790108:=0
def PySem.W.Fast.tw4323131609620733484:=0
def PySem.W.Fast.tw13825295434330358572:=0
def PySem.W.Fast.tw15430067650103360788:=0
def PySem.W.Fast.tw8755570031451208487:=0
def PySem.W.Fast.tw6467453318045389499:=0
def PySem.W.Fast.tw9180201710787061038:=0
def PySem.W.Fast.tw12193980812216623904:=0
def PySem.W.Fast.tw15974552426864038276:=0
def PySem.W.Fast.tw6325717876566931784:=0
def PySem.W.Fast.tw18349759757594357359:=0
def PySem.W.Fast.tw6699123428981207457:=0
def PySem.W.Fast.tw11386635733801714261:=0
def PySem.W.Fast.tw8802334845777838842:=0
def PySem.W.Fast.tw2006481539163615169:=0
def PySem.W.Fast.tw3842835367295987989:=0
def PySem.W.Fast.tw9899979090351720957:=0
def PySem.W.Fast.tw17237026157274680695:=0
def PySem.W.Fast.tw6806108843736975042:=0
def PySem.W.Fast.tw14411037427915286254:=0
open PySem PySem.W PyProof.Rows
set_option maxRecDepth 100000 in
set_option maxHeartbeats 0 in
theorem PySem.Challenge.cw_standtogether_k50_webs_and_stretches_kno_holds : PySem.Challenge.rw_standtogether_k50_webs_and_stretches_kno.Holds := by
  w_on; o_law; k_head; (case hw => w_witness2)
  k_fill
  refine Lw.walk (l := PySem.Challenge.rw_standtogether_k50_webs_and_stretches_kno) rfl rfl (fun w h Y => PySem.W.km_in_of Y) (fun w h Y => PySem.W.km_tabs_of Y _ List.mem_cons_self) (fun w => by kernel_rfl) ?F
  case F =>
    intro w mg fa h KX G hmg
    refine' Lw.fin KX G hmg ⟨Lw.xc_of ?_,PySem.W.mg_of KX G ?x0,PySem.W.mg_of KX G ?x1,PySem.W.mg_of KX G ?x2,PySem.W.mg_of KX G ?x3,PySem.W.mg_of KX G ?x4,PySem.W.mg_of KX G ?x5,PySem.W.mg_of KX G ?x6,
     PySem.W.mg_of KX G ?x7,Lw.xs_of KX G ?x8 ⟨?_,?_,?_,?_,?_⟩ (Lw.atN ?_),Lw.xi_of ?_,Lw.atN ?_,Lw.fe KX G ?_ ?_ ?_ ?_,Lw.fe KX G ?_ ?_ ?_ ?_,Lw.fe KX G ?_ ?_ ?_ ?_,Lw.fe KX G ?_ ?_ ?_ ?_,
     Lw.fe KX G ?_ ?_ ?_ ?_,Lw.fe KX G ?_ ?_ ?_ ?_,Lw.fe KX G ?_ ?_ ?_ ?_,Lw.fe KX G ?_ ?_ ?_ ?_,Lw.fe KX G ?_ ?_ ?_ ?_,Lw.fe KX G ?_ ?_ ?_ ?_,Lw.fe KX G ?_ ?_ ?_ ?_,Lw.fe KX G ?_ ?_ ?_ ?_,
     Lw.fe KX G ?_ ?_ ?_ ?_,Lw.fe KX G ?_ ?_ ?_ ?_,Lw.fe KX G ?_ ?_ ?_ ?_,Lw.fe KX G ?_ ?_ ?_ ?_,Lw.fe KX G ?_ ?_ ?_ ?_,Lw.fe KX G ?_ ?_ ?_ ?_,Lw.fe KX G ?_ ?_ ?_ ?_,Lw.fe KX G ?_ ?_ ?_ ?_,
     Lw.fe KX G ?_ ?_ ?_ ?_,Lw.fe KX G ?_ ?_ ?_ ?_,Lw.fe KX G ?_ ?_ ?_ ?_,Lw.fe KX G ?_ ?_ ?_ ?_,Lw.fe KX G ?_ ?_ ?_ ?_,Lw.fe KX G ?_ ?_ ?_ ?_,Lw.fe KX G ?_ ?_ ?_ ?_,Lw.fe KX G ?_ ?_ ?_ ?_,
     Lw.fe KX G ?_ ?_ ?_ ?_,Lw.fe KX G ?_ ?_ ?_ ?_,Lw.fe KX G ?_ ?_ ?_ ?_,Lw.fe KX G ?_ ?_ ?_ ?_,Lw.fe KX G ?_ ?_ ?_ ?_,Lw.fe KX G ?_ ?_ ?_ ?_,Lw.fe KX G ?_ ?_ ?_ ?_,Lw.fe KX G ?_ ?_ ?_ ?_,
     PySem.W.mg_none_of KX G ?_,PySem.W.mg_none_of KX G ?_,PySem.W.mg_none_of KX G ?_,PySem.W.mg_none_of KX G ?_,PySem.W.mg_none_of KX G ?_,PySem.W.mg_none_of KX G ?_,PySem.W.mg_none_of KX G ?_,PySem.W.mg_none_of KX G ?_,
     PySem.W.mg_none_of KX G ?_,PySem.W.mg_none_of KX G ?_,PySem.W.mg_none_of KX G ?_,PySem.W.mg_none_of KX G ?_,PySem.W.mg_none_of KX G ?_,PySem.W.mg_none_of KX G ?_,Lw.ct KX G ?_,Lw.ct KX G ?_,
     Lw.ct KX G ?_,Lw.ct KX G ?_,Lw.ct KX G ?_,Lw.ct KX G ?_,Lw.ct KX G ?_⟩ ?_ ?_ ?_ ?_ ?_ ?_ ?_ ?_ ?_
    (case x0|x1|x2|x3|x4|x5|x6|x7|x8 => k_is)
    all_goals try first | k_is | kernel_rfl
end
