import PyProof.Rows.All
import Wide.All
import OpenK.AllK
import Wide.FinOn
import Lean
import PyProof.EqAt
import PyProof.EqKinds
import PyProof.TupleCall
import PySem.Challenge.RW_standtogether_k12_parties_of_trees
set_option Elab.async false
set_option linter.all false
set_option maxRecDepth 100000
set_option maxHeartbeats 4000000
section
open PySem PySem.Spec PyProof.Rows
theorem xwo{p:Prop}(h:p:=by omega):p:=h
theorem xwl{p:Prop}(h:p:=by lia):p:=h
theorem xws{p:Prop}(h:p:=by simp):p:=h
theorem xwk{p:Prop}(h:p:=by kernel_rfl):p:=h
theorem xwd{p:Prop}(h:p:=by decide):p:=h
theorem xwD{p:Prop}(h:p:=by decide +kernel):p:=h
theorem xwO{p:Prop}(h:p:=by first|exact Or.inl rfl|exact Or.inr rfl):p:=h
theorem xwV{p:Prop}(h:p:=by first|exact Or.inl rfl|exact Or.inr (Or.inl rfl)|exact Or.inr (Or.inr rfl)):p:=h
theorem xwA{p:Prop}(h:p:=by first|exact .inl rfl|exact .inr rfl|assumption):p:=h
theorem xwN{i:Nat}{l:List Nat}(h:l.contains i=false):i∉l:=λm=>by rw[List.contains_iff_mem.mpr m] at h;cases h
def waa:=@Heap.get?_push_of_some
def wab:=@wpAny_bind
def wac:=@List.getElem?_eq_getElem
def wad:=@wpAny_pure
def wae:=@Bool.and_eq_true
def waf:=@List.size_toArray
def wag:=@List.length_map
def wah:=@List.mem_cons_of_mem
def wai:=@Heap.lt_size
def waj:=@Heap.get?_push_size
def wak:=@List.not_mem_nil
def wal:=@Nat.le_refl
def wam:=@List.getElem?_eq_some_iff
def wan:=@List.length_cons
def wap:=@List.mem_cons
def war:=@decide_eq_true_eq
def was:=@Nat.lt_of_lt_of_le
def wat:=@decide_eq_true
def wau:=@List.mem_cons_self
def wav:=@List.length_append
def waw:=@decide_eq_false
def wax:=@List.mem_append
def way:=@List.getElem?_set_self
def waz:=@List.mem_append_right
def waA:=@Option.some.inj
def waH:=@List.mem_of_getElem?
def waI:=@List.exists_cons_of_ne_nil
def waL:=@Nat.lt_irrefl
def waM:=@Nat.ne_of_lt
def waN:=@Nat.le_trans
def waO:=@False.elim
def waR:=@List.mem_append_left
def waT:=@Nat.le_add_right
end
section
namespace L2
open PySem PySem.Spec PyProof.Rows
abbrev Key:=Sum Int Str
def zwY:Key->Value->Bool
 |.inl k,v=>Value.isInt k v
 |.inr x,v=>Value.isStrOf x v
def keyH(w:World):Key->Int
 |.inl k=>hashInt k
 |.inr x=>hashStr w x
theorem zb7:∀{k:Key}{v:Value},zwY k v=true->(∃ i t,k=Sum.inl i/\v=Value.int i t)\/(∃ x t,k=Sum.inr x/\v=Value.str x t)
 |.inl i,v,h=>by obtain ⟨t,e⟩:=Value.isInt_shape (k:=i) (v:=v) h;exact .inl ⟨i,t,rfl,e⟩
 |.inr x,v,h=>by obtain ⟨t,e⟩:=Value.isStrOf_shape (x:=x) (v:=v) h;exact .inr ⟨x,t,rfl,e⟩
theorem zy2(a b:Int):decide ((Sum.inl a:Key)=Sum.inl b)=(a == b):=by
 by_cases e:a=b
 ·subst e;simp
 ·have h:¬ (Sum.inl a:Key)=Sum.inl b:=λq=>e (Sum.inl.inj q);rw[decide_eq_false h];exact (beq_eq_false_iff_ne.mpr e).symm
theorem zxq(a b:Str):decide ((Sum.inr a:Key)=Sum.inr b)=decide (a=b):=by
 by_cases e:a=b
 ·subst e;simp
 ·have h:¬ (Sum.inr a:Key)=Sum.inr b:=λq=>e (Sum.inr.inj q);rw[decide_eq_false h,decide_eq_false e]
theorem zxp(a:Int)(b:Str):decide ((Sum.inl a:Key)=Sum.inr b)=false:=waw (λq=>nomatch q)
theorem zyg(a:Str)(b:Int):decide ((Sum.inr a:Key)=Sum.inl b)=false:=waw (λq=>nomatch q)
def zsy(prog:Program)(w:World):PySem.KeyKind prog w Key where
 is:=zwY
 hash:=keyH w
 inj:=λv a b ha hb=>by
  rcases zb7 ha with ⟨i,t,rfl,rfl⟩|⟨x,t,rfl,rfl⟩
  ·rcases zb7 hb with ⟨j,u,rfl,e⟩|⟨y,u,rfl,e⟩
   ·injection e with e1 _;rw[e1]
   ·exact nomatch e
  ·rcases zb7 hb with ⟨j,u,rfl,e⟩|⟨y,u,rfl,e⟩
   ·exact nomatch e
   ·injection e with e1 _;rw[e1]
 byValue:=λk v h=>by rcases zb7 h with ⟨i,t,rfl,rfl⟩|⟨x,t,rfl,rfl⟩ <;> rfl
 pyHash:=λhv h=>by
  rcases zb7 hv with ⟨i,t,rfl,rfl⟩|⟨x,t,rfl,rfl⟩
  ·exact wpAny_pyHash_int h
  ·exact wpAny_pyHash_str h
 eqBool:=λhu hv h=>by
  rcases zb7 hu with ⟨i,t,rfl,rfl⟩|⟨x,t,rfl,rfl⟩
  ·rcases zb7 hv with ⟨j,u,rfl,rfl⟩|⟨y,u,rfl,rfl⟩
   ·rw[zy2] at h;exact wpAny_eqBool_int h
   ·rw[zxp] at h;exact SeqAt.EqAt.int_str i t y u _ _ _ _ h
  ·rcases zb7 hv with ⟨j,u,rfl,rfl⟩|⟨y,u,rfl,rfl⟩
   ·rw[zyg] at h;exact SeqAt.EqAt.str_int x t j u _ _ _ _ h
   ·rw[zxq] at h;exact wpAny_eqBool_str h
 «strs» := λk x t v h=>by
  rcases zb7 h with ⟨i,u,rfl,e⟩|⟨y,u,rfl,e⟩
  ·exact nomatch e
  ·injection e with e1 _;subst e1;cases v <;> rfl
end L2
namespace L2
open PySem PySem.Spec PyProof.Rows
inductive V where
 |non|bl (b:Bool)|int (i:Int)|str (x:Str)|byt (b:Array UInt8)|flt (b:UInt64)|ref (a:Addr)|ty (n:String)
 deriving DecidableEq
def zc9:V->Value->Prop
 |.non,u=>u=Value.none
 |.bl b,u=>u=Value.bool b
 |.int i,u=>∃ t,u=Value.int i t
 |.str x,u=>∃ t,u=Value.str x t
 |.byt b,u=>∃ t,u=Value.bytes b t
 |.flt b,u=>∃ t,u=Value.float b t
 |.ref a,u=>u=Value.ref a
 |.ty n,u=>u=Value.type n
abbrev zbs:List V->List Value->Prop:=Paired zc9
theorem zbs.length{xs:List V}{us:List Value}(r:zbs xs us):xs.length=us.length:=Paired.length r
theorem zbs.get:∀{xs:List V}{us:List Value}{i:Nat}{x:V},zbs xs us->xs[i]? = some x->∃ u,us[i]? = some u/\zc9 x u
 |_,_,_,_,.nil,e=>by simp at e
 |_,_,0,_,.cons r _,e=>by simp at e;subst e;exact ⟨_,rfl,r⟩
 |_,_,i+1,x,.cons _ t,e=>by obtain ⟨u,h1,h2⟩:=zbs.get (i:=i) (x:=x) t (by simpa using e);exact ⟨u,by simpa using h1,h2⟩
theorem zbs.set{x:V}{u:Value}(r:zc9 x u):∀{xs:List V}{us:List Value}(i:Nat),zbs xs us->zbs (xs.set i x) (us.set i u)
 |_,_,_,.nil=>.nil
 |_,_,0,.cons _ t=>.cons r t
 |_,_,i+1,.cons q t=>.cons q (zbs.set r i t)
theorem zbs.append:∀{xs ys:List V}{us ws:List Value},zbs xs us->zbs ys ws->zbs (xs++ys) (us++ws)
 |_,_,_,_,.nil,s=>s
 |_,_,_,_,.cons r t,s=>.cons r (zbs.append t s)
theorem zbs.take:∀{xs:List V}{us:List Value}(n:Nat),zbs xs us->zbs (xs.take n) (us.take n)
 |_,_,0,_=>.nil
 |_,_,_+1,.nil=>.nil
 |_,_,n+1,.cons r t=>.cons r (zbs.take n t)
theorem zbs.drop:∀{xs:List V}{us:List Value}(n:Nat),zbs xs us->zbs (xs.drop n) (us.drop n)
 |_,_,0,r=>r
 |_,_,_+1,.nil=>.nil
 |_,_,n+1,.cons _ t=>zbs.drop n t
def RelO:Option V->Option Value->Prop
 |some v,some u=>zc9 v u
 |none,none=>True
 |_,_=>False
def KV{κ:Type}:List (κ×V)->List (κ×Value)->Prop:=Paired λ(p:κ×V) (q:κ×Value)=>p.1=q.1/\zc9 p.2 q.2
def kV:Key->V
 |.inl i=>.int i
 |.inr x=>.str x
inductive HO where
  |lst (xs:List V)
  |tup (xs:List V)
  |dK (kvs:List (Key×V))|dT (kvs:List (List Key×V))
  |set (S:Int->Bool) (n:Nat)
  |ins (C dx:Addr) (fs:List (Str×V))
  |own (x:Addr)
  |xd (fs:List (Str×V))
  |met (f x:Addr)
  |rng (lo hi:Int)
  |frz (o:Obj) (u:HO)
  |tbl (ps:Array Value)
  |ext (φ : Heap->Prop)
abbrev Hp:=Addr->Option HO
def upd(H:Hp)(a:Addr)(o:HO):Hp:=λb=>if b=a then some o else H b
theorem za5{H:Hp}{a:Addr}{o:HO}:upd H a o a=some o:=by unfold upd;rw[if_pos rfl]
theorem za1{H:Hp}{a b:Addr}{o:HO}(h:b≠a):upd H a o b=H b:=by unfold upd;rw[if_neg h]
theorem zay{H:Hp}{a b:Addr}{o:HO}(h:H a=some o)(h':H b=none):a≠b:=by intro e;subst e;rw[h] at h';cases h'
section
variable(P:Program)(w:World)
def zeN(H:Hp)(h:Heap)(a:Addr):HO->Prop
 |.lst xs=>xs.length<=sizeLine/\∃(its:List Value)(n:Nat),zbs xs its/\h.get? a=some { cls:=.type "list",data:=.seq its.toArray n }
 |.tup xs=>xs.length<=sizeLine/\∃ its:List Value,zbs xs its/\∃ n,h.get? a=some { cls:=.type "tuple",data:=.seq its.toArray n }
 |.dK kvs=>kvs.length<=sizeLine/\(a == sysModules)=false/\∃ vs,KV kvs vs/\h.DictOf (zsy P w) a vs
 |.dT kvs=>kvs.length<=sizeLine/\(a == sysModules)=false/\∃ xs:List (List Key×Addr×Value),
   Paired (λ(p:List Key×V) (q:List Key×Addr×Value)=>p.1=q.1/\H q.2.1=some (.tup (p.1.map kV))/\zc9 p.2 q.2.2) kvs xs /\
   ∃ o es ep,h.get? a=some o/\o.ExactDict/\o.data=.dict es ep/\es.toList=xs.map (entryOfKey (tupleKind (zsy P w)))/\(xs.map (·.1)).Nodup
 |.set S n=>h.SetOf (intKind P w) a S n
 |.ins C dx fs=>H dx=some (.own a)/\fs.length<=1000/\dx≠a/\h.get? a=some (W.instObj C dx) /\
   ∃ mA,h.Ns1 dx mA/\(∀ f,RelO (fs.lookup f) (mA f))/\PySem.Within mA (fs.map (·.1))
 |.own _=>∃ o,h.get? a=some o
 |.xd fs=>∃ mA,h.Ns1 a mA/\∀ f,RelO (fs.lookup f) (mA f)
 |.rng lo hi=>∃ t u v,h.get? a=some { cls:=.type "range",data:=.fields #[.int lo t,.int hi u,.int 1 v] }
 |.frz o u=>h.get? a=some o/\zeN H h a u
 |.tbl ps=>h.get? a=some { cls:=.none,data:=.fields ps }
 |.met f x=>h.get? a=some (W.methodObj (.ref f) (.ref x))
 |.ext φ => φ h/\(∃ o,h.get? a=some o)/\∀ h1 h2:Heap,φ h1->(∀ o,h1.get? a=some o->h2.get? a=some o)->φ h2
def HOk(H:Hp)(h:Heap):Prop:=∀ a o,H a=some o->zeN P w H h a o
end
section
variable{P:Program}{w:World}{H H':Hp}{h h':Heap}{a:Addr}{o:HO}
theorem zeN.lt(x:zeN P w H h a o):a<h.objs.size:=by
 cases o with
 |lst xs=>obtain ⟨_,_,_,_,e⟩:=x;exact wai e
 |tup xs=>obtain ⟨_,_,_,_,e⟩:=x;exact wai e
 |dK kvs=>obtain ⟨_,_,_,_,o,_,_,e,_⟩:=x;exact wai e
 |dT kvs=>obtain ⟨_,_,_,_,o,_,_,e,_⟩:=x;exact wai e
 |set S n=>obtain ⟨o,_,_,_,e,_⟩:=x;exact wai e
 |ins C dx fs=>obtain ⟨_,_,_,e,_⟩:=x;exact wai e
 |own y=>obtain ⟨_,e⟩:=x;exact wai e
 |xd fs=>obtain ⟨_,⟨_,_,_,e,_⟩,_⟩:=x;exact wai e
 |rng lo hi=>obtain ⟨_,_,_,e⟩:=x;exact wai e
 |frz ob u=>obtain ⟨e,_⟩:=x;exact wai e
 |tbl ps=>exact wai (show h.get? a=some _ from x)
 |met f y=>exact wai (show h.get? a=some _ from x)
 |ext φ => obtain ⟨_,⟨_,e⟩,_⟩:=x;exact wai e
theorem Paired.mapP{α β:Type}{F G:α->β->Prop}:∀{l₁:List α}{l₂:List β},Paired F l₁ l₂->(∀ a b,F a b->G a b)->Paired G l₁ l₂
 |_,_,.nil,_=>.nil
 |_,_,.cons r t,f=>.cons (f _ _ r) (Paired.mapP t f)
theorem zeN.stay(x:zeN P w H h a o)(k:∀ b u,(b=a\/H b=some (.own a))->h.get? b=some u->h'.get? b=some u)
  (ho:∀ b,H b=some (.own a)->H' b=some (.own a)) (ht:∀ b xs,H b=some (.tup xs)->H' b=some (.tup xs)):zeN P w H' h' a o:=by
 induction o with
 |lst xs=>obtain ⟨z,its,n,r,e⟩:=x;exact ⟨z,its,n,r,k _ _ (.inl rfl) e⟩
 |tup xs=>obtain ⟨z,its,r,n,e⟩:=x;exact ⟨z,its,r,n,k _ _ (.inl rfl) e⟩
 |dK kvs=>obtain ⟨z,y,vs,r,ob,es,ep,e,c⟩:=x;exact ⟨z,y,vs,r,ob,es,ep,k _ _ (.inl rfl) e,c⟩
 |dT kvs =>
  obtain ⟨z,y,xs,r,ob,es,ep,e,c⟩:=x;exact ⟨z,y,xs,Paired.mapP r λp q z=>⟨z.1,ht _ _ z.2.1,z.2.2⟩,ob,es,ep,k _ _ (.inl rfl) e,c⟩
 |set S n=>obtain ⟨ob,es,ep,t,e,c⟩:=x;exact ⟨ob,es,ep,t,k _ _ (.inl rfl) e,c⟩
 |ins C dx fs =>
  obtain ⟨d,z,ne,e,mA,⟨od,es,ep,e2,c⟩,r⟩:=x;exact ⟨ho _ d,z,ne,k _ _ (.inl rfl) e,mA,⟨od,es,ep,k _ _ (.inr d) e2,c⟩,r⟩
 |own y=>obtain ⟨ob,e⟩:=x;exact ⟨ob,k _ _ (.inl rfl) e⟩
 |xd fs=>obtain ⟨mA,⟨od,es,ep,e,c⟩,r⟩:=x;exact ⟨mA,⟨od,es,ep,k _ _ (.inl rfl) e,c⟩,r⟩
 |rng lo hi=>obtain ⟨t,u,v,e⟩:=x;exact ⟨t,u,v,k _ _ (.inl rfl) e⟩
 |frz ob u ih=>obtain ⟨e,q⟩:=x;exact ⟨k _ _ (.inl rfl) e,ih q⟩
 |tbl ps =>
  have e:h.get? a=some { cls:=.none,data:=.fields ps }:=x;show h'.get? a=some { cls:=.none,data:=.fields ps };exact k a _ (.inl rfl) e
 |met f y =>
  have e:h.get? a=some (W.methodObj (.ref f) (.ref y)):=x;show h'.get? a=some (W.methodObj (.ref f) (.ref y));exact k a _ (.inl rfl) e
 |ext φ => obtain ⟨p,⟨o,e⟩,st⟩:=x;exact ⟨st _ _ p λo q=>k _ _ (.inl rfl) q,⟨o,k _ _ (.inl rfl) e⟩,st⟩
theorem HOk.lt(x:HOk P w H h)(e:H a=some o):a<h.objs.size:=(x a o e).lt
theorem HOk.fresh(x:HOk P w H h)(e:h.objs.size<=a):H a=none:=by
 cases q:H a with
 |none=>rfl
 |some u=>exact absurd (was (x.lt q) e) (waL _)
theorem HOk.kept(x:HOk P w H h)(k:∀ b u,h.get? b=some u->h'.get? b=some u):HOk P w H h':=λa o e =>
 (x a o e).stay (λb u _ q=>k b u q) (λ_ q=>q) λ_ _ q=>q
theorem HOk.laid(x:HOk P w H h)(k:∀ b u,h.get? b=some u->h'.get? b=some u)(hp:h.objs.size<=a)(new:zeN P w (upd H a o) h' a o):HOk P w (upd H a o) h':=λb u e=>by
 have hn:=x.fresh hp;by_cases hb:b=a
 ·subst hb;rw[za5] at e;cases e;exact new
 ·rw[za1 hb] at e;exact (x b u e).stay (λc v _ q=>k c v q) (λc q=>by rw[za1 (zay q hn)];exact q) λc xs q=>by rw[za1 (zay q hn)];exact q
end
def Rd(H:Hp)(a:Addr)(u:HO):Prop:=H a=some u\/∃ o,H a=some (.frz o u)
theorem Rd.of{H:Hp}{a:Addr}{u:HO}(h:H a=some u):Rd H a u:=.inl h
theorem Rd.ok{P:Program}{w:World}{H:Hp}{h:Heap}{a:Addr}{u:HO}(r:Rd H a u)(x:HOk P w H h):zeN P w H h a u:=by
 rcases r with r|⟨o,r⟩
 ·exact x a u r
 ·obtain ⟨_,q⟩:=x a _ r;exact q
def Mut:Option HO->Prop
 |some (.lst _)=>True
 |some (.dK _)=>True
 |some (.dT _)=>True
 |some (.set _ _)=>True
 |some (.ins _ _ _)=>True
 |some (.ext _)=>True
 |_=>False
section
variable{P:Program}{w:World}{H:Hp}{h h':Heap}{x e:Addr}{o':HO}
theorem HOk.write(ok:HOk P w H h)(mu:Mut (H x))(he:e=x\/H e=some (.own x))(k:∀ b u,b≠e->h.get? b=some u->h'.get? b=some u)(heo:∃ u,h'.get? e=some u)
  (new:zeN P w (upd H x o') h' x o'):HOk P w (upd H x o') h':=λb u q=>by
 have nown:∀ c y,H c=some (.own y)->c≠x:=λc y r z=>by subst z;rw[r] at mu;exact mu
 have ntup:∀ c xs,H c=some (.tup xs)->c≠x:=λc xs r z=>by subst z;rw[r] at mu;exact mu
 by_cases hb:b=x
 ·subst hb;rw[za5] at q;cases q;exact new
 ·rw[za1 hb] at q;by_cases hbe:b=e
  ·have q':H b=some (.own x):=by
    rcases he with z|z
    ·exact absurd (hbe.trans z) hb
    ·rw[hbe];exact z
   rw[q] at q';cases q';obtain ⟨v,hv⟩:=heo;exact ⟨v,by rw[hbe];exact hv⟩
  ·refine (ok b u q).stay (λc v hc r=>k c v ?_ r) (λc r=>by rw[za1 (nown c b r)];exact r) λc xs r=>by rw[za1 (ntup c xs r)];exact r
   rcases hc with rfl|hc
   ·exact hbe
   ·rintro rfl;rcases he with z|z
    ·exact nown c b hc z
    ·rw[hc] at z;cases z;exact hb rfl
end
structure Un(fs ex:List Addr)(H H':Hp)(h h':Heap):Prop where
 keep:∀ b o,h.get? b=some o->H b=none->b∉fs->b∉ex->h'.get? b=some o
 slot:∀ b o,h.get? b=some o->H b=none->b∈fs->b∉ex->∃ sl,h'.get? b=some { o with slots:=sl }
 free:∀ b o,h.get? b=some o->H b=none->b∉ex->H' b=none
 there:∀ b o,h.get? b=some o->b∉ex->∃ o',h'.get? b=some o'
 tups:∀ b xs,H b=some (.tup xs)->H' b=some (.tup xs)
 frzs:∀ b o u,H b=some (.frz o u)->H' b=some (.frz o u)
 tbls:∀ b ps,H b=some (.tbl ps)->∃ more,H' b=some (.tbl (ps++more))
section
variable{fs fs' ex ex':List Addr}{H H1 H2:Hp}{h h1 h2 h':Heap}{a x e:Addr}{o:HO}
theorem Un.any(u:Un fs ex H H1 h h1){b:Addr}{ob:Obj}(q:h.get? b=some ob)(n:H b=none)(hx:b∉ex):∃ sl,h1.get? b=some { ob with slots:=sl }:=by
 by_cases hb:b∈fs
 ·exact u.slot b ob q n hb hx
 ·exact ⟨ob.slots,u.keep b ob q n hb hx⟩
theorem Un.trans(a:Un fs ex H H1 h h1)(b:Un fs ex H1 H2 h1 h2):Un fs ex H H2 h h2 where
 keep:=λc ob q n hc hx=>b.keep c ob (a.keep c ob q n hc hx) (a.free c ob q n hx) hc hx
 slot:=λc ob q n hc hx=>by obtain ⟨sl,e1⟩:=a.slot c ob q n hc hx;obtain ⟨sl',e2⟩:=b.slot c _ e1 (a.free c ob q n hx) hc hx;exact ⟨sl',e2⟩
 free:=λc ob q n hx=>by obtain ⟨o',e1⟩:=a.there c ob q hx;exact b.free c o' e1 (a.free c ob q n hx) hx
 there:=λc ob q hx=>by obtain ⟨o',e1⟩:=a.there c ob q hx;exact b.there c o' e1 hx
 tups:=λc xs q=>b.tups c xs (a.tups c xs q)
 frzs:=λc ob xs q=>b.frzs c ob xs (a.frzs c ob xs q)
 tbls:=λc ps q=>by obtain ⟨m1,e1⟩:=a.tbls c ps q;obtain ⟨m2,e2⟩:=b.tbls c _ e1;exact ⟨m1++m2,by rw[e2,Array.append_assoc]⟩
theorem Un.kept(k:∀ b u,h.get? b=some u->h'.get? b=some u):Un fs ex H H h h' :=
 ⟨λb ob q _ _ _=>k b ob q,λb ob q _ _ _=>⟨ob.slots,k b ob q⟩,λ_ _ _ n _=>n,λb ob q _=>⟨ob,k b ob q⟩,λ_ _ q=>q,λ_ _ _ q=>q,λ_ ps q=>⟨#[],by rw[q];simp⟩⟩
theorem Un.refl:Un fs ex H H h h:=Un.kept λ_ _ q=>q
theorem Un.laid(k:∀ b u,h.get? b=some u->h'.get? b=some u)(hp:h.objs.size<=a)(hn:H a=none):Un fs ex H (upd H a o) h h' where
 keep:=λb u q _ _ _=>k b u q
 slot:=λb u q _ _ _=>⟨u.slots,k b u q⟩
 free:=λb u q n _=>by rw[za1 (Nat.ne_of_lt (Nat.lt_of_lt_of_le (Heap.lt_size q) hp))];exact n
 there:=λb u q _=>⟨u,k b u q⟩
 tups:=λb xs q=>by rw[za1 (zay q hn)];exact q
 frzs:=λb u xs q=>by rw[za1 (zay q hn)];exact q
 tbls:=λb ps q=>⟨#[],by rw[za1 (zay q hn),q];simp⟩
theorem Un.write(mu:Mut (H x))(he:e=x\/H e=some (.own x))(k:∀ b u,b≠e->h.get? b=some u->h'.get? b=some u)(heo:∃ u,h'.get? e=some u):Un fs ex H (upd H x o) h h':=by
 have hx:∀ b,H b=none->b≠x:=λb n z=>by subst z;rw[n] at mu;exact mu
 have hb:∀ b,H b=none->b≠e:=λb n z=>by
  subst z;rcases he with r|r
  ·exact hx b n r
  ·rw[n] at r;cases r
 have hm:∀ b u,H b=some u->¬ Mut (some u)->b≠x:=λb u q nm z=>by subst z;rw[q] at mu;exact nm mu
 refine ⟨λb u q n _ _=>k b u (hb b n) q,λb u q n _ _=>⟨u.slots,k b u (hb b n) q⟩,λb u q n _=>by rw[za1 (hx b n)];exact n,λb u q _=>?_,
  λb xs q=>by rw[za1 (hm b _ q λz=>z)];exact q,λb u xs q=>by rw[za1 (hm b _ q λz=>z)];exact q,λb ps q=>⟨#[],by rw[za1 (hm b _ q λz=>z),q];simp⟩⟩
 by_cases hbe:b=e
 ·subst hbe;exact heo
 ·exact ⟨u,k b u hbe q⟩
theorem Un.mono(u:Un fs ex H H1 h h1)(hs:∀ b∈fs,b∈fs')(hx:∀ b∈ex,b∈ex'):Un fs' ex' H H1 h h1 :=
 ⟨λb ob q n hb he=>u.keep b ob q n (λz=>hb (hs b z)) λz=>he (hx b z),λ_ _ q n _ he=>u.any q n λz=>he (hx _ z),λb ob q n he=>u.free b ob q n λz=>he (hx b z),λb ob q he=>u.there b ob q λz=>he (hx b z),u.tups,u.frzs,u.tbls⟩
end
def trk(h:Heap)(H:Hp):List Addr:=(List.range h.objs.size).filter λa=>(H a).isSome
def zsX(h:Heap)(H:Hp):Heap:=W.hideAll h (trk h H)
theorem zqY(h:Heap)(H:Hp):(zsX h H).objs.size=h.objs.size:=W.hideAll_size _ _
theorem zsK{h:Heap}{H:Hp}{b:Addr}{o:Obj}(e:h.get? b=some o)(n:H b=none):(zsX h H).get? b=some o :=
 W.hideAll_get _ e λhm=>by have q:(H b).isSome=true:=(List.mem_filter.mp hm).2;rw[n] at q;simp at q
theorem zvm{h:Heap}{H:Hp}{b:Addr}{o:Obj}(e:(zsX h H).get? b=some o):h.get? b=some o/\H b=none:=by
 have e':h.get? b=some o:=W.of_hideAll (trk h H) e;refine ⟨e',?_⟩;cases q:H b with
 |none=>rfl
 |some x =>
  have hm:b∈trk h H:=List.mem_filter.mpr ⟨List.mem_range.mpr (wai e'),by simp[q]⟩;have z:(zsX h H).get? b=none:=W.hideAll_none (trk h H) hm;rw[z] at e;cases e
def zwc(g h:Heap)(L:Addr):List (Addr×Obj):=(List.range h.objs.size).filterMap λa=>if a=L\/(g.get? a).isSome=true then none else (h.get? a).map λo=>(a,o)
def zby(g h:Heap)(L d:Addr):List (Addr×Obj):=(zwc g h L).filter λp=>decide (p.1≠d)
end L2
namespace L2
open PySem PySem.Spec PyProof.Rows
structure Mod(K:W.Frag)(mg:Str->Option Value)(base:Heap):Prop where
 kin:K.In base
 glob:base.Ns mainGlobals mg
 blt:∃ mb,base.Ns builtinsNs mb/\∀ x:Str,x≠"__name__"->mb x=bootBuiltins x
 nolimit:base.NoLimit
structure Cx where
 prog:Program
 w:World
 K:W.Frag
 mg:Str->Option Value
 base:Heap
 A:Around
 N:List Str
 s₀:Shared
 H₀:Hp
 env:Env
 outer:List Env
 stack:List Env
 ex:List Addr
 fn:Str->Bool
 calm:Bool
 pn:List (Addr×Obj)
 xe:Value->Shared->Prop
def frs(l:List Env):List Addr:=l.filterMap (·.frame)
abbrev Cx.fs(X:Cx):List Addr:=frs X.outer
def Vis(sc:Scope)(x:Str):Prop:=sc.names.lookup x=some .local\/sc.names.lookup x=some .cell\/sc.names.lookup x=some .free
def Loc(sc:Scope)(x:Str):Prop:=sc.names.lookup x=some .local\/sc.names.lookup x=some .cell
def Look(env:Env)(h:Heap)(m:Str->Option Value)(x:Str)(u:Value):Prop :=
 (env.kindOf x=some .local/\m x=some u)\/((env.kindOf x=some .cell\/env.kindOf x=some .free)/\∃ c,env.cells.lookup x=some c/\h.IsCell c (some u))
structure Cx.Ok(X:Cx):Prop where
 mod:Mod X.K X.mg X.base
 kind:X.env.scope.kind=.function
 glob:X.env.globals=mainGlobals
 blt:X.env.builtins=builtinsNs
 above:X.s₀.heap.objs.size<=X.env.locals
 inj:∀ x y c,X.env.cells.lookup x=some c->X.env.cells.lookup y=some c->x=y
 has:∀ x,(X.env.kindOf x=some .cell\/X.env.kindOf x=some .free)->∃ c,X.env.cells.lookup x=some c
 cab:∀ x c,X.fn x=true->X.env.cells.lookup x=some c->X.s₀.heap.objs.size<=c
 hd:X.calm=true->X.A.handled=none
 frames:X.A.frames=some X.stack
 stk:X.stack=X.outer\/(X.stack=X.env::X.outer/\X.env.frame=some X.env.locals)
 exf:∀ b∈X.ex,b≠X.env.locals/\∀ x c,X.env.cells.lookup x=some c->c≠b
 bs:∀ b o,X.base.get? b=some o->X.s₀.heap.get? b=some o/\X.H₀ b=none
 bsz:X.base.objs.size<=X.s₀.heap.objs.size
 noex:∀ b o,X.base.get? b=some o->b∉X.ex
 exfs:∀ b∈X.ex,b∉X.fs
 funs:X.s₀.heap.FunFrames X.base X.outer
 frf:∀ b∈X.fs,X.H₀ b=none
structure Inv(X:Cx)(pS:List (Addr×Obj))(Y:List (Option V))(H:Hp)(s:Shared):Prop where
 ok:X.Ok
 os:s.os=X.s₀.os
 bare:AllBare s.gens
 base:Un X.fs X.ex X.H₀ H X.s₀.heap s.heap
 loc:∃ m,s.heap.Ns X.env.locals m/\∀(i:Nat)(x:Str)(v:V),X.N[i]? = some x->Y[i]? = some (some v)->Vis X.env.scope x->∃ u,zc9 v u/\Look X.env s.heap m x u
 cell:∀ x c,X.env.cells.lookup x=some c->∃ v,s.heap.IsCell c v
 free:H X.env.locals=none
 freeC:∀ x c,X.env.cells.lookup x=some c->H c=none
 pin:∀ p∈X.pn++pS,s.heap.get? p.1=some p.2/\H p.1=none/\p.1≠X.env.locals/\p.1∉X.fs/\∀ v,p.2.data≠.cell v
 hok:HOk X.prog X.w H s.heap
 len:Y.length=X.N.length
section
variable{X:Cx}{pS:List (Addr×Obj)}{Y:List (Option V)}{H H':Hp}{s:Shared}{h':Heap}
theorem Cx.Ok.nofr(ok:X.Ok){b:Addr}{o:Obj}(e:X.base.get? b=some o):b∉X.fs:=λhb=>by have:=(ok.funs.mem hb).1;rw[e] at this;cases this
theorem Inv.bs(I:Inv X pS Y H s):∀ b o,X.base.get? b=some o->s.heap.get? b=some o/\H b=none:=λb o e =>
 ⟨I.base.keep b o (I.ok.bs b o e).1 (I.ok.bs b o e).2 (I.ok.nofr e) (I.ok.noex b o e),I.base.free b o (I.ok.bs b o e).1 (I.ok.bs b o e).2 (I.ok.noex b o e)⟩
theorem Inv.bk(I:Inv X pS Y H s):∀ b o,X.base.get? b=some o->s.heap.get? b=some o:=λb o e=>(I.bs b o e).1
theorem Inv.mod(I:Inv X pS Y H s):Mod X.K X.mg X.base:=I.ok.mod
theorem Inv.kIn(I:Inv X pS Y H s):X.K.In s.heap:=I.ok.mod.kin.keeps I.bk
theorem Inv.nolimit(I:Inv X pS Y H s):s.heap.NoLimit:=I.ok.mod.nolimit.keeps I.bk
theorem Inv.fr(I:Inv X pS Y H s):∃ m,Fr X.base X.env.locals s.heap m :=
 let ⟨m,hn,_⟩:=I.loc
 ⟨m,hn,I.bk,waN I.ok.bsz I.ok.above⟩
theorem Inv.lt(I:Inv X pS Y H s):X.env.locals<s.heap.objs.size:=let ⟨_,hn,_⟩:=I.loc;hn.lt
theorem Inv.sz(I:Inv X pS Y H s):X.s₀.heap.objs.size<=s.heap.objs.size:=waN I.ok.above (Nat.le_of_lt I.lt)
theorem Inv.nofs(I:Inv X pS Y H s){a:Addr}(h:s.heap.objs.size<=a):a∉X.fs:=λhb=>by obtain ⟨_,o,ho,_⟩:=I.ok.funs.mem hb;exact absurd (was (wai ho) (waN I.sz h)) (waL _)
theorem Inv.cne(I:Inv X pS Y H s):∀ x c,X.env.cells.lookup x=some c->c≠X.env.locals:=λx c e z=>by obtain ⟨v,o,ho,hd⟩:=I.cell x c e;obtain ⟨m,⟨o',es,ep,ho',hd',_⟩,_⟩:=I.loc;rw[z,ho'] at ho;cases ho;rw[hd'] at hd;cases hd
theorem Inv.funs(I:Inv X pS Y H s):s.heap.FunFrames X.base X.outer:=by
 have all:∀(l:List Env),(∀ b∈frs l,b∈X.fs)->X.s₀.heap.FunFrames X.base l->s.heap.FunFrames X.base l:=by
  intro l
  induction l with
  |nil=>intro _ _;trivial
  |cons env r ih =>
   intro hs hl;obtain ⟨hk,⟨L,o,hf,hn,ho,hd⟩,hr⟩:=hl;have hL:L∈X.fs:=hs L (by unfold frs;rw[List.filterMap_cons,hf];exact wau);obtain ⟨sl,e⟩:=I.base.slot L o ho (I.ok.frf L hL) hL λz=>I.ok.exfs L z hL;exact ⟨hk,⟨L,_,hf,hn,e,hd⟩,ih (λb hb=>hs b (by unfold frs;rw[List.filterMap_cons,hf];exact wah _ hb)) hr⟩
 exact all X.outer (λ_ hb=>hb) I.ok.funs
theorem Inv.stack(I:Inv X pS Y H s):s.heap.FunFrames X.base X.stack:=by
 rcases I.ok.stk with e|⟨e,hf⟩
 ·rw[e];exact I.funs
 ·rw[e];obtain ⟨m,hn,_⟩:=I.loc;refine .cons (by rw[I.ok.kind];decide) hf hn ?_ I.funs;exact Heap.get?_none_of_le (waN I.ok.bsz I.ok.above)
theorem Inv.stkSub(I:Inv X pS Y H s):∀ b∈frs X.stack,b∈X.env.locals::X.fs:=λb hb=>by
 rcases I.ok.stk with e|⟨e,hf⟩
 ·rw[e] at hb;exact wah _ hb
 ·rw[e] at hb;unfold frs at hb;rw[List.filterMap_cons,hf] at hb;exact hb
theorem Inv.stkFree(I:Inv X pS Y H s):∀ b∈frs X.stack,H b=none:=λb hb=>by
 rcases wap.mp (I.stkSub b hb) with e|hb
 ·rw[e];exact I.free
 ·obtain ⟨_,o,ho,_⟩:=I.ok.funs.mem hb;exact I.base.free b o ho (I.ok.frf b hb) λz=>I.ok.exfs b z hb
theorem Inv.step{g':Array GenState}{t':Nat}{d':Drawn}{ch:List Addr}(I:Inv X pS Y H s)
  (hch:∀ b∈ch,(b∈X.ex\/X.s₀.heap.objs.size<=b)/\b≠X.env.locals/\(∀ x c,X.env.cells.lookup x=some c->c≠b)/\∀ p∈X.pn++pS,p.1≠b)
  (keep:∀ b o,b≠X.env.locals->b∉X.fs->b∉ch->s.heap.get? b=some o->H b=none->h'.get? b=some o)
  (slot:∀ b o,b≠X.env.locals->b∈X.fs->b∉ch->s.heap.get? b=some o->H b=none->∃ sl,h'.get? b=some { o with slots:=sl }) (free:∀ b o,b∉ch->s.heap.get? b=some o->H b=none->H' b=none)
  (there:∀ b o,b∉ch->s.heap.get? b=some o->∃ o',h'.get? b=some o')
  (tups:∀ b xs,H b=some (.tup xs)->H' b=some (.tup xs)) (frzs:∀ b o u,H b=some (.frz o u)->H' b=some (.frz o u)) (tbls:∀ b ps,H b=some (.tbl ps)->∃ more,H' b=some (.tbl (ps++more)))
  (ns:∀ m,s.heap.Ns X.env.locals m->h'.Ns X.env.locals m) (hok:HOk X.prog X.w H' h') (hg:AllBare g') :
  Inv X pS Y H' { s with heap:=h',gens:=g',drawn:=d',toks:=t' }:=by
 have neL:∀ b o,X.s₀.heap.get? b=some o->b≠X.env.locals:=λb o e=>waM (was (wai e) I.ok.above);have neC:∀ b o,X.s₀.heap.get? b=some o->b∉X.ex->b∉ch:=λb o e hx hb=>by
  rcases (hch b hb).1 with z|z
  ·exact hx z
  ·exact absurd (was (wai e) z) (waL _)
 have cellK:∀ x c,X.env.cells.lookup x=some c->∀ v,s.heap.IsCell c v->h'.IsCell c v:=λx c e v ⟨o,ho,hd⟩=>by
  have nch:c∉ch:=λz=>(hch c z).2.2.1 x c e rfl;by_cases hc:c∈X.fs
  ·obtain ⟨sl,q⟩:=slot c o (I.cne x c e) hc nch ho (I.freeC x c e);exact ⟨_,q,hd⟩
  ·exact ⟨o,keep c o (I.cne x c e) hc nch ho (I.freeC x c e),hd⟩
 refine ⟨I.ok,I.os,hg,⟨λb o e n hb hx=>?_,λb o e n hb hx=>?_,λb o e n hx=>?_,λb o e hx=>?_,λb xs e=>tups b xs (I.base.tups b xs e),λb o xs e=>frzs b o xs (I.base.frzs b o xs e),λb ps e=>?_⟩,?_,λx c e=>?_,?_,λx c e=>?_,λp hp=>?_,hok,I.len⟩
 ·exact keep b o (neL b o e) hb (neC b o e hx) (I.base.keep b o e n hb hx) (I.base.free b o e n hx)
 ·obtain ⟨sl,e1⟩:=I.base.slot b o e n hb hx;obtain ⟨sl',e2⟩:=slot b _ (neL b o e) hb (neC b o e hx) e1 (I.base.free b o e n hx);exact ⟨sl',e2⟩
 ·obtain ⟨o',e1⟩:=I.base.there b o e hx;exact free b o' (neC b o e hx) e1 (I.base.free b o e n hx)
 ·obtain ⟨o',e1⟩:=I.base.there b o e hx;exact there b o' (neC b o e hx) e1
 ·obtain ⟨m1,e1⟩:=I.base.tbls b ps e;obtain ⟨m2,e2⟩:=tbls b _ e1;exact ⟨m1++m2,by rw[e2,Array.append_assoc]⟩
 ·obtain ⟨m,hn,hl⟩:=I.loc;refine ⟨m,ns m hn,λi x v e1 e2 e3=>?_⟩;obtain ⟨u,r,l⟩:=hl i x v e1 e2 e3;refine ⟨u,r,?_⟩;rcases l with l|⟨k,c,e,z⟩
  ·exact .inl l
  ·exact .inr ⟨k,c,e,cellK x c e _ z⟩
 ·obtain ⟨v,z⟩:=I.cell x c e;exact ⟨v,cellK x c e v z⟩
 ·obtain ⟨m,⟨o,_,_,ho,_⟩,_⟩:=I.loc;exact free _ o (λz=>(hch _ z).2.1 rfl) ho I.free
 ·obtain ⟨v,o,ho,hd⟩:=I.cell x c e;exact free c o (λz=>(hch c z).2.2.1 x c e rfl) ho (I.freeC x c e)
 ·obtain ⟨e,n,ne,nf,d⟩:=I.pin p hp;have nch:p.1∉ch:=λz=>(hch p.1 z).2.2.2 p hp rfl;exact ⟨keep p.1 p.2 ne nf nch e n,free p.1 p.2 nch e n,ne,nf,d⟩
theorem Inv.un{t':Nat}(I:Inv X pS Y H s)(u:Un X.fs [] H H' s.heap h')(hok:HOk X.prog X.w H' h'):Inv X pS Y H' { s with heap:=h',toks:=t' }:=by
 obtain ⟨m,⟨o,es,ep,ho,r⟩,_⟩:=id I.loc;obtain ⟨sl,hL⟩:=u.any ho I.free xws;exact I.step (g':=s.gens) (d':=s.drawn) (ch:=[]) (λ_ z=>nomatch z) (λb o _ hb _ e n=>u.keep b o e n hb xws) (λb o _ hb _ e n=>u.slot b o e n hb xws) (λb o _ e n=>u.free b o e n xws) (λb o _ e=>u.there b o e xws) u.tups u.frzs u.tbls (λm' hm=>by obtain ⟨o',es',ep',ho',r'⟩:=hm;rw[ho] at ho';cases ho';exact ⟨_,es',ep',hL,r'⟩) hok I.bare
theorem Inv.call{g':Array GenState}{t':Nat}{d':Drawn}{ch:List Addr}(I:Inv X pS Y H s)(u:Un (frs X.stack) ch H H' s.heap h')(hok:HOk X.prog X.w H' h')(hg:AllBare g')
  (hch:∀ b∈ch,(b∈X.ex\/X.s₀.heap.objs.size<=b)/\b≠X.env.locals/\(∀ x c,X.env.cells.lookup x=some c->c≠b)/\∀ p∈X.pn++pS,p.1≠b) :
  Inv X pS Y H' { s with heap:=h',gens:=g',drawn:=d',toks:=t' }:=by
 obtain ⟨m,⟨o,es,ep,ho,r⟩,_⟩:=id I.loc;obtain ⟨sl,hL⟩:=u.any ho I.free λz=>(hch _ z).2.1 rfl;exact I.step (ch:=ch) hch (λb o hL hb hc e n=>u.keep b o e n (λz=>(wap.mp (I.stkSub b z)).elim hL hb) hc) (λb o _ _ hc e n=>u.any e n hc) (λb o hc e n=>u.free b o e n hc) (λb o hc e=>u.there b o e hc) u.tups u.frzs u.tbls (λm' hm=>by obtain ⟨o',es',ep',ho',r'⟩:=hm;rw[ho] at ho';cases ho';exact ⟨_,es',ep',hL,r'⟩) hok hg
theorem Inv.turned{t':Nat}{it:Addr}(I:Inv X pS Y H s)(k:∀ b o,b≠it->s.heap.get? b=some o->h'.get? b=some o)(hn:H it=none)(hL:it≠X.env.locals)
  (h1:it∈X.ex\/X.s₀.heap.objs.size<=it) (h2:∀ x c,X.env.cells.lookup x=some c->c≠it) (h3:∀ p∈X.pn++pS,p.1≠it):Inv X pS Y H { s with heap:=h',toks:=t' }:=by
 have nit:∀ b u,H b=some u->b≠it:=λb u e z=>by rw[z,hn] at e;cases e
 refine I.step (g':=s.gens) (d':=s.drawn) (ch:=[it]) (λb hb=>?_) (λb o _ _ hc e _=>k b o (λz=>hc (by simp[z])) e) (λb o _ _ hc e _=>⟨o.slots,k b o (λz=>hc (by simp[z])) e⟩) (λ_ _ _ _ n=>n)
  (λb o hc e=>⟨o,k b o (λz=>hc (by simp[z])) e⟩) (λ_ _ e=>e) (λ_ _ _ e=>e) (λb ps e=>⟨#[],by rw[e];simp⟩) (λm hm=>?_) (λb u e=>?_) I.bare
 ·have e:b=it:=by simpa using hb
  subst e;exact ⟨h1,hL,h2,h3⟩
 ·obtain ⟨o,es,ep,ho,r⟩:=hm;exact ⟨o,es,ep,k _ o (Ne.symm hL) ho,r⟩
 ·refine (I.hok b u e).stay (λc v hc q=>k c v ?_ q) (λ_ q=>q) λ_ _ q=>q;rcases hc with z|z
  ·rw[z];exact nit b u e
  ·exact nit c _ z
theorem Inv.tok(I:Inv X pS Y H s)(t:Nat):Inv X pS Y H { s with toks:=t }:=I.un (h':=s.heap) (t':=t) Un.refl I.hok
theorem Inv.kept{t':Nat}(I:Inv X pS Y H s)(k:∀ b u,s.heap.get? b=some u->h'.get? b=some u):Inv X pS Y H { s with heap:=h',toks:=t' }:=I.un (Un.kept k) (I.hok.kept k)
theorem Inv.laid{a:Addr}{o:HO}{t':Nat}(I:Inv X pS Y H s)(k:∀ b u,s.heap.get? b=some u->h'.get? b=some u)(hp:s.heap.objs.size<=a)(new:zeN X.prog X.w (upd H a o) h' a o) :
  Inv X pS Y (upd H a o) { s with heap:=h',toks:=t' }:=I.un (Un.laid k hp (I.hok.fresh hp)) (I.hok.laid k hp new)
theorem Inv.write{x e:Addr}{o:HO}{t':Nat}(I:Inv X pS Y H s)(mu:Mut (H x))(he:e=x\/H e=some (.own x))(k:∀ b u,b≠e->s.heap.get? b=some u->h'.get? b=some u)(heo:∃ u,h'.get? e=some u)
  (new:zeN X.prog X.w (upd H x o) h' x o):Inv X pS Y (upd H x o) { s with heap:=h',toks:=t' }:=I.un (Un.write mu he k heo) (I.hok.write mu he k heo new)
theorem Inv.weak{Y':List (Option V)}(I:Inv X pS Y H s)(hl:Y'.length = Y.length)(w:∀(i:Nat) v,Y'[i]? = some (some v)->Y[i]? = some (some v)):Inv X pS Y' H s :=
 ⟨I.ok,I.os,I.bare,I.base,let ⟨m,hn,hl'⟩:=I.loc;⟨m,hn,λi x v e1 e2 e3=>hl' i x v e1 (w i v e2) e3⟩,I.cell,I.free,I.freeC,I.pin,I.hok,hl.trans I.len⟩
theorem Inv.pins_of{pins':List (Addr×Obj)}(I:Inv X pS Y H s)(h:∀ p∈pins',s.heap.get? p.1=some p.2/\H p.1=none/\p.1≠X.env.locals/\p.1∉X.fs/\∀ v,p.2.data≠.cell v):Inv X pins' Y H s :=
 ⟨I.ok,I.os,I.bare,I.base,I.loc,I.cell,I.free,I.freeC,λp hp=>(wax.mp hp).elim (λz=>I.pin p (waR _ z)) (h p),I.hok,I.len⟩
theorem zpp{N:List Str}(hN:N.Nodup){i j:Nat}{x:Str}(a:N[i]? = some x)(b:N[j]? = some x):i=j:=by obtain ⟨h1,e1⟩:=wam.mp a;obtain ⟨h2,e2⟩:=wam.mp b;exact (List.getElem_inj hN).mp (e1.trans e2.symm)
theorem zij{M:Model}{A:Around}{E:Value->Shared->Prop}{i:Nat}{x:Str}{v:V}{u:Value}{Q:Unit->Shared->Prop}(I:Inv X pS Y H s)(hN:X.N.Nodup)(hi:X.N[i]? = some x)(hx:Loc X.env.scope x)(r:zc9 v u)
  (h:∀ s',Inv X pS (Y.set i (some v)) H s'->(∃ a,Heap.SameBut a s.heap s'.heap/\(a=X.env.locals\/X.env.cells.lookup x=some a))->Q () s') (hf:X.fn x=true\/X.env.scope.names.lookup x=some .local:=by exact xwA):wpAny M A (storeName X.env x u) Q E s:=by
 obtain ⟨m,hn,hl⟩:=id I.loc;have hcls:(X.env.scope.kind == .class || (X.env.scope.kind == .module && X.env.locals != X.env.globals))=false:=by rw[I.ok.kind];rfl
 have hiσ:i < Y.length:=by rw[I.len];exact (wam.mp hi).1
 have cne:=I.cne;have tracked:∀{a:Addr}{h':Heap},(∃ o,s.heap.get? a=some o/\H a=none)->Heap.SameBut a s.heap h'->HOk X.prog X.w H h':=λ{a h'} ha hs b ob e=>by
  obtain ⟨_,_,hfree⟩:=ha;refine (I.hok b ob e).stay (λc w' hc q=>(hs.2 c ?_).trans q) (λ_ q=>q) λ_ _ q=>q;rintro rfl;rcases hc with rfl|hc
  ·rw[hfree] at e;cases e
  ·rw[hfree] at hc;cases hc
 rcases hx with hk|hk
 ·refine wpAny_storeName_local hk hn (λh' hn' hs=>?_) hcls;obtain ⟨oL,_,_,hoL,_⟩:=id hn;refine h _ ⟨I.ok,I.os,I.bare,⟨λb o e n hb hx=>?_,λb o e n hb hx=>?_,I.base.free,λb o e hx=>?_,I.base.tups,I.base.frzs,I.base.tbls⟩,⟨_,hn',λj y v' e1 e2 e3=>?_⟩,λy c e=>?_,I.free,I.freeC,λp hp=>?_,tracked ⟨oL,hoL,I.free⟩ hs,by simpa using I.len⟩ ⟨_,hs,.inl rfl⟩
  ·exact (hs.2 b (waM (was (wai e) I.ok.above))).trans (I.base.keep b o e n hb hx)
  ·obtain ⟨sl,e1⟩:=I.base.slot b o e n hb hx;exact ⟨sl,(hs.2 b (waM (was (wai e) I.ok.above))).trans e1⟩
  ·obtain ⟨o',e1⟩:=I.base.there b o e hx;exact ⟨o',(hs.2 b (waM (was (wai e) I.ok.above))).trans e1⟩
  ·by_cases hj:j=i
   ·subst hj;rw[hi] at e1;cases e1;rw[List.getElem?_set_self hiσ] at e2;cases e2;exact ⟨u,r,.inl ⟨hk,xws⟩⟩
   ·rw[List.getElem?_set_ne (Ne.symm hj)] at e2;obtain ⟨u',r',q⟩:=hl j y v' e1 e2 e3;refine ⟨u',r',?_⟩;rcases q with ⟨k,e⟩|⟨k,c,e,z⟩
    ·refine .inl ⟨k,?_⟩;have:y≠x:=λe=>hj (zpp hN e1 (e ▸ hi));simp[this,e]
    ·exact .inr ⟨k,c,e,z.sameBut hs (cne y c e)⟩
  ·obtain ⟨w',z⟩:=I.cell y c e;exact ⟨w',z.sameBut hs (cne y c e)⟩
  ·obtain ⟨e,n,ne,nf,d⟩:=I.pin p hp;exact ⟨(hs.2 p.1 ne).trans e,n,ne,nf,d⟩
 ·have hfn:X.fn x=true:=by
   rcases hf with z|z
   ·exact z
   ·rw[z] at hk;cases hk
  obtain ⟨c,hc⟩:=I.ok.has x (.inl hk);obtain ⟨w',z⟩:=I.cell x c hc;refine wpAny_storeName_cell I.ok.kind hk hc z (λh' hc' hs=>?_);obtain ⟨oc,hoc,hocd⟩:=id z;refine h { s with heap:=h' } ⟨I.ok,I.os,I.bare,⟨λb o e n hb hx=>?_,λb o e n hb hx=>?_,I.base.free,λb o e hx=>?_,I.base.tups,I.base.frzs,I.base.tbls⟩,⟨m,hn.sameBut hs (Ne.symm (cne x c hc)),λj y v' e1 e2 e3=>?_⟩,λy c' e=>?_,I.free,I.freeC,λp hp=>?_,tracked ⟨oc,hoc,I.freeC x c hc⟩ hs,by simpa using I.len⟩ ⟨c,hs,.inr hc⟩
  ·exact (hs.2 b (waM (was (wai e) (I.ok.cab x c hfn hc)))).trans (I.base.keep b o e n hb hx)
  ·obtain ⟨sl,e1⟩:=I.base.slot b o e n hb hx;exact ⟨sl,(hs.2 b (waM (was (wai e) (I.ok.cab x c hfn hc)))).trans e1⟩
  ·obtain ⟨o',e1⟩:=I.base.there b o e hx;exact ⟨o',(hs.2 b (waM (was (wai e) (I.ok.cab x c hfn hc)))).trans e1⟩
  ·by_cases hj:j=i
   ·subst hj;rw[hi] at e1;cases e1;rw[List.getElem?_set_self hiσ] at e2;cases e2;exact ⟨u,r,.inr ⟨.inl hk,c,hc,hc'⟩⟩
   ·rw[List.getElem?_set_ne (Ne.symm hj)] at e2;obtain ⟨u',r',q⟩:=hl j y v' e1 e2 e3;refine ⟨u',r',?_⟩;rcases q with q|⟨k,c',e,z'⟩
    ·exact .inl q
    ·refine .inr ⟨k,c',e,z'.sameBut hs ?_⟩;rintro rfl;exact hj (zpp hN e1 (I.ok.inj _ _ _ e hc ▸ hi))
  ·by_cases hcc:c'=c
   ·subst hcc;exact ⟨_,hc'⟩
   ·obtain ⟨w2,z2⟩:=I.cell y c' e;exact ⟨w2,z2.sameBut hs hcc⟩
  ·obtain ⟨e,n,ne,nf,d⟩:=I.pin p hp;refine ⟨(hs.2 p.1 ?_).trans e,n,ne,nf,d⟩;intro q;rw[q,hoc] at e;have q':oc=p.2:=waA e;exact d w' (by rw[<- q'];exact hocd)
theorem zpt{M:Model}{A:Around}{E:Value->Shared->Prop}{i:Nat}{x:Str}{v:V}{u:Value}{Q:Unit->Shared->Prop}(I:Inv X pS Y H s)(hN:X.N.Nodup)(hi:X.N[i]? = some x)(hx:Loc X.env.scope x)(r:zc9 v u)
  (h:∀ s',Inv X pS (Y.set i (some v)) H s'->Q () s') (hf:X.fn x=true\/X.env.scope.names.lookup x=some .local:=by exact xwA):wpAny M A (storeName X.env x u) Q E s :=
 zij I hN hi hx r (λs' I' _=>h s' I') hf
theorem Inv.call'{s':Shared}{ch:List Addr}(I:Inv X pS Y H s)(ho:s'.os=s.os)(u:Un (frs X.stack) ch H H' s.heap s'.heap)(hok:HOk X.prog X.w H' s'.heap)(hg:AllBare s'.gens)
  (hch:∀ b∈ch,(b∈X.ex\/X.s₀.heap.objs.size<=b)/\b≠X.env.locals/\(∀ x c,X.env.cells.lookup x=some c->c≠b)/\∀ p∈X.pn++pS,p.1≠b):Inv X pS Y H' s':=by
 obtain ⟨h',g',d',t',o'⟩:=s';have e:o'=s.os:=ho;subst e;exact I.call (g':=g') (t':=t') (d':=d') u hok hg hch
end
abbrev XK:=Value->Option Addr->Hp->Prop
abbrev St:=List (Option V)
abbrev VK:=V->Hp->Prop
abbrev TE:=St->Hp->VK->Prop
abbrev TT:=St->Hp->(Bool->Hp->Prop)->Prop
abbrev TA:=St->Hp->(List V->Hp->Prop)->Prop
structure zum where
 nx:St->Hp->Prop
 rt:VK
 bk:St->Hp->Prop:=λ_ _=>False
 ct:St->Hp->Prop:=λ_ _=>False
abbrev TS:=zum->St->Hp->Prop
def EP(X:Cx)(pS:List (Addr×Obj))(Y:St)(Q:VK)(u:Value)(s':Shared):Prop:=∃ v H',Inv X pS Y H' s'/\zc9 v u/\Q v H'
def TP(X:Cx)(pS:List (Addr×Obj))(Y:St)(Q:Bool->Hp->Prop)(b:Bool)(s':Shared):Prop:=∃ H',Inv X pS Y H' s'/\Q b H'
def AP(X:Cx)(pS:List (Addr×Obj))(Y:St)(Q:List V->Hp->Prop)(us:List Value)(s':Shared):Prop:=∃ vs H',Inv X pS Y H' s'/\zbs vs us/\Q vs H'
def SP(X:Cx)(pS:List (Addr×Obj))(D:zum)(f:Flow)(s':Shared):Prop :=
 match f with
 |.next=>∃ Y' H',Inv X pS Y' H' s'/\D.nx Y' H'
 |.brk=>∃ Y' H',Inv X pS Y' H' s'/\D.bk Y' H'
 |.cont=>∃ Y' H',Inv X pS Y' H' s'/\D.ct Y' H'
 |.ret u=>∃ v Y' H',Inv X pS Y' H' s'/\zc9 v u/\D.rt v H'
def PE(X:Cx)(e:Expr)(t:TE):Prop :=
 ∀(pS:List (Addr×Obj))(s:Shared)(Y:St)(H:Hp)(Q:VK),Inv X pS Y H s->t Y H Q->wpAny (model X.prog X.w) X.A (eval e X.env) (EP X pS Y Q) X.xe s
def PT(X:Cx)(e:Expr)(t:TT):Prop :=
 ∀(pS:List (Addr×Obj))(s:Shared)(Y:St)(H:Hp)(Q:Bool->Hp->Prop),Inv X pS Y H s->t Y H Q->wpAny (model X.prog X.w) X.A (isTrue e X.env (eval e X.env)) (TP X pS Y Q) X.xe s
def PW(X:Cx)(e:Expr)(t:TT):Prop :=
 ∀(whole:Sem Value)(pS:List (Addr×Obj))(s:Shared)(Y:St)(H:Hp)(Q:Bool->Hp->Prop),Inv X pS Y H s->t Y H Q->wpAny (model X.prog X.w) X.A (isTrue e X.env whole) (TP X pS Y Q) X.xe s
theorem PW.pt{X:Cx}{e:Expr}{t:TT}(h:PW X e t):PT X e t:=h _
def PA(X:Cx)(es:List Expr)(t:TA):Prop :=
 ∀(pos:Pos)(pS:List (Addr×Obj))(s:Shared)(Y:St)(H:Hp)(Q:List V->Hp->Prop),Inv X pS Y H s->t Y H Q->wpAny (model X.prog X.w) X.A (spliced (backTo pos (starEach es X.env))) (AP X pS Y Q) X.xe s
def PS(X:Cx)(st:Stmt)(t:TS):Prop :=
 ∀(pS:List (Addr×Obj))(s:Shared)(Y:St)(H:Hp)(D:zum),Inv X pS Y H s->t D Y H->wpAny (model X.prog X.w) X.A (exec st X.env) (SP X pS D) X.xe s
def PSs(X:Cx)(st:List Stmt)(t:TS):Prop :=
 ∀(pS:List (Addr×Obj))(s:Shared)(Y:St)(H:Hp)(D:zum),Inv X pS Y H s->t D Y H->wpAny (model X.prog X.w) X.A (execs st X.env) (SP X pS D) X.xe s
theorem thn{α:Type}{t:Sem α}{Q Q':α->Shared->Prop}{M:Model}{A:Around}{E:Value->Shared->Prop}{s:Shared}(h:wpAny M A t Q E s)(hQ:∀ a s,Q a s->Q' a s):wpAny M A t Q' E s:=wpAny_mono h hQ λ_ _ x=>x
end L2
namespace L2
open PySem PySem.Spec PyProof.Rows
section
variable{X:Cx}
def zz6(i:Nat):TE:=λY H Q=>∃ v,Y[i]? = some (some v)/\Q v H
def tC(v:V):TE:=λ_ H Q=>Q v H
theorem zd9{i:Nat}{x:Str}{pos:Pos}(hN:X.N[i]? = some x)(hv:Vis X.env.scope x)(hd:(x == ("__debug__" : Str))=false:=by decide)(hcd:(x == ("__classdict__" : Str))=false:=by decide):PE X (.Name x pos) (zz6 i):=by
 intro pS s Y H Q I h;obtain ⟨v,e,h⟩:=h;obtain ⟨m,hn,hl⟩:=I.loc;obtain ⟨u,r,l⟩:=hl i x v hN e hv;have fin:EP X pS Y Q u s:=⟨v,H,I,r,h⟩
 rcases l with ⟨hk,hm⟩|⟨hk,c,hc,hcell⟩
 ·exact wpAny_Name (wpAny_loadName_local I.ok.kind hk hn hm fin) hd
 ·rcases hk with hk|hk
  ·exact wpAny_Name (wpAny_loadName_cell I.ok.kind hk hc hcell fin) hd
  ·exact wpAny_Name (wpAny_loadName_free I.ok.kind hk hc hcell fin hcd) hd
theorem zuy{i j pos}:PE X (.Constant (.int i) j pos) (tC (.int i)):=λ_ _ _ H _ I h=>wpAny_Constant_int ⟨.int i,H,I.tok _,⟨_,rfl⟩,h⟩
theorem zz4{b j pos}:PE X (.Constant (.bool b) j pos) (tC (.bl b)):=λ_ _ _ H _ I h=>Constant_bool ⟨.bl b,H,I,rfl,h⟩
theorem zyG{j pos}:PE X (.Constant .none j pos) (tC .non):=λ_ _ _ H _ I h=>Constant_none ⟨.non,H,I,rfl,h⟩
theorem zy5{x j pos}:PE X (.Constant (.str x) j pos) (tC (.str x)):=λ_ _ _ H _ I h=>Calls.Constant_str ⟨.str x,H,I.tok _,⟨_,rfl⟩,h⟩
def Gl(X:Cx)(x:Str):Prop:=X.env.kindOf x=some .globalImplicit
theorem zse{E:Value->Shared->Prop}{pS:List (Addr×Obj)}{s:Shared}{Y:St}{H:Hp}{x:Str}{u:Value}{pos:Pos}{Q:Value->Shared->Prop}(I:Inv X pS Y H s)(hg:Gl X x)(hm:X.mg x=some u)(h:Q u s)
  (hd:(x == ("__debug__" : Str))=false:=by decide):wpAny (model X.prog X.w) X.A (eval (.Name x pos) X.env) Q E s :=
 Calls.Name_function_global I.ok.kind hg (Calls.loadGlobal_global (by rw[I.ok.glob];exact I.mod.glob.keeps I.bk) hm h) hd
theorem zfd{E:Value->Shared->Prop}{pS:List (Addr×Obj)}{s:Shared}{Y:St}{H:Hp}{x:Str}{u:Value}{pos:Pos}{Q:Value->Shared->Prop}(I:Inv X pS Y H s)(hg:Gl X x)(hm:X.mg x=none)(hv:bootBuiltins x=some u)(h:Q u s)
  (hn:x≠"__name__":=by decide) (hd:(x == ("__debug__" : Str))=false:=by decide):wpAny (model X.prog X.w) X.A (eval (.Name x pos) X.env) Q E s:=by
 obtain ⟨mb,h1,h2⟩:=I.mod.blt;exact Calls.Name_function_global I.ok.kind hg (Calls.loadGlobal_builtin (by rw[I.ok.glob];exact I.mod.glob.keeps I.bk) hm (by rw[I.ok.blt];exact h1.keeps I.bk) ((h2 x hn).trans hv) h) hd
theorem zsk{x:Str}{v:V}{u:Value}{pos:Pos}(hg:Gl X x)(hm:X.mg x=some u)(r:zc9 v u)(hd:(x == ("__debug__" : Str))=false:=by decide):PE X (.Name x pos) (tC v) :=
 λ_ _ _ H _ I h=>zse I hg hm ⟨v,H,I,r,h⟩ hd
theorem zw1{x:Str}{v:V}{u:Value}{pos:Pos}(hg:Gl X x)(hm:X.mg x=none)(hv:bootBuiltins x=some u)(r:zc9 v u)(hn:x≠"__name__":=by decide)(hd:(x == ("__debug__" : Str))=false:=by decide):PE X (.Name x pos) (tC v) :=
 λ_ _ _ H _ I h=>zfd I hg hm hv ⟨v,H,I,r,h⟩ hn hd
variable{a b:Expr}{ta tb:TE}{pos:Pos}
def PC(X:Cx)(op:CmpOp)(a b:Expr)(t:TE):Prop :=
 ∀(pS:List (Addr×Obj))(s:Shared)(Y:St)(H:Hp)(Q:VK),Inv X pS Y H s->t Y H Q ->
  wpAny (model X.prog X.w) X.A (eval a X.env) (λv s₁=>wpAny (model X.prog X.w) X.A (eval b X.env) (λu s₂=>wpAny (model X.prog X.w) X.A (compareOp op v u) (EP X pS Y Q) X.xe s₂) X.xe s₁) X.xe s
theorem zoF(b:Expr){op:CmpOp}(h:op≠.In)(h2:op≠.NotIn):behindInMarks op b=false:=by
 have e1:(op == CmpOp.In)=false:=by cases op <;> first|rfl|exact absurd rfl h
 have e2:(op == CmpOp.NotIn)=false:=by cases op <;> first|rfl|exact absurd rfl h2
 cases b <;> simp[behindInMarks,e1,e2]
def tIsN(ta:TE):TE:=λY H Q=>ta Y H λx H1=>Q (.bl (decide (x=.non))) H1
def zzy(ta:TE):TE:=λY H Q=>ta Y H λx H1=>Q (.bl (!decide (x=.non))) H1
theorem zc9.none_iff{x:V}{v:Value}(r:zc9 x v):(v == Value.none)=decide (x=.non):=by
 cases x with
 |non=>cases r;rfl
 |bl _=>cases r;rfl
 |int _=>obtain ⟨t,rfl⟩:=r;rfl
 |str _=>obtain ⟨t,rfl⟩:=r;rfl
 |byt _=>obtain ⟨t,rfl⟩:=r;rfl
 |flt _=>obtain ⟨t,rfl⟩:=r;rfl
 |ref _=>cases r;rfl
 |ty _=>cases r;rfl
theorem zuP{j pos'}(ha:PE X a ta):PC X .Is a (.Constant .none j pos') (tIsN ta):=by intro pS s Y H Q I h;refine thn (ha pS s Y H _ I h) λv s1 ⟨x,H1,I1,r1,q1⟩=>?_;exact Constant_none (is_none_gen ⟨.bl _,H1,I1,by rw[r1.none_iff];rfl,q1⟩)
theorem zv2{j pos'}(ha:PE X a ta):PC X .IsNot a (.Constant .none j pos') (zzy ta):=by intro pS s Y H Q I h;refine thn (ha pS s Y H _ I h) λv s1 ⟨x,H1,I1,r1,q1⟩=>?_;exact Constant_none (isnot_none_gen ⟨.bl _,H1,I1,by rw[r1.none_iff];rfl,q1⟩)
def tB(t:TE):TT:=λY H Q=>t Y H λx H1=>∃ c,x=.bl c/\Q c H1
theorem zxA{op:CmpOp}{t:TE}(h:PC X op a b t)(h1:behindInMarks op b=false:=by first|exact zoF _ xwd xwd|rfl):PE X (.Compare a [op] [b] pos) t:=λpS s Y H Q I hw=>wpAny_Compare1 (h pS s Y H Q I hw) h1
theorem zut{op:CmpOp}{t:TE}(h:PC X op a b t)(h1:behindInMarks op b=false:=by first|exact zoF _ xwd xwd|rfl):PT X (.Compare a [op] [b] pos) (tB t):=by intro pS s Y H Q I hw;refine wpAny_isTrue_Compare1 (thn (h pS s Y H _ I hw) λv s1 h1=>thn h1 λu s2 h2=>thn h2 λc s3 ⟨x,H1,I1,r1,q1⟩=>?_) h1;obtain ⟨d,rfl,q⟩:=q1;cases r1;exact wpAny_truthy_bool ⟨H1,I1,q⟩
theorem zyC{e:Expr}{t:TE}(h:PE X e t)(he:∀ whole,isTrue e X.env whole=(do let v <- whole;standAt e.pos;holding [v] (truthy v)):=by intro _;rfl):PT X e (tB t):=by intro pS s Y H Q I hw;refine isTrue_plain (thn (h pS s Y H _ I hw) λv s1 ⟨x,H1,I1,r1,q1⟩=>?_) (he _);obtain ⟨d,rfl,q⟩:=q1;cases r1;exact wpAny_truthy_bool ⟨H1,I1,q⟩
variable{tA tB':TT}{zby:List Expr}
def tAnd(t u:TT):TT:=λY H Q=>t Y H λc H1=>if c=true then u Y H1 Q else Q false H1
def tOr(t u:TT):TT:=λY H Q=>t Y H λc H1=>if c=true then Q true H1 else u Y H1 Q
def tNot(t:TT):TT:=λY H Q=>t Y H λc H1=>Q (!c) H1
theorem zvS(ha:PT X a tA):PW X (.BoolOp .And [a] pos) tA:=by
 intro wh pS s Y H Q I h;refine isTrue_and (thn (ha pS s Y H Q I h) λc s1 e=>?_);cases c with
 |true=>exact isTrue_and_nil e
 |false=>exact e
theorem zyb(ha:PT X a tA):PW X (.BoolOp .Or [a] pos) tA:=by
 intro wh pS s Y H Q I h;refine isTrue_or (thn (ha pS s Y H Q I h) λc s1 e=>?_);cases c with
 |false=>exact isTrue_or_nil e
 |true=>exact e
theorem zxF(ha:PT X a tA)(hb:PW X (.BoolOp .And (b::zby) pos) tB'):PW X (.BoolOp .And (a::b::zby) pos) (tAnd tA tB'):=by
 intro wh pS s Y H Q I h;refine isTrue_and (thn (ha pS s Y H _ I h) λc s1 ⟨H1,I1,q1⟩=>?_);cases c with
 |true=>exact hb wh pS s1 Y H1 Q I1 q1
 |false=>exact ⟨H1,I1,q1⟩
theorem zzn(ha:PT X a tA)(hb:PW X (.BoolOp .Or (b::zby) pos) tB'):PW X (.BoolOp .Or (a::b::zby) pos) (tOr tA tB'):=by
 intro wh pS s Y H Q I h;refine isTrue_or (thn (ha pS s Y H _ I h) λc s1 ⟨H1,I1,q1⟩=>?_);cases c with
 |true=>exact ⟨H1,I1,q1⟩
 |false=>exact hb wh pS s1 Y H1 Q I1 q1
theorem zy9(ha:PT X a tA):PT X (.UnaryOp .Not a pos) (tNot tA):=by intro pS s Y H Q I h;exact isTrue_not (ha pS s Y H (λc H1=>Q (!c) H1) I h)
def zzc(ta tb:TE):TE:=λY H Q=>ta Y H λx H1=>∃ c,x=.bl c/\if c=true then tb Y H1 Q else Q (.bl false) H1
def tOrV(ta tb:TE):TE:=λY H Q=>ta Y H λx H1=>∃ c,x=.bl c/\if c=true then Q (.bl true) H1 else tb Y H1 Q
def zzC(ta:TE):TE:=λY H Q=>ta Y H λx H1=>∃ c,x=.bl c/\Q (.bl (!c)) H1
theorem zyn{op}{t:TE}(h:PE X a t):PE X (.BoolOp op [a] pos) t:=λpS s Y H Q I hw=>BoolOp_one (h pS s Y H Q I hw)
theorem zy1(ha:PE X a ta)(hb:PE X (.BoolOp .And (b::zby) pos) tb):PE X (.BoolOp .And (a::b::zby) pos) (zzc ta tb):=by
 intro pS s Y H Q I h;refine BoolOp_and (thn (ha pS s Y H _ I h) λv s1 ⟨x,H1,I1,r1,q1⟩=>?_);obtain ⟨c,rfl,q1⟩:=q1;cases r1;refine wpAny_truthy_bool ?_;cases c with
 |true=>exact hb pS s1 Y H1 Q I1 q1
 |false=>exact ⟨.bl false,H1,I1,rfl,q1⟩
theorem zzw(ha:PE X a ta)(hb:PE X (.BoolOp .Or (b::zby) pos) tb):PE X (.BoolOp .Or (a::b::zby) pos) (tOrV ta tb):=by
 intro pS s Y H Q I h;refine BoolOp_or (thn (ha pS s Y H _ I h) λv s1 ⟨x,H1,I1,r1,q1⟩=>?_);obtain ⟨c,rfl,q1⟩:=q1;cases r1;refine wpAny_truthy_bool ?_;cases c with
 |false=>exact hb pS s1 Y H1 Q I1 q1
 |true=>exact ⟨.bl true,H1,I1,rfl,q1⟩
theorem zxy(ha:PE X a ta):PE X (.UnaryOp .Not a pos) (zzC ta):=by intro pS s Y H Q I h;refine UnaryOp_ (thn (ha pS s Y H _ I h) λv s1 ⟨x,H1,I1,r1,q1⟩=>?_);obtain ⟨c,rfl,q1⟩:=q1;cases r1;exact not_of (wpAny_truthy_bool ⟨.bl (!c),H1,I1,rfl,q1⟩)
def tIf(t:TT)(ta tb:TE):TE:=λY H Q=>t Y H λc H1=>if c=true then ta Y H1 Q else tb Y H1 Q
theorem zoV{c:Expr}(hc:PT X c tA)(ha:PE X a ta)(hb:PE X b tb):PE X (.IfExp c a b pos) (tIf tA ta tb):=by
 intro pS s Y H Q I h;refine wpAny_IfExp (thn (hc pS s Y H _ I h) λd s1 ⟨H1,I1,q1⟩=>?_);cases d with
 |true=>exact ha pS s1 Y H1 Q I1 q1
 |false=>exact hb pS s1 Y H1 Q I1 q1
end
end L2
namespace L2
open PySem PySem.Spec PyProof.Rows
def SqL(K:W.Frag)(H:Hp)(a:Addr)(xs:List V):Prop :=
 Rd H a (.lst xs) \/
  ∃(o:Obj)(its:Array Value)(n:Nat),K.lookup a=some o/\o.cls=.type "list"/\o.dict=none/\o.data=.seq its n/\its.size<=sizeLine/\zbs xs its.toList
def SqT(K:W.Frag)(H:Hp)(a:Addr)(xs:List V):Prop :=
 Rd H a (.tup xs) \/
  ∃(o:Obj)(its:Array Value)(n:Nat),K.lookup a=some o/\o.cls=.type "tuple"/\o.data=.seq its n/\its.size<=sizeLine/\zbs xs its.toList
def absV:Value->Option V
 |.none=>some .non
 |.bool b=>some (.bl b)
 |.int i _=>some (.int i)
 |.str x _=>some (.str x)
 |.bytes b _=>some (.byt b)
 |.float b _=>some (.flt b)
 |.ref a=>some (.ref a)
 |.type n=>some (.ty n)
 |_=>none
theorem zc9.abs{x:V}{u:Value}(r:zc9 x u):absV u=some x:=by
 cases x with
 |non=>cases r;rfl
 |bl _=>cases r;rfl
 |int _=>obtain ⟨t,rfl⟩:=r;rfl
 |str _=>obtain ⟨t,rfl⟩:=r;rfl
 |byt _=>obtain ⟨t,rfl⟩:=r;rfl
 |flt _=>obtain ⟨t,rfl⟩:=r;rfl
 |ref _=>cases r;rfl
 |ty _=>cases r;rfl
theorem zc9.inj{x y:V}{u:Value}(r:zc9 x u)(q:zc9 y u):x=y:=waA (r.abs.symm.trans q.abs)
theorem zbs.inj:∀{xs ys:List V}{us:List Value},zbs xs us->zbs ys us->xs=ys
 |_,_,_,.nil,.nil=>rfl
 |_,_,_,.cons r t,.cons r' t'=>by rw[r.inj r',zbs.inj t t']
section
variable{X:Cx}{pS:List (Addr×Obj)}{Y:St}{H:Hp}{s:Shared}{a:Addr}{xs ys:List V}
theorem SqL.of{K:W.Frag}(h:H a=some (.lst xs)):SqL K H a xs:=.inl (.inl h)
theorem SqT.of{K:W.Frag}(h:H a=some (.tup xs)):SqT K H a xs:=.inl (.inl h)
theorem Inv.list(I:Inv X pS Y H s)(h:SqL X.K H a xs):∃ its:List Value,zbs xs its/\PlainL s.heap a its.toArray/\xs.length<=sizeLine:=by
 rcases h with h|⟨o,its,n,hk,hc,hd,hs,hz,r⟩
 ·obtain ⟨z,its,n,r,e⟩:=h.ok I.hok;exact ⟨its,r,⟨_,n,e,rfl,rfl,rfl⟩,z⟩
 ·refine ⟨its.toList,r,⟨o,n,I.kIn a o hk,hc,hd,by simpa using hs⟩,?_⟩;have e:=r.length;simp only[Array.length_toList] at e;lia
theorem Inv.tuple(I:Inv X pS Y H s)(h:SqT X.K H a xs):∃ its:List Value,zbs xs its/\IsTup s.heap a its.toArray/\xs.length<=sizeLine:=by
 rcases h with h|⟨o,its,n,hk,hc,hs,hz,r⟩
 ·obtain ⟨z,its,r,n,e⟩:=h.ok I.hok;exact ⟨its,r,⟨_,e,rfl,n,rfl⟩,z⟩
 ·refine ⟨its.toList,r,⟨o,I.kIn a o hk,hc,n,by simpa using hs⟩,?_⟩;have e:=r.length;simp only[Array.length_toList] at e;lia
theorem Inv.list_inj(I:Inv X pS Y H s)(h:SqL X.K H a xs)(h':SqL X.K H a ys):xs=ys:=by
 obtain ⟨its,r,⟨o,n,e,_,_,d⟩,_⟩:=I.list h;obtain ⟨its',r',⟨o',n',e',_,_,d'⟩,_⟩:=I.list h';rw[e] at e';cases e';rw[d] at d';injection d' with d1 _;have:its=its':=by simpa using congrArg Array.toList d1
 subst this;exact r.inj r'
theorem Inv.tuple_inj(I:Inv X pS Y H s)(h:SqT X.K H a xs)(h':SqT X.K H a ys):xs=ys:=by
 obtain ⟨its,r,⟨o,e,_,n,d⟩,_⟩:=I.tuple h;obtain ⟨its',r',⟨o',e',_,n',d'⟩,_⟩:=I.tuple h';rw[e] at e';cases e';rw[d] at d';injection d' with d1 _;have:its=its':=by simpa using congrArg Array.toList d1
 subst this;exact r.inj r'
end
abbrev Cx.wish(X:Cx)(E:Value->Shared->Prop):Cx:={ X with xe:=E }
abbrev Cx.nox(X:Cx):Cx:=X.wish λ_ _=>False
theorem Cx.Ok.wish{X:Cx}(ok:X.Ok)(E:Value->Shared->Prop):(X.wish E).Ok :=
 ⟨ok.mod,ok.kind,ok.glob,ok.blt,ok.above,ok.inj,ok.has,ok.cab,ok.hd,ok.frames,ok.stk,ok.exf,ok.bs,ok.bsz,ok.noex,ok.exfs,ok.funs,ok.frf⟩
theorem Cx.Ok.unwish{X:Cx}{E:Value->Shared->Prop}(ok:(X.wish E).Ok):X.Ok :=
 ⟨ok.mod,ok.kind,ok.glob,ok.blt,ok.above,ok.inj,ok.has,ok.cab,ok.hd,ok.frames,ok.stk,ok.exf,ok.bs,ok.bsz,ok.noex,ok.exfs,ok.funs,ok.frf⟩
section
variable{X:Cx}{pS:List (Addr×Obj)}{Y:St}{H:Hp}{s:Shared}{E:Value->Shared->Prop}
theorem Inv.wish(I:Inv X pS Y H s)(E:Value->Shared->Prop):Inv (X.wish E) pS Y H s:=⟨I.ok.wish E,I.os,I.bare,I.base,I.loc,I.cell,I.free,I.freeC,I.pin,I.hok,I.len⟩
theorem Inv.unwish(I:Inv (X.wish E) pS Y H s):Inv X pS Y H s:=⟨I.ok.unwish,I.os,I.bare,I.base,I.loc,I.cell,I.free,I.freeC,I.pin,I.hok,I.len⟩
theorem SP.unwish{D:zum}{f:Flow}{s':Shared}(h:SP (X.wish E) pS D f s'):SP X pS D f s':=by
 cases f with
 |next=>obtain ⟨Y',H',I,q⟩:=h;exact ⟨Y',H',I.unwish,q⟩
 |brk=>obtain ⟨Y',H',I,q⟩:=h;exact ⟨Y',H',I.unwish,q⟩
 |cont=>obtain ⟨Y',H',I,q⟩:=h;exact ⟨Y',H',I.unwish,q⟩
 |ret u=>obtain ⟨v,Y',H',I,r,q⟩:=h;exact ⟨v,Y',H',I.unwish,r,q⟩
theorem PE.nox{e:Expr}{t:TE}(h:PE X.nox e t):PE X e t:=λpS s Y H Q I hw =>
 wpAny_mono (h pS s Y H Q (I.wish _) hw) (λ_ _ ⟨v,H',I',r,q⟩=>⟨v,H',I'.unwish,r,q⟩) λ_ _ z=>waO z
theorem PT.nox{e:Expr}{t:TT}(h:PT X.nox e t):PT X e t:=λpS s Y H Q I hw =>
 wpAny_mono (h pS s Y H Q (I.wish _) hw) (λ_ _ ⟨H',I',q⟩=>⟨H',I'.unwish,q⟩) λ_ _ z=>waO z
theorem PSs.nox{st:List Stmt}{t:TS}(h:PSs X.nox st t):PSs X st t:=λpS s Y H D I hw =>
 wpAny_mono (h pS s Y H D (I.wish _) hw) (λ_ _ q=>q.unwish) λ_ _ z=>waO z
end
section
variable{X:Cx}{st:Stmt}{zby:List Stmt}{t u:TS}{e:Expr}{te:TE}{pos:Pos}
def zzF:TS:=λD Y H=>D.nx Y H
def tSeq(t u:TS):TS:=λD Y H=>t { D with nx:=u D } Y H
theorem zwi:PSs X [] zzF:=λ_ _ Y H _ I h=>wpAny_execs_nil ⟨Y,H,I,h⟩
theorem zt6(h1:PS X st t)(h2:PSs X zby u):PSs X (st::zby) (tSeq t u):=by
 intro pS s Y H D I h;refine wpAny_execs_cons (thn (h1 pS s Y H { D with nx:=u D } I h) λf s1 q=>?_);cases f with
 |next =>
  obtain ⟨Y',H',I',q⟩:=q;exact h2 pS s1 Y' H' D I' q
 |ret v=>exact q
 |brk=>exact q
 |cont=>exact q
theorem zwG(h1:PS X st t):PSs X [st] t:=by
 intro pS s Y H D I h;refine wpAny_execs_cons (thn (h1 pS s Y H D I h) λf s1 q=>?_);cases f with
 |next=>exact wpAny_execs_nil q
 |ret v=>exact q
 |brk=>exact q
 |cont=>exact q
theorem Inv.quiet{pS:List (Addr×Obj)}{Y:St}{H:Hp}{s:Shared}(I:Inv X pS Y H s):interactive X.env=false:=by simp[interactive,I.ok.kind]
def zzq(te:TE):TS:=λD Y H=>te Y H λ_ H1=>D.nx Y H1
theorem zvA(he:PE X e te)(hs:swapsWith e none pos.line X.env=pure false:=by rfl):PS X (.Expr e pos) (zzq te):=by intro pS s Y H D I h;exact wpAny_Expr_any (thn (he pS s Y H _ I h) λv s1 ⟨x,H1,I1,r1,q1⟩=>⟨Y,H1,I1,q1⟩) I.quiet hs
def tRet(te:TE):TS:=λD Y H=>te Y H D.rt
theorem zrW(he:PE X e te):PS X (.Return (some e) pos) (tRet te):=by intro pS s Y H D I h;exact wpAny_Return_some (thn (he pS s Y H _ I h) λv s1 ⟨x,H1,I1,r1,q1⟩=>⟨x,Y,H1,I1,r1,q1⟩)
def tIfS(c:TT)(t u:TS):TS:=λD Y H=>c Y H λb H1=>if b=true then t D Y H1 else u D Y H1
theorem zzg{c:Expr}{a b:List Stmt}{tc:TT}(hc:PT X c tc)(ha:PSs X a t)(hb:PSs X b u):PS X (.If c a b pos) (tIfS tc t u):=by
 intro pS s Y H D I h;refine wpAny_If (thn (hc pS s Y H _ I h) λd s1 ⟨H1,I1,q1⟩=>?_);cases d with
 |true=>exact ha pS s1 Y H1 D I1 q1
 |false=>exact hb pS s1 Y H1 D I1 q1
end
abbrev TG:=V->St->Hp->(St->Hp->Prop)->Prop
abbrev TGs:=List V->St->Hp->(St->Hp->Prop)->Prop
def PG(X:Cx)(target:Expr)(t:TG):Prop :=
 ∀(pS:List (Addr×Obj))(s:Shared)(Y:St)(H:Hp)(v:V)(u:Value)(Q:St->Hp->Prop),Inv X pS Y H s->zc9 v u->t v Y H Q ->
  wpAny (model X.prog X.w) X.A (assign target X.env u) (λ_ s'=>∃ Y' H',Inv X pS Y' H' s'/\Q Y' H') X.xe s
def PGs(X:Cx)(ts:List Expr)(t:TGs):Prop :=
 ∀(pS:List (Addr×Obj))(s:Shared)(Y:St)(H:Hp)(vs:List V)(us:List Value)(Q:St->Hp->Prop),Inv X pS Y H s->zbs vs us->t vs Y H Q ->
  wpAny (model X.prog X.w) X.A (assignInOrder ((assignEach ts X.env).map (·.2)) us) (λ_ s'=>∃ Y' H',Inv X pS Y' H' s'/\Q Y' H') X.xe s
abbrev zz2:=V->V->V->Hp->(Hp->Prop)->Prop
def PSet(X:Cx)(t:zz2):Prop :=
 ∀(pS:List (Addr×Obj))(s:Shared)(Y:St)(H:Hp)(o i v:V)(ov iv u:Value)(Q:Hp->Prop),Inv X pS Y H s->zc9 o ov->zc9 i iv->zc9 v u->t o i v H Q ->
  wpAny (model X.prog X.w) X.A (setItem ov iv u) (λ_ s'=>∃ H',Inv X pS Y H' s'/\Q H') X.xe s
section
variable{X:Cx}{pos:Pos}
def zyx(i:Nat):TG:=λv Y H Q=>Q (Y.set i (some v)) H
theorem znm{i:Nat}{x:Str}(hN:X.N.Nodup)(hi:X.N[i]? = some x)(hx:Loc X.env.scope x)(hf:X.fn x=true\/X.env.scope.names.lookup x=some .local:=by exact xwA):PG X (.Name x pos) (zyx i):=by intro pS s Y H v u Q I r h;exact wpAny_assign_Name (zpt I hN hi hx r (λs' I'=>⟨_,H,I',h⟩) hf)
def gNil:TGs:=λvs Y H Q=>vs=[]/\Q Y H
def zzJ(t:TG)(u:TGs):TGs:=λvs Y H Q=>∃ v r,vs=v::r/\t v Y H λY' H'=>u r Y' H' Q
theorem zvL:PGs X [] gNil:=by intro pS s Y H vs us Q I r h;obtain ⟨e,h⟩:=h;subst e;cases r;exact assignInOrder_nil ⟨Y,H,I,h⟩
theorem zo2{e:Expr}{es:List Expr}{t:TG}{u:TGs}(h1:PG X e t)(h2:PGs X es u)
  (hs:(assignEach (e::es) X.env).map (·.2)=assign e X.env::(assignEach es X.env).map (·.2):=by rfl):PGs X (e::es) (zzJ t u):=by
 intro pS s Y H vs us Q I r h;obtain ⟨v,vr,e1,h⟩:=h;subst e1;cases r with
 |cons r rr =>
  rw[hs];refine assignInOrder_cons (thn (h1 pS s Y H _ _ _ I r h) λ_ s1 ⟨Y1,H1,I1,q1⟩=>?_);exact h2 pS s1 Y1 H1 _ _ Q I1 rr q1
def gTup(K:W.Frag)(n:Nat)(t:TGs):TG:=λv Y H Q=>∃ a xs,v=.ref a/\SqT K H a xs/\xs.length=n/\t xs Y H Q
theorem zyh{es:List Expr}{k:Nat}{t:TGs}{n:Nat}(hc:X.calm=true)(h:PGs X es t)
  (hn:(assignEach es X.env).length=n:=by rfl) (hst:(assignEach es X.env).findIdx? (·.1)=none:=by rfl):PG X (.Tuple es k pos) (gTup X.K n t):=by
 intro pS s Y H v u Q I r hw;obtain ⟨a,xs,e1,hq,hl,hw⟩:=hw;subst e1;cases r;obtain ⟨its,rv,ht,hz⟩:=I.tuple hq;refine assign_Tuple_tuple (I.ok.hd hc) ht (by simp[hn,<- hl,rv.length]) hst λh' hx=>?_;have I1:Inv X pS Y H { s with heap:=h' }:=I.kept (t':=s.toks) λb o e=>hx b o (waM (wai e)) e;exact h pS _ Y H xs _ Q I1 (by simpa using rv) hw
def zi1(to ti:TE)(t:zz2):TG:=λv Y H Q=>to Y H λo H1=>ti Y H1 λi H2=>t o i v H2 λH3=>Q Y H3
theorem zwR{o i:Expr}{to ti:TE}{t:zz2}(ho:PE X o to)(hi:PE X i ti)(hs:PSet X t)
  (ha:∀ v,assign (.Subscript o i pos) X.env v=(do
   let ov <- holding [v] (eval o X.env);let iv <- holding [v,ov] (eval i X.env)
   standAt pos
   holding [v,ov,iv] (setItem ov iv v)
   release [v,ov,iv] []):=by intro _;rfl):PG X (.Subscript o i pos) (zi1 to ti t):=by
 intro pS s Y H v u Q I r h;rw[ha];refine wab (wpAny_holding (thn (ho pS s Y H _ I h) λov s1 ⟨x,H1,I1,r1,q1⟩=>?_));refine wab (wpAny_holding (thn (hi pS s1 Y H1 _ I1 q1) λiv s2 ⟨y,H2,I2,r2,q2⟩=>?_));refine wab (wpAny_standAt (wab (wpAny_holding (thn (hs pS s2 Y H2 x y v ov iv u _ I2 r1 r2 r q2) λ_ s3 ⟨H3,I3,q3⟩=>?_))));exact wpAny_release ⟨Y,H3,I3,q3⟩
def tAsg(te:TE)(g:TG):TS:=λD Y H=>te Y H λx H1=>g x Y H1 D.nx
theorem zuM{tg e:Expr}{te:TE}{g:TG}(he:PE X e te)(hg:PG X tg g)(hs:swapsWithSole [tg] e pos.line X.env=pure false:=by rfl)(hw:swappedStores [tg] e X.env=pure none:=by rfl)
  (h1:(assignEach [tg] X.env).map (·.2)=[assign tg X.env]:=by rfl):PS X (.Assign [tg] e pos) (tAsg te g):=by
 intro pS s Y H D I h;refine wpAny_Assign_stores (thn (he pS s Y H _ I h) λv s1 ⟨x,H1,I1,r1,q1⟩=>?_) hs hw;rw[h1];exact thn (hg pS s1 Y H1 x v _ I1 r1 q1) λ_ s2 q=>q
theorem zuV{i:Nat}{x:Str}{e:Expr}{te:TE}{pos':Pos}(hN:X.N.Nodup)(hi:X.N[i]? = some x)(hx:Loc X.env.scope x)(he:PE X e te)(hs:swapsWith e (some (.Name x pos')) pos.line X.env=pure false:=by rfl)(hf:X.fn x=true\/X.env.scope.names.lookup x=some .local:=by exact xwA) :
  PS X (.Assign [.Name x pos'] e pos) (tAsg te (zyx i)):=by
 intro pS s Y H D I h;refine wpAny_Assign_Name (thn (he pS s Y H _ I h) λv s1 ⟨y,H1,I1,r1,q1⟩=>?_) hs;exact zpt I1 hN hi hx r1 (λs2 I2=>⟨_,H1,I2,q1⟩) hf
end
section
variable{X:Cx}{pos:Pos}
def zx4(c:TT)(tb:TS):TS:=λD Y H=>∃ W:Nat->St->Hp->Prop,(∃ m,W m Y H)/\∀ m Y H,W m Y H ->
 c Y H λb H1=>if b=true then ∃ N:St->Hp->Prop,(∀ Y' H',N Y' H'->∃ m',m'<m/\W m' Y' H')/\tb { D with nx:=N,ct:=N,bk:=D.nx } Y H1 else D.nx Y H1
theorem zsJ{c:Expr}{body:List Stmt}{tc:TT}{tb:TS}(hp:PassesOwn (model X.prog X.w) X.A X.env X.xe)(hc:PT X c tc)(hb:PSs X body tb):PS X (.While c body [] pos) (zx4 tc tb):=by
 intro pS s Y H D I h;obtain ⟨W,⟨m0,w0⟩,turn⟩:=h;refine wpAny_While (codeAny_whileLoop (λn s'=>∃ Y' H',Inv X pS Y' H' s'/\W n Y' H') ?_ m0 ⟨Y,H,I,w0⟩);rintro n s1 ⟨Y1,H1,I1,w1⟩;refine wpAny_passesOwn hp (thn (hc pS s1 Y1 H1 _ I1 (turn n Y1 H1 w1)) λb s2 ⟨H2,I2,q2⟩=>?_);cases b with
 |true =>
  obtain ⟨N,hN,q2⟩:=q2;rw[if_pos rfl];refine wpAny_passesOwn hp (thn (hb pS s2 Y1 H2 _ I2 q2) λf s3 q3=>?_);cases f with
  |next =>
   obtain ⟨Y3,H3,I3,n3⟩:=q3;obtain ⟨m',hm,w3⟩:=hN Y3 H3 n3;exact ⟨m',hm,Y3,H3,I3,w3⟩
  |cont =>
   obtain ⟨Y3,H3,I3,n3⟩:=q3;obtain ⟨m',hm,w3⟩:=hN Y3 H3 n3;exact ⟨m',hm,Y3,H3,I3,w3⟩
  |brk=>exact q3
  |ret v=>exact q3
 |false =>
  rw[if_neg Bool.false_ne_true];exact wpAny_execs_nil ⟨Y1,H2,I2,q2⟩
end
structure It where
 go:Nat->Hp->Prop
 yld:Nat->Hp->V->Hp->Prop
 stop:Nat->Hp->Prop
def zgP(X:Cx)(pS:List (Addr×Obj))(H:Hp)(b:Addr):Prop :=
 H b=none/\b≠X.env.locals/\b∉X.fs/\(b∈X.ex\/X.s₀.heap.objs.size<=b)/\(∀ x c,X.env.cells.lookup x=some c->c≠b)/\∀ p∈X.pn++pS,p.1≠b
theorem Inv.fpOk{X:Cx}{pS:List (Addr×Obj)}{Y:St}{H H':Hp}{s:Shared}{b:Addr}(I:Inv X pS Y H s)(hb:s.heap.objs.size<=b)(hn:H' b=none):zgP X pS H' b:=by
 refine ⟨hn,Nat.ne_of_gt (was I.lt hb),I.nofs hb,.inr (waN I.sz hb),λx c e z=>?_,λp hp z=>?_⟩
 ·obtain ⟨v,q⟩:=I.cell x c e;exact absurd (was q.lt (by rw[z];exact hb)) (waL _)
 ·exact absurd (was (wai (I.pin p hp).1) (by rw[z];exact hb)) (waL _)
structure ztH(P:Program)(w:World)(K:W.Frag)(tg:Expr)(J:It)(fp:List Addr)(it:Addr)(tn:Nat->Heap->Prop):Prop where
 mem:it∈fp
 obj:∀ i h,tn i h->∀ b∈fp,∃ o,h.get? b=some o/\∀ v,o.data≠.cell v
 keep:∀ i h h',tn i h->(∀ b∈fp,∀ o,h.get? b=some o->h'.get? b=some o)->tn i h'
 item:∀(X:Cx),X.prog=P->X.w=w->X.K=K->X.calm=true->∀(i:Nat)(pS:List (Addr×Obj))(s:Shared)(Y:St)(H:Hp)(E:Value->Shared->Prop),Inv X pS Y H s->(∀ b∈fp,zgP X pS H b)->tn i s.heap->J.go i H ->
  wpAny (model P w) X.A (pyNext (.ref it)) (λr s1=>∃ u,r=some u /\
   wpAny (model P w) X.A (letOwnedTupleGo tg (.ref it) u) (λ_ s2=>∃ x H',Inv X pS Y H' s2/\zc9 x u/\J.yld i H x H'/\tn (i+1) s2.heap/\∀ b∈fp,H' b=none) E s1) E s
 done:∀(X:Cx),X.prog=P->X.w=w->X.K=K->X.calm=true->∀(i:Nat)(pS:List (Addr×Obj))(s:Shared)(Y:St)(H:Hp)(E:Value->Shared->Prop),Inv X pS Y H s->(∀ b∈fp,zgP X pS H b)->tn i s.heap->J.stop i H ->
  wpAny (model P w) X.A (pyNext (.ref it)) (λr s1=>r=none/\Inv X pS Y H s1) E s
 self:∀(A:Around)(i:Nat)(s:Shared)(Q:Value->Shared->Prop)(E:Value->Shared->Prop),tn i s.heap->Q (.ref it) s->wpAny (model P w) A (pyIter (.ref it)) Q E s
abbrev TI:=St->Hp->(It->Hp->Prop)->Prop
def PIE(X:Cx)(pS:List (Addr×Obj))(Y:St)(tg:Expr)(R:It->Hp->Prop)(itv:Value)(s2:Shared):Prop :=
 ∃(it:Addr)(fp:List Addr)(tn:Nat->Heap->Prop)(J:It)(H':Hp),itv=.ref it/\Inv X pS Y H' s2/\ztH X.prog X.w X.K tg J fp it tn/\tn 0 s2.heap/\(∀ b∈fp,zgP X pS H' b)/\R J H'
def PI(X:Cx)(tg iter:Expr)(wi:TI):Prop :=
 ∀(pS:List (Addr×Obj))(s:Shared)(Y:St)(H:Hp)(R:It->Hp->Prop),Inv X pS Y H s->wi Y H R ->
  wpAny (model X.prog X.w) X.A (eval iter X.env) (λv s1=>wpAny (model X.prog X.w) X.A (pyIter v) (PIE X pS Y tg R) X.xe s1) X.xe s
theorem zvz{M:Model}{A:Around}{E:Value->Shared->Prop}{s:Shared}{tg:Expr}{it:Addr}{u:Value}{o:Obj}{n:String}{vs:Array Value}{Q:Unit->Shared->Prop}(ho:s.heap.get? it=some o)(hc:o.cls=.type n)(hd:o.data=.fields vs)
  (hn:["enumerate","zip","dict_itemiterator","dict_reverseitemiterator","odict_iterator","itertools.zip_longest","itertools.pairwise"].contains n=false) (hQ:Q () s):wpAny M A (letOwnedTupleGo tg (.ref it) u) Q E s:=by
 unfold letOwnedTupleGo;cases tg <;> first
  |exact wad hQ
  | (cases u <;> first
    |exact wad hQ
    | (refine wab (wpAny_load ho ?_)
       rw[hc,hd];show wpAny M A (if (["enumerate","zip","dict_itemiterator","dict_reverseitemiterator","odict_iterator","itertools.zip_longest","itertools.pairwise"].contains n && vs[0]? == some (rawInt _))=true then _ else _) Q E s;rw[if_neg (by intro h;rw[hn,Bool.false_and] at h;cases h)];exact wad hQ))
def Itl(K:W.Frag)(a:Addr):It :=
 ⟨λi H=>∃ xs x,SqL K H a xs/\xs[i]? = some x,λi H x H'=>H'=H/\∀ xs,SqL K H a xs->xs[i]? = some x,λi H=>∃ xs,SqL K H a xs/\xs.length<=i⟩
def Itt(K:W.Frag)(a:Addr):It :=
 ⟨λi H=>∃ xs x,SqT K H a xs/\xs[i]? = some x,λi H x H'=>H'=H/\∀ xs,SqT K H a xs->xs[i]? = some x,λi H=>∃ xs,SqT K H a xs/\xs.length<=i⟩
def Itr(lo:Int)(n:Nat):It:=⟨λi _=>i<n,λi H x H'=>H'=H/\x=.int (lo+i),λi _=>n<=i⟩
theorem zsF{P:Program}{w:World}{K:W.Frag}{tg:Expr}(a it:Addr):ztH P w K tg (Itl K a) [it] it (λi h=>h.IsListIter it a i) where
 mem:=by simp
 obj:=λi h st b hb=>by
  have e:b=it:=by simpa using hb
  subst e;obtain ⟨o,e,c,d⟩:=st;exact ⟨o,e,λv z=>by rw[d] at z;cases z⟩
 keep:=λi h h' st k=>st.at λo e=>k it xws o e
 item:=by intro X hP hw hK hc i pS s Y H E I hf st hg;subst hP hw hK;obtain ⟨xs,x,hq,hx⟩:=hg;obtain ⟨its,rv,p,hz⟩:=I.list hq;obtain ⟨u,hu,ru⟩:=rv.get hx;obtain ⟨f0,f1,f2,f3,f4,f5⟩:=hf it xws;refine wpAny_pyNext_list_item st p.isList (x:=u) (by simpa using hu) λh' st' sb=>?_;have I1:Inv X pS Y H { s with heap:=h' }:=I.turned (t':=s.toks) (λb o hb e=>(sb.2 b hb).trans e) f0 f1 f3 f4 f5;obtain ⟨o,e,c,d⟩:=id st';exact ⟨u,rfl,zvz (s:={ s with heap:=h' }) e c d xwd ⟨x,H,I1,ru,⟨rfl,λys hy=>by rw[I.list_inj hy hq];exact hx⟩,st',λb hb=>(hf b hb).1⟩⟩
 done:=by intro X hP hw hK hc i pS s Y H E I hf st hg;subst hP hw hK;obtain ⟨xs,hq,hx⟩:=hg;obtain ⟨its,rv,p,hz⟩:=I.list hq;obtain ⟨f0,f1,f2,f3,f4,f5⟩:=hf it xws;have hl:=rv.length;exact wpAny_pyNext_list_end (I.ok.hd hc) st p.isList (by simp;lia) λh' eb=>⟨rfl,I.turned (t':=s.toks) (λb o hb e=>eb b o hb e) f0 f1 f3 f4 f5⟩
 self:=λ_ _ _ _ _ st h=>wpAny_pyIter_listiter st h
theorem zpS{P:Program}{w:World}{K:W.Frag}{tg:Expr}(a it:Addr):ztH P w K tg (Itt K a) [it] it (λi h=>h.IsTupleIter it a i) where
 mem:=by simp
 obj:=λi h st b hb=>by
  have e:b=it:=by simpa using hb
  subst e;obtain ⟨o,e,c,d⟩:=st;exact ⟨o,e,λv z=>by rw[d] at z;cases z⟩
 keep:=λi h h' st k=>st.at λo e=>k it xws o e
 item:=by intro X hP hw hK hc i pS s Y H E I hf st hg;subst hP hw hK;obtain ⟨xs,x,hq,hx⟩:=hg;obtain ⟨its,rv,p,hz⟩:=I.tuple hq;obtain ⟨u,hu,ru⟩:=rv.get hx;obtain ⟨f0,f1,f2,f3,f4,f5⟩:=hf it xws;refine wpAny_pyNext_tuple_item st (show s.heap.IsTuple a its.toArray from p) (x:=u) (by simpa using hu) λh' st' sb=>?_;have I1:Inv X pS Y H { s with heap:=h' }:=I.turned (t':=s.toks) (λb o hb e=>(sb.2 b hb).trans e) f0 f1 f3 f4 f5;obtain ⟨o,e,c,d⟩:=id st';exact ⟨u,rfl,zvz (s:={ s with heap:=h' }) e c d xwd ⟨x,H,I1,ru,⟨rfl,λys hy=>by rw[I.tuple_inj hy hq];exact hx⟩,st',λb hb=>(hf b hb).1⟩⟩
 done:=by intro X hP hw hK hc i pS s Y H E I hf st hg;subst hP hw hK;obtain ⟨xs,hq,hx⟩:=hg;obtain ⟨its,rv,p,hz⟩:=I.tuple hq;obtain ⟨f0,f1,f2,f3,f4,f5⟩:=hf it xws;have hl:=rv.length;exact wpAny_pyNext_tuple_end (I.ok.hd hc) st (show s.heap.IsTuple a its.toArray from p) (by simp;lia) λh' eb=>⟨rfl,I.turned (t':=s.toks) (λb o hb e=>eb b o hb e) f0 f1 f3 f4 f5⟩
 self:=λ_ _ _ _ _ st h=>wpAny_pyIter_tupleiter st h
theorem zqg{P:Program}{w:World}{K:PySem.W.Frag}{tg:Expr}(it:Addr)(lo:Int)(n:Nat):ztH P w K tg (Itr lo n) [it] it (λi h=>IsRangeIter h it (lo+(i:Nat) * 1) ((n:Int)-(i:Nat)) 1) where
 mem:=by simp
 obj:=λi h st b hb=>by
  have e:b=it:=by simpa using hb
  subst e;exact ⟨_,st,λv z=>by have z':Data.fields _=Data.cell v:=z;cases z'⟩
 keep:=λi h h' st k=>k it xws _ st
 item:=by intro X hP hw hK hc i pS s Y H E I hf st hg;subst hP hw hK;obtain ⟨f0,f1,f2,f3,f4,f5⟩:=hf it xws;have W:=Walks.range (prog:=X.prog) (w:=X.w) (I.ok.hd hc) it lo 1 n;refine W.item i s _ _ hg st λv h' tk hv st' kk=>?_;obtain ⟨t,rfl⟩:=hv;have I1:Inv X pS Y H { s with heap:=h',toks:=tk }:=I.turned (λb o hb e=>kk b o (by simpa using hb) e) f0 f1 f3 f4 f5;refine ⟨_,rfl,zvz (s:={ s with heap:=h',toks:=tk }) (n:="range_iterator") st' rfl rfl xwd ⟨.int (lo+i),H,I1,⟨t,?_⟩,⟨rfl,rfl⟩,st',λb hb=>(hf b hb).1⟩⟩;rw[Int.mul_one]
 done:=by intro X hP hw hK hc i pS s Y H E I hf st hg;subst hP hw hK;obtain ⟨f0,f1,f2,f3,f4,f5⟩:=hf it xws;exact wpAny_pyNext_range_end (I.ok.hd hc) st (by have:n<=i:=hg;lia) λh' eb=>⟨rfl,I.turned (t':=s.toks) (λb o hb e=>eb b o hb e) f0 f1 f3 f4 f5⟩
 self:=λ_ _ _ _ _ st h=>wpAny_pyIter_rangeiter st h
end L2
namespace L2
open PySem PySem.Spec PyProof.Rows
section
variable{X:Cx}{tg:Expr}
def zzm(K:W.Frag)(tl:TE):TI:=λY H R=>tl Y H λx H1=>∃ a,x=.ref a/\(∃ xs,SqL K H1 a xs)/\R (Itl K a) H1
def iTup(K:W.Frag)(tl:TE):TI:=λY H R=>tl Y H λx H1=>∃ a,x=.ref a/\(∃ xs,SqT K H1 a xs)/\R (Itt K a) H1
theorem zvl{l:Expr}{tl:TE}(hl:PE X l tl):PI X tg l (zzm X.K tl):=by
 intro pS s Y H R I h;refine thn (hl pS s Y H _ I h) λv s1 ⟨x,H1,I1,r1,q1⟩=>?_;obtain ⟨a,e,⟨xs,hq⟩,q⟩:=q1;subst e;cases r1;obtain ⟨its,rv,p,hz⟩:=I1.list hq;refine wpAny_pyIter_list p.isList ?_;refine ⟨s1.heap.objs.size,[s1.heap.objs.size],_,_,H1,rfl,I1.kept (t':=s1.toks) λb o e=>waa _ e,zsF a _,⟨_,waj _ rfl,rfl,rfl⟩,λb hb=>?_,q⟩;have e:b=s1.heap.objs.size:=by simpa using hb
 subst e;exact I1.fpOk (wal _) (I1.hok.fresh (wal _))
theorem zyd{l:Expr}{tl:TE}(hl:PE X l tl):PI X tg l (iTup X.K tl):=by
 intro pS s Y H R I h;refine thn (hl pS s Y H _ I h) λv s1 ⟨x,H1,I1,r1,q1⟩=>?_;obtain ⟨a,e,⟨xs,hq⟩,q⟩:=q1;subst e;cases r1;obtain ⟨its,rv,p,hz⟩:=I1.tuple hq;refine wpAny_pyIter_tuple (show s1.heap.IsTuple a its.toArray from p) ?_;refine ⟨s1.heap.objs.size,[s1.heap.objs.size],_,_,H1,rfl,I1.kept (t':=s1.toks) λb o e=>waa _ e,zpS a _,⟨_,waj _ rfl,rfl,rfl⟩,λb hb=>?_,q⟩;have e:b=s1.heap.objs.size:=by simpa using hb
 subst e;exact I1.fpOk (wal _) (I1.hok.fresh (wal _))
theorem zpn{pS:List (Addr×Obj)}{Y:St}{H:Hp}{s:Shared}{R:It->Hp->Prop}{E:Value->Shared->Prop}{lo hi:Int}{t u v:Tok}{tk:Nat}(I:Inv X pS Y H s)(h1:-(2 ^ 62)<=lo)(h2:lo<2 ^ 62)(h3:-(2 ^ 62)<=hi)(h4:hi<2 ^ 62)
  (q:R (Itr lo (hi-lo).toNat) H):wpAny (model X.prog X.w) X.A (pyIter (.ref s.heap.objs.size)) (PIE X pS Y tg R) E { s with heap:=s.heap.push { cls:=.type "range",data:=.fields #[.int lo t,.int hi u,.int 1 v] },toks:=tk }:=by
 refine wpAny_pyIter_range (IsRange.new ..) (small_one h1 h2 h3 h4) ?_;have I1:Inv X pS Y H { s with heap:=s.heap.push { cls:=.type "range",data:=.fields #[.int lo t,.int hi u,.int 1 v] },toks:=tk }:=I.kept λb o e=>waa _ e;refine ⟨(s.heap.push { cls:=.type "range",data:=.fields #[.int lo t,.int hi u,.int 1 v] }).objs.size,[(s.heap.push { cls:=.type "range",data:=.fields #[.int lo t,.int hi u,.int 1 v] }).objs.size],_,_,H,rfl,
  I1.kept (t':=tk) λb o e=>waa _ e,zqg _ lo (hi-lo).toNat,?_,λb hb=>?_,q⟩
 ·have e1:lo+((0:Nat):Int) * 1=lo:=by simp
  have e2:(((hi-lo).toNat:Nat):Int)-((0:Nat):Int)=Builtin.Range.rangeSize lo hi 1:=by rw[rangeSize_one];split <;> lia
  show IsRangeIter _ _ (lo+((0:Nat):Int) * 1) ((((hi-lo).toNat:Nat):Int)-((0:Nat):Int)) 1;rw[e1,e2];exact waj _ rfl
 ·have e:b=(s.heap.push { cls:=.type "range",data:=.fields #[.int lo t,.int hi u,.int 1 v] }).objs.size:=by simpa using hb
  subst e;exact I1.fpOk (wal _) (I1.hok.fresh (wal _))
def zzf(ta:TA):TI:=λY H R=>ta Y H λvs H1=>∃ j:Int,vs=[.int j]/\-(2 ^ 62)<=j/\j<2 ^ 62/\R (Itr 0 j.toNat) H1
def zz3(ta:TA):TI:=λY H R=>ta Y H λvs H1=>∃ i j:Int,vs=[.int i,.int j]/\(-(2 ^ 62)<=i/\i<2 ^ 62/\-(2 ^ 62)<=j/\j<2 ^ 62)/\R (Itr i (j-i).toNat) H1
theorem zqN{a:Expr}{ta:TA}{p pos:Pos}(hg:Gl X "range")(hm:X.mg "range"=none)(ha:PA X [a] ta)(hs:starEach [a] X.env=[(false,eval a X.env)]:=by rfl):PI X tg (.Call (.Name "range" p) [a] [] pos) (zzf ta):=by
 intro pS s Y H R I h;refine Call_ (zfd I hg hm boot_range (PyProof.Rows.callWith_type1 (thn (ha pos pS s Y H _ I h) λus s1 ⟨vs,H1,I1,r1,q1⟩=>?_) hs rfl));obtain ⟨j,e,q1,q2,q⟩:=q1;subst e;cases r1 with
 |cons r rr =>
  cases rr;obtain ⟨t,rfl⟩:=r;exact call_range_1 (zpn I1 xwl xwo q1 q2 (by simpa using q))
theorem zqo{a b:Expr}{ta:TA}{p pos:Pos}(hg:Gl X "range")(hm:X.mg "range"=none)(ha:PA X [a,b] ta)(hs:starEach [a,b] X.env=[(false,eval a X.env),(false,eval b X.env)]:=by rfl)(hs2:starEach [b] X.env=[(false,eval b X.env)]:=by rfl) :
  PI X tg (.Call (.Name "range" p) [a,b] [] pos) (zz3 ta):=by
 intro pS s Y H R I h;refine Call_ (zfd I hg hm boot_range (PyProof.Rows.callWith_type1 (thn (ha pos pS s Y H _ I h) λus s1 ⟨vs,H1,I1,r1,q1⟩=>?_) (by rw[hs,hs2]) (by rw[hs2];rfl)));obtain ⟨i,j,e,⟨q1,q2,q3,q4⟩,q⟩:=q1;subst e;cases r1 with
 |cons r rr =>
  cases rr with
  |cons r' rr =>
   cases rr;obtain ⟨t,rfl⟩:=r;obtain ⟨t',rfl⟩:=r';exact call_range_2 (zpn I1 q1 q2 q3 q4 q)
def tFor(wi:TI)(g:TG)(tb:TS):TS:=λD Y H=>wi Y H λJ H1=>∃ W:Nat->Nat->St->Hp->Prop,(∃ m,W 0 m Y H1)/\∀ i m Y H,W i m Y H ->
 (J.stop i H/\D.nx Y H)\/(J.go i H/\∃ N:St->Hp->Prop,(∀ Y' H',N Y' H'->∃ m',m'<m/\W (i+1) m' Y' H')/\∀ x H',J.yld i H x H'->g x Y H' λY2 H2=>tb { D with nx:=N,ct:=N,bk:=D.nx } Y2 H2)
def zgA(fp:List Addr)(h:Heap):List (Addr×Obj):=fp.filterMap λb=>(h.get? b).map λo=>(b,o)
theorem zfH{fp:List Addr}{h:Heap}{b:Addr}{o:Obj}(hb:b∈fp)(e:h.get? b=some o):(b,o)∈zgA fp h:=List.mem_filterMap.mpr ⟨b,hb,by rw[e];rfl⟩
theorem zqm{fp:List Addr}{h:Heap}{p:Addr×Obj}(hp:p∈zgA fp h):p.1∈fp/\h.get? p.1=some p.2:=by
 obtain ⟨b,hb,e⟩:=List.mem_filterMap.mp hp;cases q:h.get? b with
 |none=>rw[q] at e;cases e
 |some o =>
  rw[q] at e;have e':(b,o)=p:=waA e;subst e';exact ⟨hb,q⟩
theorem Inv.pinned{pS:List (Addr×Obj)}{Y:St}{H:Hp}{s:Shared}{fp:List Addr}(I:Inv X pS Y H s)(hf:∀ b∈fp,zgP X pS H b)(ho:∀ b∈fp,∃ o,s.heap.get? b=some o/\∀ v,o.data≠.cell v):Inv X (pS++zgA fp s.heap) Y H s :=
 I.pins_of λp hp=>(wax.mp hp).elim (λz=>I.pin p (waz _ z)) λz=>by obtain ⟨hb,e⟩:=zqm z;obtain ⟨f0,f1,f2,_⟩:=hf p.1 hb;obtain ⟨o,e',d⟩:=ho p.1 hb;rw[e] at e';cases e';exact ⟨e,f0,f1,f2,d⟩
theorem Inv.unpinned{pS pl:List (Addr×Obj)}{Y:St}{H:Hp}{s:Shared}(I:Inv X (pS++pl) Y H s):Inv X pS Y H s:=I.pins_of λp hp=>I.pin p (waz _ (waR _ hp))
theorem zxJ{iter:Expr}{body:List Stmt}{wi:TI}{g:TG}{tb:TS}{pos:Pos}(hp:PassesOwn (model X.prog X.w) X.A X.env X.xe)(hc:X.calm=true)(hi:PI X tg iter wi)(hg:PG X tg g)(hb:PSs X body tb)
  (hs:∀ x,foldedSetIterable iter X.env x=pure x:=by intro _;rfl):PS X (.For tg iter body [] pos) (tFor wi g tb):=by
 intro pS s Y H D I h;refine wpAny_For (thn (hi pS s Y H _ I h) λv s1 h1=>thn h1 λitv s2 h2=>?_) hs;obtain ⟨it,fp,tn,J,H2,e,I2,T,st2,f2,W,⟨m0,w0⟩,turn⟩:=h2;subst e;have stat:∀{H':Hp},(∀ b∈fp,H' b=none)->∀ b∈fp,zgP X pS H' b:=λhn b hb=>⟨hn b hb,(f2 b hb).2⟩
 refine codeAny_forLoop_any (λn s'=>∃ i Y' H',Inv X pS Y' H' s'/\tn i s'.heap/\(∀ b∈fp,H' b=none)/\W i n Y' H') ?_ m0 ⟨0,Y,H2,I2,st2,λb hb=>(f2 b hb).1,w0⟩;rintro n s3 ⟨i,Y3,H3,I3,st3,fr3,w3⟩;rcases turn i n Y3 H3 w3 with ⟨stop,qn⟩|⟨go,N,hN,step⟩
 ·refine wpAny_passesOwn hp (thn (T.done X rfl rfl rfl hc i pS s3 Y3 H3 X.xe I3 (stat fr3) st3 stop) λr s4 ⟨hr,I4⟩=>?_);subst hr;exact wpAny_execs_nil ⟨Y3,H3,I4,qn⟩
 ·refine wpAny_passesOwn hp (thn (T.item X rfl rfl rfl hc i pS s3 Y3 H3 X.xe I3 (stat fr3) st3 go) λr s4 ⟨u,hr,h4⟩=>?_);subst hr;refine wpAny_passesOwn hp (thn h4 λ_ s5 ⟨x,H5,I5,r5,y5,st5,fr5⟩=>?_);have I5':=I5.pinned (stat fr5) (T.obj _ _ st5);refine wpAny_passesOwn hp (thn (hg _ s5 Y3 H5 x u _ I5' r5 (step x H5 y5)) λ_ s6 ⟨Y6,H6,I6,q6⟩=>?_);refine wpAny_passesOwn hp (thn (hb _ s6 Y6 H6 _ I6 q6) λf s7 q7=>?_);have again:∀{Y7:St}{H7:Hp},Inv X (pS++zgA fp s5.heap) Y7 H7 s7->N Y7 H7->∃ m,m<n/\∃ i Y' H',Inv X pS Y' H' s7/\tn i s7.heap/\(∀ b∈fp,H' b=none)/\W i m Y' H':=λ{Y7 H7} I7 n7=>by obtain ⟨m',hm,w7⟩:=hN Y7 H7 n7;refine ⟨m',hm,i+1,Y7,H7,I7.unpinned,T.keep _ _ _ st5 λb hb o e=>(I7.pin (b,o) (waz _ (waz _ (zfH hb e)))).1,λb hb=>?_,w7⟩;obtain ⟨o,e,d⟩:=T.obj _ _ st5 b hb;exact (I7.pin (b,o) (waz _ (waz _ (zfH hb e)))).2.1
  cases f with
  |next=>obtain ⟨Y7,H7,I7,n7⟩:=q7;exact again I7 n7
  |cont=>obtain ⟨Y7,H7,I7,n7⟩:=q7;exact again I7 n7
  |brk=>obtain ⟨Y7,H7,I7,q7⟩:=q7;exact ⟨Y7,H7,I7.unpinned,q7⟩
  |ret v=>obtain ⟨x7,Y7,H7,I7,r7,q7⟩:=q7;exact ⟨x7,Y7,H7,I7.unpinned,r7,q7⟩
end
end L2
namespace L2
open PySem PySem.Spec PyProof.Rows
abbrev R2:=V->V->Hp->VK->Prop
def OpR(X:Cx)(f:Value->Value->Sem Value)(r:R2):Prop :=
 ∀(pS:List (Addr×Obj))(s:Shared)(Y:St)(H:Hp)(x y:V)(v u:Value)(Q:VK),Inv X pS Y H s->zc9 x v->zc9 y u->r x y H Q ->
  wpAny (model X.prog X.w) X.A (f v u) (EP X pS Y Q) X.xe s
def UnR(X:Cx)(f:Value->Sem Value)(r:V->Hp->VK->Prop):Prop :=
 ∀(pS:List (Addr×Obj))(s:Shared)(Y:St)(H:Hp)(x:V)(v:Value)(Q:VK),Inv X pS Y H s->zc9 x v->r x H Q ->
  wpAny (model X.prog X.w) X.A (f v) (EP X pS Y Q) X.xe s
def zek(X:Cx)(f:Value)(r:List V->Hp->VK->Prop):Prop :=
 ∀(pS:List (Addr×Obj))(s:Shared)(Y:St)(H:Hp)(xs:List V)(us:List Value)(Q:VK),Inv X pS Y H s->zbs xs us->r xs H Q ->
  wpAny (model X.prog X.w) X.A (call f us) (EP X pS Y Q) X.xe s
def tOp(r:R2)(ta tb:TE):TE:=λY H Q=>ta Y H λx H1=>tb Y H1 λy H2=>r x y H2 Q
def tUn(r:V->Hp->VK->Prop)(ta:TE):TE:=λY H Q=>ta Y H λx H1=>r x H1 Q
def rI(C:Int->Int->Prop)(g:Int->Int->V):R2:=λx y H Q=>∃ i j,x=.int i/\y=.int j/\C i j/\Q (g i j) H
def rI0(g:Int->Int->V):R2:=λx y H Q=>∃ i j,x=.int i/\y=.int j/\Q (g i j) H
def rU(g:Int->V):V->Hp->VK->Prop:=λx H Q=>∃ i,x=.int i/\Q (g i) H
section
variable{X:Cx}{a b c:Expr}{ta tb tc:TE}{pos:Pos}
theorem zzH(ha:PE X a ta)(hb:PE X b tb){pS:List (Addr×Obj)}{s:Shared}{Y:St}{H:Hp}{R:V->V->Hp->Prop}(I:Inv X pS Y H s)
  (h:ta Y H λx H1=>tb Y H1 λy H2=>R x y H2) {Q:Value->Shared->Prop} {f:Value->Value->Sem Value}
  (hf:∀ v u s2 x y H2,Inv X pS Y H2 s2->zc9 x v->zc9 y u->R x y H2->wpAny (model X.prog X.w) X.A (f v u) Q X.xe s2) :
  wpAny (model X.prog X.w) X.A (eval a X.env) (λv s₁=>wpAny (model X.prog X.w) X.A (eval b X.env) (λu s₂=>wpAny (model X.prog X.w) X.A (f v u) Q X.xe s₂) X.xe s₁) X.xe s:=by
 refine thn (ha pS s Y H _ I h) λv s1 ⟨x,H1,I1,r1,q1⟩=>?_;refine thn (hb pS s1 Y H1 _ I1 q1) λu s2 ⟨y,H2,I2,r2,q2⟩=>?_;exact hf v u s2 x y H2 I2 r1 r2 q2
theorem zwM{op:Operator}{r:R2}(ho:OpR X (binaryOp op) r)(ha:PE X a ta)(hb:PE X b tb):PE X (.BinOp a op b pos) (tOp r ta tb):=by intro pS s Y H Q I h;exact wpAny_BinOp (zzH ha hb I h λv u s2 x y H2 I2 rx ry q=>ho pS s2 Y H2 x y v u Q I2 rx ry q)
theorem zxo{op:UnaryOp}{r:V->Hp->VK->Prop}(ho:UnR X (unaryOp op) r)(ha:PE X a ta):PE X (.UnaryOp op a pos) (tUn r ta):=by intro pS s Y H Q I h;exact UnaryOp_ (thn (ha pS s Y H _ I h) λv s1 ⟨x,H1,I1,r1,q1⟩=>ho pS s1 Y H1 x v Q I1 r1 q1)
theorem opI{f:Value->Value->Sem Value}{C:Int->Int->Prop}{g:Int->Int->Int}
  (rule:∀(i j:Int)(t u:Tok)(s:Shared)(Q:Value->Shared->Prop)(E:Value->Shared->Prop),C i j->Q (.int (g i j) s.toks) { s with toks:=s.toks+1 }->wpAny (model X.prog X.w) X.A (f (.int i t) (.int j u)) Q E s) :
  OpR X f (rI C λi j=>.int (g i j)):=by
 intro pS s Y H x y v u Q I rx ry h;obtain ⟨i,j,rfl,rfl,hc,q⟩:=h;obtain ⟨t,rfl⟩:=rx;obtain ⟨t',rfl⟩:=ry;exact rule i j t t' s _ _ hc ⟨.int (g i j),H,I.tok _,⟨_,rfl⟩,q⟩
theorem opI0{f:Value->Value->Sem Value}{g:Int->Int->Int}
  (rule:∀(i j:Int)(t u:Tok)(s:Shared)(Q:Value->Shared->Prop)(E:Value->Shared->Prop),Q (.int (g i j) s.toks) { s with toks:=s.toks+1 }->wpAny (model X.prog X.w) X.A (f (.int i t) (.int j u)) Q E s) :
  OpR X f (rI0 λi j=>.int (g i j)):=by
 intro pS s Y H x y v u Q I rx ry h;obtain ⟨i,j,rfl,rfl,q⟩:=h;obtain ⟨t,rfl⟩:=rx;obtain ⟨t',rfl⟩:=ry;exact rule i j t t' s _ _ ⟨.int (g i j),H,I.tok _,⟨_,rfl⟩,q⟩
theorem zyY{f:Value->Value->Sem Value}{g:Int->Int->Bool}
  (rule:∀(i j:Int)(t u:Tok)(s:Shared)(Q:Value->Shared->Prop)(E:Value->Shared->Prop),Q (.bool (g i j)) s->wpAny (model X.prog X.w) X.A (f (.int i t) (.int j u)) Q E s) :
  OpR X f (rI0 λi j=>.bl (g i j)):=by
 intro pS s Y H x y v u Q I rx ry h;obtain ⟨i,j,rfl,rfl,q⟩:=h;obtain ⟨t,rfl⟩:=rx;obtain ⟨t',rfl⟩:=ry;exact rule i j t t' s _ _ ⟨.bl (g i j),H,I,rfl,q⟩
def CDiv(i j:Int):Prop:=0<j/\j<1073741824
def CPow(i j:Int):Prop:=0<=j/\j<=1000000/\i.natAbs<2 ^ 64
def zyX(i j:Int):Prop:=(-(2 ^ 64)<i/\i<2 ^ 64)\/(-(2 ^ 64)<j/\j<2 ^ 64)
theorem zyX.ok{i j:Int}(h:zyX i j):IntMulOk i j:=by
 rcases h with ⟨h1,h2⟩|⟨h1,h2⟩
 ·exact .of_left (intBits_le_64 h1 h2)
 ·exact .of_right (intBits_le_64 h1 h2)
theorem zyw:OpR X (binaryOp .Add) (rI0 λi j=>.int (i+j)):=opI0 λ_ _ _ _ _ _ _ q=>add_int q
theorem zyr:OpR X (binaryOp .Sub) (rI0 λi j=>.int (i-j)):=opI0 λ_ _ _ _ _ _ _ q=>sub_int q
theorem zyF:OpR X (binaryOp .Mult) (rI zyX λi j=>.int (i * j)):=opI λ_ _ _ _ _ _ _ hc q=>mul_int q hc.ok
theorem zva:OpR X (binaryOp .FloorDiv) (rI CDiv λi j=>.int (i / j)):=opI λi j _ _ _ _ _ hc q=>by have h1:(0:Int)<j:=hc.1;have h2:j<1073741824:=hc.2;exact floordiv_int xwl (by rw[Int.fdiv_eq_ediv_of_nonneg i xwo];exact q) (.inl (PyProof.noPylong_small xwo))
theorem zxg:OpR X (binaryOp .Mod) (rI (λ_ j=>0<j) λi j=>.int (i % j)):=opI λi j _ _ _ _ _ hc q=>by have h1:(0:Int)<j:=hc;exact mod_int' xwl (by rw[Int.fmod_eq_emod_of_nonneg i xwo];exact q)
theorem zxb:OpR X (binaryOp .Pow) (rI CPow λi j=>.int (i ^ j.toNat)):=opI λ_ _ _ _ _ _ _ hc q=>pow_int_small hc.1 hc.2.1 hc.2.2 q
theorem unI{f:Value->Sem Value}{g:Int->Int}
  (rule:∀(i:Int)(t:Tok)(s:Shared)(Q:Value->Shared->Prop)(E:Value->Shared->Prop),Q (.int (g i) s.toks) { s with toks:=s.toks+1 }->wpAny (model X.prog X.w) X.A (f (.int i t)) Q E s) :
  UnR X f (rU λi=>.int (g i)):=by
 intro pS s Y H x v Q I rx h;obtain ⟨i,rfl,q⟩:=h;obtain ⟨t,rfl⟩:=rx;exact rule i t s _ _ ⟨.int (g i),H,I.tok _,⟨_,rfl⟩,q⟩
theorem zu4:UnR X (unaryOp .USub) (rU λi=>.int (-i)):=unI λ_ _ _ _ _ q=>neg_int q
end
section
variable{X:Cx}{a b c:Expr}{ta tb tc:TE}{pos:Pos}
theorem zyD:OpR X (compareOp .Lt) (rI0 λi j=>.bl (decide (i<j))):=zyY λ_ _ _ _ _ _ _ q=>lt_int q
theorem zxf:OpR X (compareOp .LtE) (rI0 λi j=>.bl (decide (i<=j))):=zyY λ_ _ _ _ _ _ _ q=>le_int q
theorem zzE:OpR X (compareOp .Gt) (rI0 λi j=>.bl (decide (j<i))):=zyY λ_ _ _ _ _ _ _ q=>gt_int q
theorem zzK:OpR X (compareOp .GtE) (rI0 λi j=>.bl (decide (j<=i))):=zyY λ_ _ _ _ _ _ _ q=>ge_int q
theorem OpR.or{f:Value->Value->Sem Value}{r r':R2}(h:OpR X f r)(h':OpR X f r'):OpR X f (λx y H Q=>r x y H Q\/r' x y H Q):=by
 intro pS s Y H x y v u Q I rx ry q;rcases q with q|q
 ·exact h pS s Y H x y v u Q I rx ry q
 ·exact h' pS s Y H x y v u Q I rx ry q
theorem zfZ(b:Expr){op:CmpOp}(h:op≠.In:=by decide)(h2:op≠.NotIn:=by decide):behindInMarks op b=false:=by
 have e1:(op == CmpOp.In)=false:=by cases op <;> first|rfl|exact absurd rfl h
 have e2:(op == CmpOp.NotIn)=false:=by cases op <;> first|rfl|exact absurd rfl h2
 cases b <;> simp[behindInMarks,e1,e2]
theorem zvE{op:CmpOp}{r:R2}(ho:OpR X (compareOp op) r)(ha:PE X a ta)(hb:PE X b tb)(hm:behindInMarks op b=false):PE X (.Compare a [op] [b] pos) (tOp r ta tb):=by intro pS s Y H Q I h;exact wpAny_Compare1 (zzH ha hb I h λv u s2 x y H2 I2 rx ry q=>ho pS s2 Y H2 x y v u Q I2 rx ry q) hm
def ztm(t:TE):TT:=λY H Q=>t Y H λx H'=>∃ k,x=.bl k/\Q k H'
theorem zoh{op:CmpOp}{r:R2}(ho:OpR X (compareOp op) r)(ha:PE X a ta)(hb:PE X b tb)(hm:behindInMarks op b=false):PT X (.Compare a [op] [b] pos) (ztm (tOp r ta tb)):=by
 intro pS s Y H Q I h;refine wpAny_isTrue_Compare1 (thn (ha pS s Y H _ I h) λv s1 ⟨x,H1,I1,r1,q1⟩=>thn (hb pS s1 Y H1 _ I1 q1) λu s2 ⟨y,H2,I2,r2,q2⟩ =>
  thn (ho pS s2 Y H2 x y v u _ I2 r1 r2 q2) λc s3 ⟨z,H3,I3,r3,k,e,q3⟩=>?_) hm
 subst e;cases r3;exact wpAny_truthy_bool ⟨H3,I3,q3⟩
theorem zmg:(sizeLine:Nat)<2 ^ 63:=by rw[sizeLine_eq];decide
theorem zgF{x:V}{us:List Value}(r:zbs [x] us):∃ u,us=[u]/\zc9 x u:=by
 cases r with
 |cons r1 r2=>cases r2;exact ⟨_,rfl,r1⟩
theorem ztT{x y:V}{us:List Value}(r:zbs [x,y] us):∃ u w',us=[u,w']/\zc9 x u/\zc9 y w':=by
 cases r with
 |cons r1 r2 =>
  cases r2 with
  |cons r3 r4=>cases r4;exact ⟨_,_,rfl,r1,r3⟩
theorem zs3(hc:X.calm=true):zek X (.builtin "max") (λxs H Q=>∃ i j,xs=[.int i,.int j]/\Q (.int (if j > i then j else i)) H):=by
 intro pS s Y H xs us Q I r h;obtain ⟨i,j,rfl,q⟩:=h;obtain ⟨u,w',rfl,⟨t,rfl⟩,⟨t',rfl⟩⟩:=ztT r;refine max_two_ints (I.ok.hd hc) λh' tk k=>⟨_,H,I.kept k,?_,q⟩
 by_cases hj:j > i
 ·rw[if_pos hj,if_pos hj];exact ⟨_,rfl⟩
 ·rw[if_neg hj,if_neg hj];exact ⟨_,rfl⟩
theorem zqK(hc:X.calm=true):zek X (.builtin "min") (λxs H Q=>∃ i j,xs=[.int i,.int j]/\Q (.int (if j<i then j else i)) H):=by
 intro pS s Y H xs us Q I r h;obtain ⟨i,j,rfl,q⟩:=h;obtain ⟨u,w',rfl,⟨t,rfl⟩,⟨t',rfl⟩⟩:=ztT r;refine min_two_ints (I.ok.hd hc) λh' tk k=>⟨_,H,I.kept k,?_,q⟩
 by_cases hj:j<i
 ·rw[if_pos hj,if_pos hj];exact ⟨_,rfl⟩
 ·rw[if_neg hj,if_neg hj];exact ⟨_,rfl⟩
end
end L2
namespace L2
open PySem PySem.Spec PyProof.Rows
structure ObjM(h:Heap)(x dx C:Addr)(mA:Str->Option Value):Prop where
 obj:h.get? x=some (W.instObj C dx)
 ns:h.Ns1 dx mA
 ne:dx≠x
section
variable{prog:Program}{w:World}{A:Around}{E:Value->Shared->Prop}{s:Shared}{K:W.Frag}{x dx C f:Addr}{mA:Str->Option Value}{name:Str}{v:Value}
end
section
variable{P:Program}{w:World}{H H':Hp}{h h':Heap}{a C dx:Addr}{fs fs':List (Str×V)}
end
structure Cls(K:W.Frag)(C:Addr):Prop where
 pg:W.plainGet K C Str.empty=true
 hd:W.hasDictIn K C=true
 po:W.plainOver K C=true
 sa:W.findIn K (.ref C) "__setattr__"=some (some (.builtin "object.__setattr__"))
theorem Cls.get{K:W.Frag}{C:Addr}(c:Cls K C)(f:Str):W.plainGet K C f=true:=c.pg
structure Con(K:W.Frag)(C:Addr)(f:Str)(v:V)(u:Value):Prop where
 at_:W.findIn K (.ref C) f=some (some u)
 rel:zc9 v u
 get:W.specialIn K u "__get__"=some none
 cp:W.copiedNames.contains f=false
structure Meth(K:W.Frag)(C:Addr)(m:Str)(f:Addr):Prop where
 at_:W.findIn K (.ref C) m=some (some (.ref f))
 fn:W.isFn K (.ref f)=true
 kp:W.keepIn K (.ref f)=true
section
variable{X:Cx}{pS:List (Addr×Obj)}{Y:St}{H:Hp}{s:Shared}{a C dx:Addr}{fs:List (Str×V)}{f:Str}{v:V}{A:Around}{E:Value->Shared->Prop}
end
section
variable{X:Cx}{o e value:Expr}{f:Str}{pos pos' tpos:Pos}{ta tv:TE}
end
section
variable{X:Cx}{pS:List (Addr×Obj)}{Y:St}{H:Hp}{s:Shared}{A:Around}{E:Value->Shared->Prop}{Q:Value->Shared->Prop}{c:Value}{b:Bool}
inductive zrS(K:W.Frag)(H:Hp):V->Value->Prop where
 |non:zrS K H .non (.type "NoneType")
 |bl (x:Bool):zrS K H (.bl x) (.type "bool")
 |int (i:Int):zrS K H (.int i) (.type "int")
 |str (x:Str):zrS K H (.str x) (.type "str")
 |flt (x:UInt64):zrS K H (.flt x) (.type "float")
 |lst {a:Addr} {xs:List V} (e:H a=some (.lst xs)):zrS K H (.ref a) (.type "list")
 |frz {a:Addr} {o:Obj} {xs:List V} (e:H a=some (.frz o (.lst xs))):zrS K H (.ref a) (.type "list")
 |tup {a:Addr} {xs:List V} (e:H a=some (.tup xs)):zrS K H (.ref a) (.type "tuple")
 |dK {a:Addr} {kvs:List (Key×V)} (e:H a=some (.dK kvs)):zrS K H (.ref a) (.type "dict")
 |dT {a:Addr} {kvs:List (List Key×V)} (e:H a=some (.dT kvs)):zrS K H (.ref a) (.type "dict")
 |ins {a C dx:Addr} {fs:List (Str×V)} (e:H a=some (.ins C dx fs)) (cl:Cls K C) (ha:W.findIn K (.ref C) "__class__"=some (some (.builtin "object.__class__")))
   (hn:W.specialIn K (.builtin "object.__class__") "__get__"=some (some (.builtin "getset_descriptor.__get__"))) (htk:W.takesIn K (.builtin "object.__class__")=some true)
   (hm:W.mroIn K C (.type "object")=some true):zrS K H (.ref a) (.ref C)
end
end L2
namespace L2
open PySem PySem.Spec PyProof.Rows
structure zgv(k:Nat)(A:Around):Prop where
 hd:A.handled=none
 dp:A.depth+3 * k+5<recursionLimit
 un:A.units+16 * k+200<cLine
theorem zgv.mono{j k:Nat}{A:Around}(r:zgv k A)(h:j<=k):zgv j A:=⟨r.hd,by have:=r.dp;lia,by have:=r.un;omega⟩
theorem zgv.deeper{k:Nat}{A:Around}(r:zgv (k+1) A)(env:Env):zgv k (A.deeper env) :=
 ⟨r.hd,by have:=r.dp;show A.depth+1+3 * k+5<_;lia,by have:=r.un;show A.units+3+16 * k+200<_;omega⟩
theorem zgv.in1{k:Nat}{A:Around}(r:zgv (k+1) A):zgv k A.in1 :=
 ⟨r.hd,by have:=r.dp;show A.depth+3 * k+5<_;lia,by have:=r.un;show A.units+1+16 * k+200<_;omega⟩
theorem zgv.depth{k:Nat}{A:Around}(r:zgv k A):A.depth<recursionLimit:=by have:=r.dp;lia
theorem zgv.units{k:Nat}{A:Around}(r:zgv k A):A.units+64<cLine:=by have:=r.un;lia
def tNil:TA:=λ_ H Q=>Q [] H
def zyK(ta:TE)(tr:TA):TA:=λY H Q=>ta Y H λx H1=>tr Y H1 λxs H2=>Q (x::xs) H2
section
variable{X:Cx}{e:Expr}{es:List Expr}{te:TE}{t:TA}{pos:Pos}
theorem zeW:PA X [] tNil:=λ_ _ _ _ H Q I h=>Calls.spliced_nil ⟨[],H,I,.nil,h⟩
theorem zbY(ha:PE X e te)(hr:PA X es t)(hs:starEach (e::es) X.env=(false,eval e X.env)::starEach es X.env:=by rfl):PA X (e::es) (zyK te t):=by intro pos pS s Y H Q I h;rw[hs];show wpAny _ _ (spliced ((false,eval e X.env)::backTo pos (starEach es X.env))) _ _ s;refine Calls.spliced_cons (thn (ha pS s Y H _ I h) λu s1 ⟨x,H1,I1,r1,q1⟩=>?_);exact thn (hr pos pS s1 Y H1 _ I1 q1) λus s2 ⟨xs,H2,I2,r2,q2⟩=>⟨x::xs,H2,I2,.cons r1 r2,q2⟩
def tTup(t:TA):TE:=λY H Q=>t Y H λxs H1=>xs.length<=sizeLine/\∀ p,H1 p=none->Q (.ref p) (upd H1 p (.tup xs))
def tLst(t:TA):TE:=λY H Q=>t Y H λxs H1=>xs.length<=sizeLine/\∀ p,H1 p=none->Q (.ref p) (upd H1 p (.lst xs))
theorem zxz{x1}(h:PA X es t):PE X (.Tuple es x1 pos) (tTup t):=by intro pS s Y H Q I hq;refine wpAny_Tuple_spliced (thn (h pos pS s Y H _ I hq) λus s1 ⟨xs,H1,I1,r,z,q⟩=>⟨by rw[<- r.length];exact z,?_⟩);have hf:H1 s1.heap.objs.size=none:=I1.hok.fresh (wal _);refine ⟨.ref s1.heap.objs.size,upd H1 s1.heap.objs.size (.tup xs),I1.laid (t':=s1.toks) (λb u e=>waa _ e) (wal _) ?_,rfl,q _ hf⟩;exact ⟨z,us,r,⟨_,waj _ rfl⟩⟩
theorem zyf(h:PA X es t):PE X (.List es pos) (tLst t):=by intro pS s Y H Q I hq;refine wpAny_List_spliced (thn (h pos pS s Y H _ I hq) λus s1 ⟨xs,H1,I1,r,z,q⟩=>⟨by rw[<- r.length];exact z,?_⟩);have hf:H1 s1.heap.objs.size=none:=I1.hok.fresh (wal _);refine ⟨.ref s1.heap.objs.size,upd H1 s1.heap.objs.size (.lst xs),I1.laid (t':=s1.toks) (λb u e=>waa _ e) (wal _) ?_,rfl,q _ hf⟩;exact ⟨z,us,0,r,waj _ rfl⟩
end
abbrev Sp:=List V->Hp->VK->XK->Prop
abbrev CXT:=List Env->Hp->Shared->XK->Value->Shared->Prop
structure zwC(P:Program)(w:World)(K:W.Frag)(mg:Str->Option Value)(base:Heap)(A:Around)(outer:List Env)(s:Shared)(H:Hp):Prop where
 frames:A.frames=some outer
 mod:Mod K mg base
 bs:∀ b o,base.get? b=some o->s.heap.get? b=some o/\H b=none
 bsz:base.objs.size<=s.heap.objs.size
 funs:s.heap.FunFrames base outer
 frf:∀ b∈frs outer,H b=none
 hok:HOk P w H s.heap
 bare:AllBare s.gens
def CE(outer:List Env)(P:Program)(w:World)(H:Hp)(s:Shared)(Q:VK)(u:Value)(s':Shared):Prop :=
 ∃ v H',s'.os=s.os/\AllBare s'.gens/\Un (frs outer) [] H H' s.heap s'.heap/\HOk P w H' s'.heap/\zc9 v u/\Q v H'
def CR(CX:CXT)(outer:List Env)(P:Program)(w:World)(H:Hp)(s:Shared)(Q:VK)(E:XK)(r:Result)(s':Shared):Prop :=
 match r with
 |.ok (.ret u)=>CE outer P w H s Q u s'
 |.ok _=>False
 |.error e=>CX outer H s E e s'
structure zgi(P:Program)(w:World)(K:W.Frag)(mg:Str->Option Value)(base:Heap)(CX:CXT)(k:Nat)(f:Addr)(fd:FuncData)(ps:List Str)(sp:Sp):Prop where
 len:∀ vs H Q E,sp vs H Q E->vs.length=ps.length
 run:∀(A:Around)(outer:List Env)(s:Shared)(H:Hp)(args:Args)(us:List Value)(vs:List V)(Q:VK)(E:XK),zgv k A->zwC P w K mg base A outer s H->BindsTo s fd args (ps.zip us)->zbs vs us->sp vs H Q E ->
  codeAny (model P w) A (.call (.ref f) args) (CR CX outer P w H s Q E) s
theorem zgi.mono{P:Program}{w:World}{K:W.Frag}{mg:Str->Option Value}{base:Heap}{CX:CXT}{j k:Nat}{f:Addr}{fd:FuncData}{ps:List Str}{sp:Sp}(F:zgi P w K mg base CX j f fd ps sp)(h:j<=k) :
  zgi P w K mg base CX k f fd ps sp:=⟨F.len,λA outer s H args us vs Q E hr=>F.run A outer s H args us vs Q E (hr.mono h)⟩
theorem zgi.imp{P:Program}{w:World}{K:W.Frag}{mg:Str->Option Value}{base:Heap}{CX:CXT}{k:Nat}{f:Addr}{fd:FuncData}{ps:List Str}{sp sp':Sp}(F:zgi P w K mg base CX k f fd ps sp)
  (h:∀ vs H Q E,sp' vs H Q E->sp vs H Q E):zgi P w K mg base CX k f fd ps sp' :=
 ⟨λvs H Q E q=>F.len vs H Q E (h _ _ _ _ q),λA outer s H args us vs Q E hr he hb hv hs=>F.run A outer s H args us vs Q E hr he hb hv (h _ _ _ _ hs)⟩
theorem zwC.in1{P:Program}{w:World}{K:W.Frag}{mg:Str->Option Value}{base:Heap}{A:Around}{outer:List Env}{s:Shared}{H:Hp}(e:zwC P w K mg base A outer s H) :
  zwC P w K mg base A.in1 outer s H:=⟨e.frames,e.mod,e.bs,e.bsz,e.funs,e.frf,e.hok,e.bare⟩
section
variable{X:Cx}{pS:List (Addr×Obj)}{Y:St}{H:Hp}{s s':Shared}
theorem Inv.env0(I:Inv X pS Y H s):zwC X.prog X.w X.K X.mg X.base X.A X.stack s H :=
 ⟨I.ok.frames,I.ok.mod,I.bs,waN I.ok.bsz I.sz,I.stack,I.stkFree,I.hok,I.bare⟩
theorem Inv.after{Q:VK}{u:Value}(I:Inv X pS Y H s)(h:CE X.stack X.prog X.w H s Q u s'):EP X pS Y Q u s':=by obtain ⟨v,H',os,bare,un,hok,r,q⟩:=h;obtain ⟨hh,g,d,t,os'⟩:=s';obtain rfl:os'=s.os:=os;exact ⟨v,H',I.call (h':=hh) (g':=g) (d':=d) (t':=t) (ch:=[]) un hok bare (λb z=>absurd z xws),r,q⟩
end
def zvU(sp:Sp)(dvs:List V)(E:XK)(t:TA):TE:=λY H Q=>t Y H λvs H1=>sp (vs++dvs) H1 Q E
def zly(K:W.Frag)(fd:FuncData)(ps:List Str)(ds:List Value):Prop :=
 ∀(s:Shared)(us:List Value),K.In s.heap->(us++ds).length=ps.length->BindsTo s fd ⟨us,[]⟩ (ps.zip (us++ds))
theorem zly.all{K:W.Frag}{fd:FuncData}{ps:List Str}(h:∀ us:List Value,us.length=ps.length->bindArgs fd ⟨us,[]⟩=pure (ps.zip us)):zly K fd ps []:=λs us _ hl=>by rw[List.append_nil] at hl ⊢;exact .of_eq (h us hl)
def zep(CX:CXT)(X:Cx)(E:XK):Prop:=∀(pS:List (Addr×Obj))(Y:St)(H:Hp)(s:Shared)(e:Value)(s':Shared),Inv X pS Y H s->CX X.stack H s E e s'->X.xe e s'
section
variable{X:Cx}{CX:CXT}{k:Nat}{f C:Addr}{fd:FuncData}{ps:List Str}{sp:Sp}{dvs:List V}{ds:List Value}{E:XK}{x m:Str}{p pos apos:Pos}{e o:Expr}{es:List Expr}{ta:TE}{t:TA}
theorem zuK{pS:List (Addr×Obj)}{Y:St}{H:Hp}{s:Shared}{Q:VK}{us:List Value}{vs:List V}(F:zgi X.prog X.w X.K X.mg X.base CX k f fd ps sp)(hr:zgv k X.A)(hb:zly X.K fd ps ds)(hd:zbs dvs ds)(hx:zep CX X E)
  (I:Inv X pS Y H s) (r:zbs vs us) (h:sp (vs++dvs) H Q E):wpAny (model X.prog X.w) X.A (call (.ref f) us) (EP X pS Y Q) X.xe s:=by
 have r2:zbs (vs++dvs) (us++ds):=r.append hd;have hl:(us++ds).length=ps.length:=by rw[<- r2.length];exact F.len _ _ _ _ h
 refine wpAny_call (codeAny_mono (F.run X.A X.stack s H ⟨us,[]⟩ (us++ds) (vs++dvs) Q E hr I.env0 (hb s us I.kIn hl) r2 h) λr s' hq=>?_);cases r with
 |error e=>exact hx pS Y H s e s' I hq
 |ok fl =>
  cases fl with
  |ret u=>exact I.after hq
  |next=>exact waO hq
  |brk=>exact waO hq
  |cont=>exact waO hq
theorem znV(F:zgi X.prog X.w X.K X.mg X.base CX k f fd ps sp)(hr:zgv k X.A)(hg:Gl X x)(hm:X.mg x=some (.ref f))(hk:W.keepIn X.K (.ref f)=true)(hb:zly X.K fd ps ds)(hd:zbs dvs ds)(hx:zep CX X E)
  (ha:PA X (e::es) t) (hdb:(x == ("__debug__" : Str))=false:=by decide) (he:starEach (e::es) X.env=(false,eval e X.env)::starEach es X.env:=by rfl) (hpl:(backTo pos (starEach es X.env)).any (·.1)=false:=by rfl) :
  PE X (.Call (.Name x p) (e::es) [] pos) (zvU sp dvs E t):=by
 intro pS s Y H Q I h;refine wpAny_Call_Name_kw (zse I hg hm ?_ hdb);refine W.callWith_K (h₀:=X.base) I.ok.mod.kin hk (thn (ha pos pS s Y H _ I h) λus s1 ⟨vs,H1,I1,r,q⟩=>⟨I1.kIn,?_⟩) he hpl;exact zuK F hr hb hd hx I1 r q
structure Mk(K:W.Frag)(C f:Addr):Prop where
 makes:W.makesIn K C=true
 init:W.findIn K (.ref C) "__init__"=some (some (.ref f))
 fn:W.isFn K (.ref f)=true
 kp:W.keepIn K (.ref C)=true
end
def PK(X:Cx)(kws:List Keyword)(t:TA):Prop :=
 ∀(pos:Pos)(pS:List (Addr×Obj))(s:Shared)(Y:St)(H:Hp)(Q:List V->Hp->Prop),Inv X pS Y H s->t Y H Q->wpAny (model X.prog X.w) X.A (evalAll ((backToKw pos (keywordEach kws X.env)).map (·.2))) (AP X pS Y Q) X.xe s
section
variable{X:Cx}{CX:CXT}{k:Nat}{f C:Addr}{fd:FuncData}{ps ks:List Str}{sp:Sp}{E:XK}{x m:Str}{p pos apos kpos:Pos}{e o:Expr}{es:List Expr}{kws:List Keyword}{te ta:TE}{t tk:TA}{nm:Option Str}
theorem zxU:PK X [] tNil:=λ_ _ _ _ H Q I h=>wpAny_evalAll_nil ⟨[],H,I,.nil,h⟩
theorem zwh(ha:PE X e te)(hr:PK X kws t):PK X (⟨nm,e,kpos⟩::kws) (zyK te t):=by intro pos pS s Y H Q I h;show wpAny _ _ (evalAll ((do let v <- eval e X.env;standAt pos;pure v)::(backToKw pos (keywordEach kws X.env)).map (·.2))) _ _ s;refine wpAny_evalAll_cons (wab (thn (ha pS s Y H _ I h) λu s1 ⟨x,H1,I1,r1,q1⟩=>wab (wpAny_standAt (wad ?_))));exact thn (hr pos pS s1 Y H1 _ I1 q1) λus s2 ⟨xs,H2,I2,r2,q2⟩=>⟨x::xs,H2,I2,.cons r1 r2,q2⟩
variable{g:List Value->List Value->List Value}{gV:List V->List V->List V}
end
structure za0(N P:List Str)(sc:Scope):Prop where
 kind:sc.kind=.function
 co:sc.isCoroutine=false
 gen:sc.isGenerator=false
 nd:N.Nodup
 pre:N.take P.length=P
 par:∀ x∈P,sc.names.lookup x=some .local\/sc.names.lookup x=some .cell
 nofree:∀ y∈sc.names,y.2≠.free
theorem zlG{kindOf:Str->Option NameKind}{x:Str}:∀{binds:List (Str×Value)}{m:Str->Option Value},(∀ v,(x,v)∉binds)->bindL kindOf binds m x=m x
 |[],_,_=>rfl
 | (n,v)::r,m,h=>by
  unfold bindL;rw[zlG λw hw=>h w (List.mem_cons_of_mem _ hw)];split
  ·have:x≠n:=by rintro rfl;exact h v wau
   simp[this]
  ·rfl
theorem zmo{kindOf:Str->Option NameKind}{x:Str}:∀{binds:List (Str×Value)}{m:Str->Option Value},(∀ v,(x,v)∉binds)->bindC kindOf binds m x=m x
 |[],_,_=>rfl
 | (n,v)::r,m,h=>by
  unfold bindC;rw[zmo λw hw=>h w (List.mem_cons_of_mem _ hw)];split
  ·rfl
  ·have:x≠n:=by rintro rfl;exact h v wau
   simp[this]
theorem zmp{kindOf:Str->Option NameKind}{x:Str}{v:Value}:∀{P:List Str}{vs:List Value}{i:Nat}{m:Str->Option Value},P.Nodup->P[i]? = some x->vs[i]? = some v->kindOf x=some .local ->
  bindL kindOf (P.zip vs) m x=some v
 |[],_,_,_,_,h,_,_=>by simp at h
 |_::_,[],_,_,_,_,h,_=>by simp at h
 |p::P,w::vs,0,m,nd,h1,h2,hk=>by simp at h1 h2;subst h1;subst h2;show bindL kindOf ((p,w)::P.zip vs) m p=_;unfold bindL;rw[zlG λv hv=>(List.nodup_cons.mp nd).1 (List.of_mem_zip hv).1,if_pos hk];simp
 |p::P,w::vs,i+1,m,nd,h1,h2,hk=>by show bindL kindOf ((p,w)::P.zip vs) m x=_;unfold bindL;exact zmp (i:=i) (List.nodup_cons.mp nd).2 (by simpa using h1) (by simpa using h2) hk
theorem zmm{kindOf:Str->Option NameKind}{x:Str}{v:Value}:∀{P:List Str}{vs:List Value}{i:Nat}{m:Str->Option Value},P.Nodup->P[i]? = some x->vs[i]? = some v->kindOf x≠some .local ->
  bindC kindOf (P.zip vs) m x=some v
 |[],_,_,_,_,h,_,_=>by simp at h
 |_::_,[],_,_,_,_,h,_=>by simp at h
 |p::P,w::vs,0,m,nd,h1,h2,hk=>by simp at h1 h2;subst h1;subst h2;show bindC kindOf ((p,w)::P.zip vs) m p=_;unfold bindC;rw[zmo λv hv=>(List.nodup_cons.mp nd).1 (List.of_mem_zip hv).1,if_neg hk];simp
 |p::P,w::vs,i+1,m,nd,h1,h2,hk=>by show bindC kindOf ((p,w)::P.zip vs) m x=_;unfold bindC;exact zmm (i:=i) (List.nodup_cons.mp nd).2 (by simpa using h1) (by simpa using h2) hk
def start(N:List Str)(vs:List V):St:=vs.map some++List.replicate (N.length-vs.length) none
def zrm(CX:CXT)(P:Program)(w:World)(K:W.Frag)(mg:Str->Option Value)(base:Heap)(N:List Str)(qual:Str)(scope:Scope)(f:Addr)(cd:Value)(A:Around)(outer:List Env)(s:Shared)(H:Hp)(E:XK):Cx where
 prog:=P
 w:=w
 K:=K
 mg:=mg
 base:=base
 A:=A.deeper (envOfC qual scope s.heap.objs.size f cd)
 N:=N
 s₀:=s
 H₀:=H
 env:=envOfC qual scope s.heap.objs.size f cd
 outer:=outer
 stack:=envOfC qual scope s.heap.objs.size f cd::outer
 ex:=[]
 calm:=true
 fn:=λ_=>true
 pn:=[]
 xe:=λe s'=>wpAny (model P w) (A.deeper (envOfC qual scope s.heap.objs.size f cd)) (leaving (envOfC qual scope s.heap.objs.size f cd) e) (λ_ s''=>CX outer H s E e s'') (λe' s''=>CX outer H s E e' s'') s'
theorem zpd{sc:Scope}{n:Nat}{x:Str}(h:sc.names.lookup x=some .cell):∃ c,(cellsFrom n sc.names []).lookup x=some c:=by have q:=W.cellsFrom_some sc.names n [] (.inl h);exact Option.isSome_iff_exists.mp q
theorem zsz{CX:CXT}{P:Program}{w:World}{K:W.Frag}{mg:Str->Option Value}{base:Heap}{N ps:List Str}{qual:Str}{scope:Scope}{f:Addr}{cd:Value}{A:Around}{outer:List Env}{s s1:Shared}{H:Hp}{E:XK}{us:List Value}{vs:List V}
  (S:za0 N ps scope) (hd:A.handled=none) (e0:zwC P w K mg base A outer s H) (hl:vs.length=ps.length) (r:zbs vs us)
  (x:InCallC s s.heap.objs.size (bindL (envOfC qual scope s.heap.objs.size f cd).kindOf (ps.zip us) λ_=>none) (cellsFrom (s.heap.objs.size+1) scope.names []) (bindC (envOfC qual scope s.heap.objs.size f cd).kindOf (ps.zip us) λ_=>none) s1) :
  Inv (zrm CX P w K mg base N qual scope f cd A outer s H E) [] (start N vs) H s1:=by
 have hpl:ps.length<=N.length:=by have:=congrArg List.length S.pre;rw[List.length_take] at this;lia
 obtain ⟨h1,tk,rfl,hk⟩:=x.done;have noA:∀ b:Addr,b∉(zrm CX P w K mg base N qual scope f cd A outer s H E).ex:=λb z=>absurd (show b∈([]:List Addr) from z) xws;refine ⟨⟨e0.mod,S.kind,rfl,rfl,wal _,λy z c h1 h2=>?_,λy hy=>?_,λy c _ h=>?_,λ_=>hd,Around.frames_deeper e0.frames,.inr ⟨rfl,rfl⟩,λb z=>absurd z (noA b),e0.bs,e0.bsz,λb _ _=>noA b,λb z=>absurd z (noA b),e0.funs,e0.frf⟩,
  rfl,e0.bare,Un.kept hk,⟨_,x.toInCall.ns,λi y v h1 h2 h3=>?_⟩,λy c h=>⟨_,x.cell y c h⟩,e0.hok.fresh (wal _),λy c h=>?_,λp hp=>absurd (show p∈([]:List (Addr×Obj)) from hp) xws,e0.hok.kept hk,?_⟩
 ·exact name_of_addr x.apart (PySem.mem_of_lookup h1) (PySem.mem_of_lookup h2)
 ·have hy:scope.names.lookup y=some .cell\/scope.names.lookup y=some .free:=hy;rcases hy with hy|hy
  ·exact zpd hy
  ·exact absurd rfl (S.nofree _ (PySem.mem_of_lookup hy))
 ·exact Nat.le_of_lt (x.above y c (PySem.mem_of_lookup h))
 ·have hi:i<vs.length:=by
   unfold start at h2;by_cases hi:i<vs.length
   ·exact hi
   ·rw[List.getElem?_append_right (by simpa using hi)] at h2;rw[List.getElem?_replicate] at h2;split at h2 <;> cases h2
  have ha:vs[i]? = some v:=by
   unfold start at h2;rw[List.getElem?_append_left (by simpa using hi),List.getElem?_map] at h2;cases e:vs[i]? with
   |none=>rw[e] at h2;cases h2
   |some a=>rw[e] at h2;cases h2;rfl
  obtain ⟨u,hu,rv⟩:=r.get ha;have hp:ps[i]? = some y:=by rw[<- S.pre,List.getElem?_take_of_lt xwl];exact h1
  have ndP:ps.Nodup:=by rw[<- S.pre];exact S.nd.sublist (List.take_sublist _ _)
  refine ⟨u,rv,?_⟩;rcases S.par y (waH hp) with k|k
  ·exact .inl ⟨k,zmp ndP hp hu k⟩
  ·obtain ⟨c,e⟩:=zpd (n:=s.heap.objs.size+1) k;refine .inr ⟨.inl k,c,e,?_⟩;have q:=x.cell y c e;rw[zmm ndP hp hu (by show scope.names.lookup y≠_;rw[k];decide)] at q;exact q
 ·exact e0.hok.fresh (Nat.le_of_lt (x.above y c (PySem.mem_of_lookup h)))
 ·unfold start;show _=N.length;rw[List.length_append,List.length_map,List.length_replicate];lia
theorem zxr{CX:CXT}{P:Program}{w:World}{K:W.Frag}{mg:Str->Option Value}{base:Heap}{k:Nat}{f:Addr}{name qual:Str}{params:Arguments}{body:List Stmt}{scope:Scope}{dV kV doc pm cdv ct oc:Value}{an od:Option Addr}
  {osl:Array (Option Value)} {N ps:List Str} {sp:Sp} (lk:K.lookup f=some ⟨oc,od,.func (W.fnOf name qual params body scope dV kV doc pm an cdv ct),osl⟩) (hcd:W.codeIn K cdv qual=true) (S:za0 N ps scope)
  (len:∀ vs H Q E,sp vs H Q E->vs.length=ps.length)
  (hbody:∀(A:Around)(outer:List Env)(s:Shared)(H:Hp)(vs:List V)(Q:VK)(E:XK),zgv k (A.deeper (envOfC qual scope s.heap.objs.size f cdv))->sp vs H Q E ->
   ∃ t,PSs (zrm CX P w K mg base N qual scope f cdv A outer s H E) body t/\t { nx:=λ_ H'=>Q .non H',rt:=Q } (start N vs) H) :
  zgi P w K mg base CX (k+1) f (W.fnOf name qual params body scope dV kV doc pm an cdv ct) ps sp:=by
 refine ⟨len,λA outer s H args us vs Q E hr e0 hb r hsp=>?_⟩;have hl:=len _ _ _ _ hsp;have KX:K.In s.heap:=e0.mod.kin.keeps λb o e=>(e0.bs b o e).1;have lim:s.heap.NoLimit:=e0.mod.nolimit.keeps λb o e=>(e0.bs b o e).1;have hkind:∀ y∈ps.zip us,scope.names.lookup y.1=some .local\/(scope.names.lookup y.1=some .cell/\((cellsFrom (s.heap.objs.size+1) scope.names []).lookup y.1).isSome=true):=λ⟨n,v⟩ hy=>by
  rcases S.par n (List.of_mem_zip hy).1 with q|q
  ·exact .inl q
  ·exact .inr ⟨q,W.cellsFrom_some _ _ _ (.inl q)⟩
 refine codeAny_call_function hr.depth (KX _ _ lk) rfl S.co S.gen rfl (W.codeRec_of KX hcd) (hb _ _ _ _ ?_);refine wpAny_newFunctionEnv_cells S.kind hkind λenv he s1 x=>?_;subst he;refine ⟨lim.keeps x.toInCall.keep,codeAny_func ?_⟩;obtain ⟨t,ht,hq⟩:=hbody A outer s H vs Q E (hr.deeper _) hsp;have I:Inv (zrm CX P w K mg base N qual scope f cdv A outer s H E) [] (start N vs) H s1:=zsz S hr.hd e0 hl r x;refine wpAny_mono (ht [] s1 (start N vs) H _ I hq) (λfl s' hs=>?_) λe s' hs=>hs;have fin:∀{Y':St}{H':Hp}{v:V}{u:Value},Inv (zrm CX P w K mg base N qual scope f cdv A outer s H E) [] Y' H' s'->zc9 v u->Q v H'->CE outer P w H s Q u s' :=
  λ{Y' H' v u} J rv q=>⟨v,H',J.os,J.bare,J.base,J.hok,rv,q⟩
 cases fl with
 |ret u =>
  obtain ⟨v,Y',H',J,rv,q⟩:=hs;exact fin J rv q
 |next =>
  obtain ⟨Y',H',J,q⟩:=hs;exact fin (v:=V.non) (u:=Value.none) J rfl q
 |brk =>
  obtain ⟨_,_,_,q⟩:=hs;exact waO q
 |cont =>
  obtain ⟨_,_,_,q⟩:=hs;exact waO q
end L2
namespace L2
open PySem PySem.Spec PyProof.Rows
section
variable{X:Cx}{x:Str}{p pos:Pos}{e:Expr}{es:List Expr}{t:TA}{id T:String}{r:List V->Hp->VK->Prop}
def tCB(r:List V->Hp->VK->Prop)(t:TA):TE:=λY H Q=>t Y H λvs H1=>r vs H1 Q
theorem zgD(hc:zek X (.builtin id) r)(hg:Gl X x)(hm:X.mg x=none)(hv:bootBuiltins x=some (.builtin id))(ha:PA X (e::es) t)(hn:x≠"__name__":=by decide)(hdb:(x == ("__debug__" : Str))=false:=by decide)
  (he:starEach (e::es) X.env=(false,eval e X.env)::starEach es X.env:=by rfl) (hpl:(backTo pos (starEach es X.env)).any (·.1)=false:=by rfl):PE X (.Call (.Name x p) (e::es) [] pos) (tCB r t):=by
 intro pS s Y H Q I h;refine wpAny_Call_Name_kw (zfd I hg hm hv ?_ hn hdb);exact PyProof.Rows.callWith_builtin1 (thn (ha pos pS s Y H _ I h) λus s1 ⟨vs,H1,I1,r1,q1⟩=>hc pS s1 Y H1 vs us Q I1 r1 q1) he hpl
theorem ziu(hc:zek X (.type T) r)(hg:Gl X x)(hm:X.mg x=none)(hv:bootBuiltins x=some (.type T))(ha:PA X (e::es) t)(hn:x≠"__name__":=by decide)(hdb:(x == ("__debug__" : Str))=false:=by decide)
  (he:starEach (e::es) X.env=(false,eval e X.env)::starEach es X.env:=by rfl) (hpl:(backTo pos (starEach es X.env)).any (·.1)=false:=by rfl):PE X (.Call (.Name x p) (e::es) [] pos) (tCB r t):=by
 intro pS s Y H Q I h;refine wpAny_Call_Name_kw (zfd I hg hm hv ?_ hn hdb);exact PyProof.Rows.callWith_type1 (thn (ha pos pS s Y H _ I h) λus s1 ⟨vs,H1,I1,r1,q1⟩=>hc pS s1 Y H1 vs us Q I1 r1 q1) he hpl
end
end L2
namespace HT
open PySem PyProof.Rows
section
open PySem.SeqAt
open PySem.AutoSeq1 (wpAny_loadPart')
open PySem.MeetsSeq PySem.MeetsSeq2 PySem.MeetsSeq3
end
section
variable{prog:Program}{w:World}{A:Around}{E:Value->Shared->Prop}{s:Shared}
theorem cat_tup{t b:Addr}{vs ws:List Value}{Q:Value->Shared->Prop}(ht:IsTup s.heap t vs.toArray)(hb:IsTup s.heap b ws.toArray)(hv:vs≠[])
  (h1:ws=[]->Q (.ref t) s) (h2:ws≠[]->Q (.ref s.heap.objs.size) { s with heap:=s.heap.push { cls:=.type "tuple",data:=.seq (vs++ws).toArray } })
  (hsz:vs.length+ws.length<=sizeLine):wpAny (model prog w) A (binaryOp .Add (.ref t) (.ref b)) Q E s:=by
 obtain ⟨⟨cls,dd,data,sl⟩,ho,hc,n,hd⟩:=id ht;obtain ⟨⟨cls2,dd2,data2,sl2⟩,ho2,hc2,n2,hd2⟩:=id hb;simp only at hc hd hc2 hd2;subst hc hd hc2 hd2;have e:vs.toArray++ws.toArray=(vs++ws).toArray:=by simp
 by_cases hw:ws=[]
 ·exact concat_meets ⟨_,ho,rfl⟩ ⟨_,ho2,rfl⟩ noFill_tuple_add seq_tuple_add PySem.F.slot_tuple_add PySem.F.entry_tuple_add (PySem.F.args_tuple_add_2 _ _)
   (tuple_addW1 t b vs.toArray ws.toArray n n2 dd dd2 sl sl2 (by simpa using hv) (by simp[hw])) ⟨ho,ho2,h1 hw⟩
 ·refine concat_meets ⟨_,ho,rfl⟩ ⟨_,ho2,rfl⟩ noFill_tuple_add seq_tuple_add PySem.F.slot_tuple_add PySem.F.entry_tuple_add (PySem.F.args_tuple_add_2 _ _)
   (tuple_addW2 t b vs.toArray ws.toArray n n2 dd dd2 sl sl2 (by simpa using hv) (by simpa using hw) (by rw[List.size_toArray,List.size_toArray];exact hsz)) ⟨ho,ho2,?_⟩
  rw[e];exact h2 hw
def sIx(n d:Nat):Option Int->Nat
 |none=>d
 |some v=>if v<0 then (v+(n:Int)).toNat else min v.toNat n
theorem sIx_none(n d:Nat):sIx n d none=d:=rfl
theorem sIx_nat(n d k:Nat):sIx n d (some (k:Int))=min k n:=by show (if (k:Int)<0 then ((k:Int)+(n:Int)).toNat else min (k:Int).toNat n)=min k n;rw[if_neg xwl,Int.toNat_natCast]
theorem zxH(n d:Nat)(hd:d<=n)(o:Option Int):sIx n d o<=n:=by
 cases o with
 |none=>exact hd
 |some v =>
  show (if v<0 then (v+(n:Int)).toNat else min v.toNat n)<=n;by_cases hv:v<0
  ·rw[if_pos hv];lia
  ·rw[if_neg hv];exact Nat.min_le_right _ _
theorem zsw(v:Int)(n d:Nat):(if v<0 then max (v+(n:Int)) 0 else min v (n:Int))=((sIx n d (some v):Nat):Int):=by
 show (if v<0 then max (v+(n:Int)) 0 else min v (n:Int))=(((if v<0 then (v+(n:Int)).toNat else min v.toNat n):Nat):Int)
 by_cases hv:v<0
 ·simp only[if_pos hv];lia
 ·simp only[if_neg hv];lia
theorem zpK(lo hi:Option Int)(n:Nat):Builtin.Slice.sliceAdjust lo hi 1 (n:Int)=(((sIx n 0 lo:Nat):Int),((sIx n n hi:Nat):Int)):=by
 have h1:¬ ((1:Int)<0):=by lia
 unfold Builtin.Slice.sliceAdjust;simp only[h1,if_false];refine Prod.ext ?_ ?_
 ·cases lo with
  |none=>rfl
  |some v=>exact zsw v n 0
 ·cases hi with
  |none=>rfl
  |some v=>exact zsw v n n
theorem zpJ(i j:Nat):Builtin.Slice.slicePlaces (i:Int) (j:Int) 1=j-i:=by
 unfold Builtin.Slice.slicePlaces;have h1:(1:Int) > 0:=by lia
 simp only[h1,if_true,Int.ediv_one];split <;> lia
theorem zjN{v:Value}{o:Option Int}{Q:Option Int->Shared->Prop}(p:IsPart v o)(h:Q o s):wpAny (model prog w) A (Builtin.Slice.slicePartIndex v) Q E s:=by
 cases p with
 |none=>exact slicePart_none h
 |int i t=>exact slicePart_int h
theorem sliceApplied_gen{sl:Addr}{vl vu:Value}{lo hi:Option Int}{n:Nat}{Q:Int×Int×Nat->Shared->Prop}(hs:s.heap.IsSliceOf sl vl vu .none)(pl:IsPart vl lo)(pu:IsPart vu hi)
  (h:Q (((sIx n 0 lo:Nat):Int),1,sIx n n hi-sIx n 0 lo) s):wpAny (model prog w) A (Builtin.Slice.sliceApplied (.ref sl) (pure (n:Int))) Q E s:=by
 obtain ⟨os,hos,hcs,hds⟩:=id hs;unfold Builtin.Slice.sliceApplied Builtin.Slice.sliceFields;refine wab (wab (wpAny_field hos hds (x:=vl) rfl (wab (wpAny_field hos hds (x:=vu) rfl (wab (wpAny_field hos hds (x:=.none) rfl (wad ?_)))))));refine wab (slicePart_none ?_);show wpAny _ _ (if ((1:Int) == 0)=true then _ else _) _ _ s;rw[if_neg xwd];refine wab (zjN pl (wab (zjN pu (wab (wad ?_)))));show wpAny _ _ (match Builtin.Slice.sliceAdjust lo hi 1 (n:Int) with|(lo,hi)=>pure (lo,(1:Int),Builtin.Slice.slicePlaces lo hi 1)) _ _ s;rw[zpK lo hi n];show wpAny _ _ (pure (((sIx n 0 lo:Nat):Int),(1:Int),Builtin.Slice.slicePlaces ((sIx n 0 lo:Nat):Int) ((sIx n n hi:Nat):Int) 1)) _ _ s;rw[zpJ];exact wad h
theorem ztc(xs:Array Value)(i k:Nat):((List.range k).filterMap λ(m:Nat)=>xs[((i:Int)+(m:Int) * 1).toNat]?).toArray=((xs.toList.drop i).take k).toArray:=by
 have e:(λ(m:Nat)=>xs[((i:Int)+(m:Int) * 1).toNat]?)=λm=>xs[i+m]? := by
  funext m;have:((i:Int)+(m:Int) * 1).toNat=i+m:=by lia
  rw[this]
 rw[e];have:=pick_run xs i k;rw[List.filterMap_map] at this;have e2:((λx=>xs[x]?) ∘ λx=>i+x)=λm=>xs[i+m]? := rfl;rw[e2] at this;rw[this]
theorem getItem_tuple_cut{t sl:Addr}{items:Array Value}{vl vu:Value}{lo hi:Option Int}{Q:Value->Shared->Prop}(ht:IsTup s.heap t items)(hs:s.heap.IsSliceOf sl vl vu .none)(pl:IsPart vl lo)(pu:IsPart vu hi)
  (hw:¬ (sIx items.size 0 lo=0/\sIx items.size items.size hi=items.size))
  (h:Q (.ref s.heap.objs.size) { s with heap:=s.heap.push { cls:=.type "tuple",data:=.seq ((items.toList.drop (sIx items.size 0 lo)).take (sIx items.size items.size hi-sIx items.size 0 lo)).toArray } })
  (hsz:items.size<=sizeLine):wpAny (model prog w) A (getItem (.ref t) (.ref sl)) Q E s:=by
 have htake:sizeOk (.seq ((items.toList.drop (sIx items.size 0 lo)).take (sIx items.size items.size hi-sIx items.size 0 lo)).toArray):=by show ((items.toList.drop (sIx items.size 0 lo)).take (sIx items.size items.size hi-sIx items.size 0 lo)).toArray.size<=sizeLine;rw[List.size_toArray,List.length_take,List.length_drop,Array.length_toList];lia
 have hj:sIx items.size items.size hi<=items.size:=zxH _ _ (wal _) hi;obtain ⟨os,hos,hcs,hds⟩:=id hs;have hTs:s.TypeIs (.ref sl) "slice":=⟨os,hos,hcs⟩
 unfold getItem
 try with_reducible refine wpAny_holding ?_
 first|refine wab (wad ?_)|skip
 refine wab (wpAny_sequenceKey ht.typeIs xwd ?_);refine wab (wpAny_callSpecial?_slot (name:=Str.ofString "__getitem__") ht.typeIs PyProof.Rows.slot_tuple_getitem
  (wpAny_call_entry PyProof.Rows.slot_tuple_getitem ht.typeIs entry_tuple_getitem ?_ (args_tuple_getitem _ _)))
 show wpAny _ _ (Builtin.Tuple.tupleItemsOf (.ref t) >>= _) _ _ s;refine wab (tupleItemsOf_ ht ?_);refine wab (wpAny_typeOf hTs ?_);rw[if_pos xwd];refine wab (sliceApplied_gen hs pl pu ?_);have hno:¬ ((((sIx items.size 0 lo:Nat):Int) == 0 && (1:Int) == 1 && (sIx items.size items.size hi-sIx items.size 0 lo) == items.size)=true):=by intro q;rw[Bool.and_eq_true,Bool.and_eq_true] at q;have q1:((sIx items.size 0 lo:Nat):Int)=0:=eq_of_beq q.1.1;have q2:sIx items.size items.size hi-sIx items.size 0 lo=items.size:=eq_of_beq q.2;exact hw ⟨xwl,xwo⟩
 show wpAny _ _ (if (((sIx items.size 0 lo:Nat):Int) == 0 && (1:Int) == 1 && (sIx items.size items.size hi-sIx items.size 0 lo) == items.size)=true then _ else _) _ _ s;rw[if_neg hno,ztc]
 first
  |exact wab (m:=Builtin.Tuple.tupleExact _) (wpAny_newObj_type (wad ⟨_,rfl,wad h⟩) htake)
  |exact wab (m:=Builtin.Tuple.tupleExact _) (wpAny_newObj_type (wab (wad (wad ⟨_,rfl,wad h⟩))) htake)
  |exact wab (wab (m:=Builtin.Tuple.tupleExact _) (wpAny_newObj_type (wad (wad ⟨_,rfl,wad h⟩)) htake))
  |exact wab (wab (m:=Builtin.Tuple.tupleExact _) (wpAny_newObj_type (wad ⟨_,rfl,wad h⟩) htake))
end
end HT
namespace L2
open PySem PySem.Spec PyProof.Rows
abbrev TO:=St->Hp->(Option Int->Hp->Prop)->Prop
def PO(X:Cx)(e:Option Expr)(t:TO):Prop :=
 ∀(pS:List (Addr×Obj))(s:Shared)(Y:St)(H:Hp)(Q:Option Int->Hp->Prop),Inv X pS Y H s->t Y H Q ->
  wpAny (model X.prog X.w) X.A (evalPart e X.env) (λu s'=>∃ o H',Inv X pS Y H' s'/\IsPart u o/\Q o H') X.xe s
def zwb:TO:=λ_ H Q=>Q none H
def zz1(t:TE):TO:=λY H Q=>t Y H λx H1=>∃ i,x=.int i/\Q (some i) H1
theorem intsAre_of{ns:List Int}:∀{us:List Value},zbs (ns.map V.int) us->IntsAre us ns:=by
 induction ns with
 |nil=>intro us r;rw[List.map_nil] at r;cases r;exact .nil
 |cons n ns ih =>
  intro us r;rw[List.map_cons] at r;cases r with
  |cons r1 r2 =>
   obtain ⟨t,e⟩:=r1;subst e;exact .cons n t (ih r2)
section
variable{X:Cx}{e:Expr}{te:TE}{lo hi:Option Expr}{tl th:TO}{pos p2:Pos}
theorem zwu:PO X none zwb:=by intro pS s Y H Q I h;rw[evalPart_none];exact wad ⟨none,H,I,.none,h⟩
theorem zwl(h:PE X e te):PO X (some e) (zz1 te):=by intro pS s Y H Q I hw;rw[evalPart_some];refine thn (h pS s Y H _ I hw) λu s1 ⟨x,H1,I1,r1,q1⟩=>?_;obtain ⟨i,rfl,q⟩:=q1;obtain ⟨t,rfl⟩:=r1;exact ⟨some i,H1,I1,.int i t,q⟩
def SlR(X:Cx)(r:V->Option Int->Option Int->Hp->VK->Prop):Prop :=
 ∀(pS:List (Addr×Obj))(s:Shared)(Y:St)(H:Hp)(x:V)(v vl vu:Value)(lo hi:Option Int)(sl:Addr)(Q:VK),Inv X pS Y H s->zc9 x v->s.heap.IsSliceOf sl vl vu .none->IsPart vl lo->IsPart vu hi->r x lo hi H Q ->
  ∃ T id,typeLookup (.type T) "__getitem__"=pure (some (.builtin id))/\s.TypeIs v T/\wpAny (model X.prog X.w) X.A (getItem v (.ref sl)) (EP X pS Y Q) X.xe s
theorem SlR.or{r r':V->Option Int->Option Int->Hp->VK->Prop}(h:SlR X r)(h':SlR X r'):SlR X (λx lo hi H Q=>r x lo hi H Q\/r' x lo hi H Q):=by
 intro pS s Y H x v vl vu lo hi sl Q I rx hs pl pu q;rcases q with q|q
 ·exact h pS s Y H x v vl vu lo hi sl Q I rx hs pl pu q
 ·exact h' pS s Y H x v vl vu lo hi sl Q I rx hs pl pu q
def tSl(r:V->Option Int->Option Int->Hp->VK->Prop)(te:TE)(tl th:TO):TE:=λY H Q=>te Y H λx H1=>tl Y H1 λl H2=>th Y H2 λu H3=>r x l u H3 Q
theorem zoW{r:V->Option Int->Option Int->Hp->VK->Prop}(hr:SlR X r)(he:PE X e te)(hl:PO X lo tl)(hu:PO X hi th):PE X (.Subscript e (.Slice lo hi none p2) pos) (tSl r te tl th):=by intro pS s Y H Q I h;refine Subscript_ (thn (he pS s Y H _ I h) λv s1 ⟨x,H1,I1,r1,q1⟩=>?_);refine wpAny_Slice (thn (hl pS s1 Y H1 _ I1 q1) λvl s2 ⟨l,H2,I2,pl,q2⟩=>thn (hu pS s2 Y H2 _ I2 q2) λvu s3 ⟨u,H3,I3,pu,q3⟩=>?_);rw[evalPart_none];refine wad ?_;have I4:Inv X pS Y H3 { s3 with heap:=s3.heap.push { cls:=.type "slice",data:=.fields #[vl,vu,.none] } }:=I3.kept (t':=s3.toks) λb ob q=>waa _ q;obtain ⟨T,id,hT,ht,hg⟩:=hr pS { s3 with heap:=s3.heap.push { cls:=.type "slice",data:=.fields #[vl,vu,.none] } } Y H3 x v vl vu l u s3.heap.objs.size Q I4 r1 (Heap.IsSliceOf.new ..) pl pu q3;show wpAny (model X.prog X.w) X.A (subscriptTail e (.Slice lo hi none p2) v (.ref s3.heap.objs.size)) (EP X pS Y Q) X.xe { s3 with heap:=s3.heap.push { cls:=.type "slice",data:=.fields #[vl,vu,.none] } };exact tail_any (ops:=[.ref s3.heap.objs.size,v]) ht hT hg (by with_unfolding_all rfl)
def zqi(xs:List V)(lo hi:Option Int):List V:=(xs.drop (HT.sIx xs.length 0 lo)).take (HT.sIx xs.length xs.length hi-HT.sIx xs.length 0 lo)
theorem zjl(xs:List V)(lo hi:Option Int):(zqi xs lo hi).length<=xs.length:=by unfold zqi;rw[List.length_take,List.length_drop];lia
def rSlT(K:W.Frag):V->Option Int->Option Int->Hp->VK->Prop:=λx lo hi H Q=>∃ a xs,x=.ref a/\SqT K H a xs /\
 ¬ (HT.sIx xs.length 0 lo=0/\HT.sIx xs.length xs.length hi=xs.length)/\∀ p,H p=none->Q (.ref p) (upd H p (.tup (zqi xs lo hi)))
theorem zx2:SlR X (rSlT X.K):=by
 intro pS s Y H x v vl vu lo hi sl Q I rx hs pl pu h;obtain ⟨a,xs,rfl,hx,hw,q⟩:=h;cases rx;obtain ⟨its,r,ht,hz⟩:=I.tuple hx;have hlen:its.toArray.size=xs.length:=by rw[List.size_toArray];exact r.length.symm
 refine ⟨"tuple",_,PyProof.Rows.slot_tuple_getitem.lookup,ht.typeIs,?_⟩;refine HT.getItem_tuple_cut ht hs pl pu (by rw[hlen];exact hw) ?_ (by rw[hlen];exact hz);rw[hlen];refine ⟨.ref s.heap.objs.size,_,I.laid (t':=s.toks) (o:=.tup (zqi xs lo hi)) (λb ob q=>waa _ q) (wal _) ?_,rfl,q _ (I.hok.fresh (wal _))⟩;exact ⟨waN (zjl xs lo hi) hz,_,(r.drop (HT.sIx xs.length 0 lo)).take (HT.sIx xs.length xs.length hi-HT.sIx xs.length 0 lo),_,waj _ rfl⟩
def zz7(K:W.Frag):R2:=λx y H Q=>∃ a b xs ys,x=.ref a/\y=.ref b/\SqT K H a xs/\SqT K H b ys/\xs≠[]/\xs.length+ys.length<=sizeLine /\
 (ys=[]->Q (.ref a) H)/\(ys≠[]->∀ p,H p=none->Q (.ref p) (upd H p (.tup (xs++ys))))
theorem zbs.nil_iff{xs:List V}{us:List Value}(r:zbs xs us):us=[] ↔ xs=[]:=by
 cases r with
 |nil=>simp
 |cons _ _=>simp
theorem zwr:OpR X (binaryOp .Add) (zz7 X.K):=by intro pS s Y H x y v u Q I rx ry h;obtain ⟨a,b,xs,ys,rfl,rfl,ha,hb,hx,hz,q1,q2⟩:=h;cases rx;cases ry;obtain ⟨its,r1,p1,_⟩:=I.tuple ha;obtain ⟨its2,r2,p2,_⟩:=I.tuple hb;refine HT.cat_tup p1 p2 (λz=>hx (r1.nil_iff.mp z)) (λz=>⟨.ref a,H,I,rfl,q1 (r2.nil_iff.mp z)⟩) (λz=>?_) (by rw[<- r1.length,<- r2.length];exact hz);refine ⟨.ref s.heap.objs.size,_,I.laid (t':=s.toks) (o:=.tup (xs++ys)) (λb ob q=>waa _ q) (wal _) ?_,rfl,q2 (λw=>z (r2.nil_iff.mpr w)) _ (I.hok.fresh (wal _))⟩;exact ⟨by rw[List.length_append];exact hz,_,r1.append r2,_,waj _ rfl⟩
end
end L2
namespace L2
open PySem PySem.Spec PyProof.Rows
def ixN(n:Nat)(i:Int):Option Nat:=if 0<=i then (if i<n then some i.toNat else none) else if -(n:Int)<=i then some (i+n).toNat else none
def atI{α:Type}(xs:List α)(i:Int):Option α:=(ixN xs.length i).bind λj=>xs[j]?
theorem zn0{n:Nat}{i:Int}{j:Nat}(h:ixN n i=some j):seqIndex? i n=some j/\j<n/\-(n:Int)<=i/\i<n:=by
 unfold ixN at h;by_cases h0:0<=i
 ·rw[if_pos h0] at h;by_cases h1:i<n
  ·rw[if_pos h1] at h;have e:i.toNat=j:=waA h;exact ⟨by rw[seqIndex_of h0 h1,e],xwl,xwo,h1⟩
  ·rw[if_neg h1] at h;cases h
 ·rw[if_neg h0] at h;by_cases h1:-(n:Int)<=i
  ·rw[if_pos h1] at h;have e:(i+n).toNat=j:=waA h;exact ⟨by rw[seqIndex_neg xwl h1,e],xwo,h1,xwo⟩
  ·rw[if_neg h1] at h;cases h
theorem zq2{α:Type}{xs:List α}{i:Int}{v:α}(h:atI xs i=some v):∃ j,seqIndex? i xs.length=some j/\xs[j]? = some v/\j<xs.length/\-(xs.length:Int)<=i/\i<xs.length:=by
 unfold atI at h;cases e:ixN xs.length i with
 |none=>rw[e] at h;cases h
 |some j =>
  rw[e] at h;obtain ⟨h1,h2,h3,h4⟩:=zn0 e;exact ⟨j,h1,h,h2,h3,h4⟩
theorem ziL{α:Type}{xs:List α}{j:Nat}{v:α}(h:xs[j]? = some v):atI xs (j:Int)=some v:=by
 have hj:j<xs.length:=(wam.mp h).1;have e:ixN xs.length (j:Int)=some j:=by unfold ixN;rw[if_pos xwl,if_pos xwo];simp
 unfold atI;rw[e];exact h
theorem zid{α:Type}(xs:List α)(v:α):atI (xs++[v]) (-1)=some v:=by
 have hl:(xs++[v]).length=xs.length+1:=by simp
 have e:ixN (xs++[v]).length (-1)=some xs.length:=by unfold ixN;rw[hl,if_neg xwd,if_pos xwl];congr 1;lia
 unfold atI;rw[e];show (xs++[v])[xs.length]? = some v;simp
def zlu(b:Expr):Prop:=∀ o i,subscripted b false o i=operate [o,i] (getItem o i)
def IxR(X:Cx)(r:R2):Prop :=
 ∀(value slice:Expr)(pS:List (Addr×Obj))(s:Shared)(Y:St)(H:Hp)(x y:V)(v u:Value)(Q:VK),Inv X pS Y H s->zc9 x v->zc9 y u->r x y H Q ->
  subscripted slice false v u=operate [v,u] (getItem v u)->wpAny (model X.prog X.w) X.A (subscriptTail value slice v u) (EP X pS Y Q) X.xe s
def MtR(X:Cx)(id:String)(r:V->List V->Hp->VK->Prop):Prop :=
 ∀(pS:List (Addr×Obj))(s:Shared)(Y:St)(H:Hp)(x:V)(xs:List V)(v:Value)(us:List Value)(Q:VK),Inv X pS Y H s->zc9 x v->zbs xs us->r x xs H Q ->
  wpAny (model X.prog X.w) X.A (call (.builtin id) (v::us)) (EP X pS Y Q) X.xe s
section
variable{X:Cx}{a b:Expr}{ta tb:TE}{pos:Pos}
theorem IxR.or{r r':R2}(h:IxR X r)(h':IxR X r'):IxR X (λx y H Q=>r x y H Q\/r' x y H Q):=by
 intro value slice pS s Y H x y v u Q I rx ry q hs;rcases q with q|q
 ·exact h value slice pS s Y H x y v u Q I rx ry q hs
 ·exact h' value slice pS s Y H x y v u Q I rx ry q hs
theorem MtR.or{id:String}{r r':V->List V->Hp->VK->Prop}(h:MtR X id r)(h':MtR X id r'):MtR X id (λx xs H Q=>r x xs H Q\/r' x xs H Q):=by
 intro pS s Y H x xs v us Q I rx rs q;rcases q with q|q
 ·exact h pS s Y H x xs v us Q I rx rs q
 ·exact h' pS s Y H x xs v us Q I rx rs q
theorem zwe{r:R2}(hr:IxR X r)(ha:PE X a ta)(hb:PE X b tb)(hs:zlu b):PE X (.Subscript a b pos) (tOp r ta tb):=by intro pS s Y H Q I h;exact Subscript_ (zzH ha hb I h λv u s2 x y H2 I2 rx ry q=>hr a b pS s2 Y H2 x y v u Q I2 rx ry q (hs _ _))
def rIxL(K:W.Frag):R2:=λx y H Q=>∃ p xs i v,x=.ref p/\y=.int i/\SqL K H p xs/\atI xs i=some v/\Q v H
def rIxT(K:W.Frag):R2:=λx y H Q=>∃ p xs i v,x=.ref p/\y=.int i/\SqT K H p xs/\atI xs i=some v/\Q v H
theorem zog:IxR X (rIxL X.K):=by
 intro value slice pS s Y H x y v u Q I rx ry h hs;obtain ⟨p,xs,i,z,rfl,rfl,hq,he,q⟩:=h;cases rx;obtain ⟨t,rfl⟩:=ry;obtain ⟨its,r,pl,hz⟩:=I.list hq;obtain ⟨j,h1,h2,h3,h4,h5⟩:=zq2 he;obtain ⟨w,ew,rw'⟩:=r.get h2;have hl:=r.length;have hn:=zmg;have fin:EP X pS Y Q w s:=⟨z,H,I,rw',q⟩
 by_cases h0:0<=i
 ·have hj:i.toNat=j:=by rw[seqIndex_of h0 h5] at h1;exact waA h1
  exact item_listR pl.isList h0 xwl (by rw[hj];simpa using ew) fin hs
 ·have hj:(i+(its.toArray.size:Int)).toNat=j:=by rw[seqIndex_neg xwl h4] at h1;rw[List.size_toArray,<- hl];exact waA h1
  exact subscriptTail_builtinR (x:=w) pl.isList.typeIs slot_list_getitem.lookup
   (wpAny_getItem_list_neg (Q:=λr s'=>r=w/\EP X pS Y Q r s') pl.isList xwl (by rw[List.size_toArray] <;> omega) xwo (by rw[hj];simpa using ew) ⟨rfl,fin⟩) hs
theorem zxx:IxR X (rIxT X.K):=by
 intro value slice pS s Y H x y v u Q I rx ry h hs;obtain ⟨p,xs,i,z,rfl,rfl,hq,he,q⟩:=h;cases rx;obtain ⟨t,rfl⟩:=ry;obtain ⟨its,r,pl,hz⟩:=I.tuple hq;obtain ⟨j,h1,h2,h3,h4,h5⟩:=zq2 he;obtain ⟨w,ew,rw'⟩:=r.get h2;have hl:=r.length;have hn:=zmg;have fin:EP X pS Y Q w s:=⟨z,H,I,rw',q⟩
 exact subscriptTail_builtinR (x:=w) pl.typeIs slot_tuple_getitem.lookup
  (getItem_tuple (j:=j) (Q:=λr s'=>r=w/\EP X pS Y Q r s') pl xwl xwo (by rw[List.size_toArray,<- hl];exact h1) (by simpa using ew) ⟨rfl,fin⟩) hs
theorem zpF(its:List Value)(n j:Nat)(u:Value):Obj.mapSeq (·.setIfInBounds j u) { cls:=.type "list",data:=.seq its.toArray n }={ cls:=.type "list",data:=.seq (its.set j u).toArray n }:=by simp[Obj.mapSeq]
theorem Inv.lst{pS:List (Addr×Obj)}{Y:St}{H:Hp}{s:Shared}{p:Addr}{xs:List V}(I:Inv X pS Y H s)(h:H p=some (.lst xs)) :
  ∃(its:List Value)(n:Nat),zbs xs its/\s.heap.get? p=some { cls:=.type "list",data:=.seq its.toArray n }/\xs.length<=sizeLine:=by
 obtain ⟨z,its,n,r,e⟩:=I.hok p _ h;exact ⟨its,n,r,e,z⟩
theorem Inv.lstUpd{pS:List (Addr×Obj)}{Y:St}{H:Hp}{s:Shared}{p:Addr}{xs ys:List V}{its its':List Value}{n n':Nat}{f:Obj->Obj}(I:Inv X pS Y H s)(h:H p=some (.lst xs))
  (ho:s.heap.get? p=some { cls:=.type "list",data:=.seq its.toArray n }) (hf:f { cls:=.type "list",data:=.seq its.toArray n }={ cls:=.type "list",data:=.seq its'.toArray n' }) (r:zbs ys its') (hz:ys.length<=sizeLine) (t:Nat) :
  Inv X pS Y (upd H p (.lst ys)) { s with heap:=s.heap.update p f,toks:=t }:=by
 have e:(s.heap.update p f).get? p=some { cls:=.type "list",data:=.seq its'.toArray n' }:=by rw[Heap.get?_update_self f ho (by rw[hf] <;> rfl),hf]
 refine I.write (x:=p) (e:=p) (by rw[h];trivial) (.inl rfl) (λb u hb q=>(Heap.get?_update_other _ _ (Ne.symm hb)).trans q) ⟨_,e⟩ ?_;exact ⟨hz,its',n',r,e⟩
def zzd:V->V->V->Hp->(Hp->Prop)->Prop:=λo i v H Q=>∃ p xs k j,o=.ref p/\i=.int k/\H p=some (.lst xs)/\ixN xs.length k=some j/\Q (upd H p (.lst (xs.set j v)))
theorem zsV:PSet X zzd:=by
 intro pS s Y H o i v ov iv u Q I ro ri rv h;obtain ⟨p,xs,k,j,rfl,rfl,hp,hj,q⟩:=h;cases ro;obtain ⟨t,rfl⟩:=ri;obtain ⟨its,n,r,ho,hz⟩:=I.lst hp;obtain ⟨h1,h2,h3,h4⟩:=zn0 hj;have hl:=r.length;have hn:=zmg;have I':Inv X pS Y (upd H p (.lst (xs.set j v))) { s with heap:=s.heap.update p (Obj.mapSeq (·.setIfInBounds j u)) } :=
  I.lstUpd hp ho (zpF its n j u) (r.set rv j) (by rw[List.length_set];exact hz) s.toks
 by_cases h0:0<=k
 ·have hk:k.toNat=j:=by rw[seqIndex_of h0 h4] at h1;exact waA h1
  exact W.ki_setAt ho h0 xwl (by rw[List.size_toArray,<- hl];exact h4) (by rw[hk];exact ⟨_,I',q⟩)
 ·have hk:(k+(its.toArray.size:Int)).toNat=j:=by rw[seqIndex_neg xwl h3] at h1;rw[List.size_toArray,<- hl];exact waA h1
  exact W.ki_setBack ho xwl (by rw[List.size_toArray,<- hl];exact h3) xwo (by rw[hk];exact ⟨_,I',q⟩)
theorem zlN(lo hi:Option Int)(n:Nat):(sliceBounds lo hi none n).1=((HT.sIx n 0 lo:Nat):Int)/\(sliceBounds lo hi none n).2.1=((HT.sIx n n hi:Nat):Int)/\(sliceBounds lo hi none n).2.2=1:=by
 refine ⟨?_,?_,rfl⟩
 ·cases lo with
  |none=>simp[sliceBounds,HT.sIx]
  |some i =>
   simp only[sliceBounds,HT.sIx,Option.getD_none,show (1:Int) > 0 by decide,if_true];by_cases h:i<0
   ·simp only[h,if_true] <;> lia
   ·simp only[h,if_false] <;> lia
 ·cases hi with
  |none=>simp[sliceBounds,HT.sIx]
  |some i =>
   simp only[sliceBounds,HT.sIx,Option.getD_none,show (1:Int) > 0 by decide,if_true];by_cases h:i<0
   ·simp only[h,if_true] <;> lia
   ·simp only[h,if_false] <;> lia
theorem zk8(its:List Value)(lo hi:Option Int):slicePick its.toArray lo hi none=((its.drop (HT.sIx its.length 0 lo)).take (HT.sIx its.length its.length hi-HT.sIx its.length 0 lo)).toArray:=by obtain ⟨h1,h2,h3⟩:=zlN lo hi its.toArray.size;unfold slicePick;rw[h1,h2,h3];simp only[sliceRange_one,pick_run,waf] <;> rfl
def rSlL(K:W.Frag):V->Option Int->Option Int->Hp->VK->Prop:=λx lo hi H Q=>∃ a xs,x=.ref a/\SqL K H a xs/\∀ p,H p=none->Q (.ref p) (upd H p (.lst (zqi xs lo hi)))
theorem zvZ:SlR X (rSlL X.K):=by intro pS s Y H x v vl vu lo hi sl Q I rx hs pl pu h;obtain ⟨a,xs,rfl,hx,q⟩:=h;cases rx;obtain ⟨its,r,ht,hz⟩:=I.list hx;have hlen:=r.length;refine ⟨"list",_,slot_list_getitem.lookup,ht.isList.typeIs,?_⟩;refine wpAny_getItem_list_slice ht.isList hs pl pu .none xws ?_ (by rw[List.size_toArray] <;> lia);rw[zk8,<- hlen];refine ⟨.ref s.heap.objs.size,_,I.laid (t':=s.toks) (o:=.lst (zqi xs lo hi)) (λb ob q=>waa _ q) (wal _) ?_,rfl,q _ (I.hok.fresh (wal _))⟩;exact ⟨waN (zjl xs lo hi) hz,_,0,(r.drop (HT.sIx xs.length 0 lo)).take (HT.sIx xs.length xs.length hi-HT.sIx xs.length 0 lo),waj _ rfl⟩
theorem zfq:zek X (.builtin "len") (λxs H Q=>∃ p ys,xs=[.ref p]/\(SqL X.K H p ys\/SqT X.K H p ys)/\Q (.int ys.length) H):=by
 intro pS s Y H xs us Q I r h;obtain ⟨p,ys,rfl,hq,q⟩:=h;obtain ⟨u,rfl,rx⟩:=zgF r;cases rx;have hn:=zmg;rcases hq with hq|hq
 ·obtain ⟨its,r',pl,hz⟩:=I.list hq;have hlen:=r'.length;exact Calls.call_len_list pl.isList (by simp only[waf] <;> lia) ⟨.int ys.length,H,I.tok _,⟨s.toks+1,by rw[List.size_toArray,hlen]⟩,q⟩
 ·obtain ⟨its,r',pl,hz⟩:=I.tuple hq;have hlen:=r'.length;exact len_tuple pl (by simp only[waf] <;> lia) ⟨.int ys.length,H,I.tok _,⟨s.toks+1,by rw[List.size_toArray,hlen]⟩,q⟩
theorem zhC:zek X (.builtin "len") (λxs H Q=>∃ z,xs=[.str z]/\z.length<=sizeLine/\Q (.int z.length) H):=by intro pS s Y H xs us Q I r h;obtain ⟨z,rfl,hz,q⟩:=h;obtain ⟨u,rfl,t,rfl⟩:=zgF r;have hn:=zmg;exact len_str xwl ⟨.int z.length,H,I.tok _,⟨_,rfl⟩,q⟩
theorem zek.or{f:Value}{r r':List V->Hp->VK->Prop}(h:zek X f r)(h':zek X f r'):zek X f (λxs H Q=>r xs H Q\/r' xs H Q):=by
 intro pS s Y H xs us Q I rs q;rcases q with q|q
 ·exact h pS s Y H xs us Q I rs q
 ·exact h' pS s Y H xs us Q I rs q
theorem zlU:zek X (.type "list") (λxs H Q=>∃ p ys,xs=[.ref p]/\(SqL X.K H p ys\/SqT X.K H p ys)/\∀ l,H l=none->Q (.ref l) (upd H l (.lst ys))):=by
 intro pS s Y H xs us Q I r h;obtain ⟨p,ys,rfl,hq,q⟩:=h;obtain ⟨u,rfl,rx⟩:=zgF r;cases rx;have fin:∀(its:List Value),zbs ys its->ys.length<=sizeLine->∀(h':Heap)(c':Nat),(∀ b o',s.heap.get? b=some o'->h'.get? b=some o') ->
   h'.get? s.heap.objs.size=some { cls:=.type "list",dict:=none,data:=.seq its.toArray c',slots:=#[] }->EP X pS Y Q (.ref s.heap.objs.size) { s with heap:=h' }:=λits r' hz h' c' kp e =>
  ⟨.ref s.heap.objs.size,_,I.laid (t':=s.toks) kp (wal _) (show zeN X.prog X.w _ h' _ (.lst ys) from ⟨hz,its,c',r',e⟩),rfl,q _ (I.hok.fresh (wal _))⟩
 rcases hq with hq|hq
 ·obtain ⟨its,r',pl,hz⟩:=I.list hq;have hlen:=r'.length;obtain ⟨o,ho,hc,n,hd⟩:=pl.isList;exact call_list_seq p (.inl rfl) ho hc hd (λh' c' kp e=>fin its r' hz h' c' kp e) (by simp only[waf] <;> lia)
 ·obtain ⟨its,r',pl,hz⟩:=I.tuple hq;have hlen:=r'.length;obtain ⟨o,ho,hc,n,hd⟩:=pl;exact call_list_seq p (.inr rfl) ho hc hd (λh' c' kp e=>fin its r' hz h' c' kp e) (by simp only[waf] <;> lia)
theorem zkQ:zek X (.type "tuple") (λxs H Q=>∃ p ys,xs=[.ref p]/\((SqL X.K H p ys/\∀ l,H l=none->Q (.ref l) (upd H l (.tup ys)))\/(SqT X.K H p ys/\Q (.ref p) H))):=by
 intro pS s Y H xs us Q I r h;obtain ⟨p,ys,rfl,h⟩:=h;obtain ⟨u,rfl,rx⟩:=zgF r;cases rx;rcases h with ⟨hq,q⟩|⟨hq,q⟩
 ·obtain ⟨its,r',pl,hz⟩:=I.list hq;have hlen:=r'.length;refine call_tuple_list pl.isList (λh' kp=>?_) (by simp only[waf] <;> lia);have I1:Inv X pS Y H { s with heap:=h' }:=I.kept (t':=s.toks) kp;have I2:Inv X pS Y (upd H h'.objs.size (.tup ys)) { s with heap:=h'.push { cls:=.type "tuple",data:=.seq its.toArray } } :=
   I1.laid (t':=s.toks) (λb o e=>waa _ e) (wal _) (show zeN X.prog X.w _ _ _ (.tup ys) from ⟨hz,its,r',_,waj _ rfl⟩)
  exact ⟨.ref h'.objs.size,_,I2,rfl,q _ (I1.hok.fresh (wal _))⟩
 ·obtain ⟨its,r',pl,hz⟩:=I.tuple hq;exact call_tuple_same pl ⟨.ref p,H,I,rfl,q⟩
def tyV(K:W.Frag)(T:String)(x:V)(H:Hp):Prop:=match x with
 |.str _=>T="str"
 |.int _=>T="int"
 |.ref p=>(T="list"/\∃ xs,SqL K H p xs)\/(T="tuple"/\∃ o,K.lookup p=some o/\o.cls=.type "tuple"/\o.dict=none) \/
   (T="dict"/\((∃ kvs,H p=some (.dK kvs))\/∃ kvs,H p=some (.dT kvs)))\/(T="set"/\∃ S n,H p=some (.set S n))
 |_=>False
theorem zya{pS:List (Addr×Obj)}{Y:St}{H:Hp}{s:Shared}{T:String}{x:V}{v:Value}(I:Inv X pS Y H s)(r:zc9 x v)(ty:tyV X.K T x H) :
  s.TypeIs v T/\∀ a,v=.ref a->∃ ob,s.heap.get? a=some ob/\ob.dict=none:=by
 cases x with
 |str z =>
  obtain ⟨t,rfl⟩:=r;cases (show T="str" from ty);exact ⟨typeIs_str s z t,λ_ e=>nomatch e⟩
 |int i =>
  obtain ⟨t,rfl⟩:=r;cases (show T="int" from ty);exact ⟨typeIs_int s i t,λ_ e=>nomatch e⟩
 |ref p =>
  cases r;rcases ty with ⟨rfl,xs,hq⟩|⟨rfl,o,hk,hc,hd⟩|⟨rfl,hk⟩|⟨rfl,S,n,hk⟩
  ·obtain ⟨its,_,pl,_⟩:=I.list hq;refine ⟨pl.isList.typeIs,λa e=>?_⟩;cases e;obtain ⟨o,n,e,c,hd,_⟩:=pl;exact ⟨o,e,hd⟩
  ·refine ⟨⟨o,I.kIn p o hk,hc⟩,λa e=>?_⟩;cases e;exact ⟨o,I.kIn _ o hk,hd⟩
  ·have z:∃ o,s.heap.get? p=some o/\o.ExactDict:=by
    rcases hk with ⟨kvs,hk⟩|⟨kvs,hk⟩
    ·obtain ⟨_,_,_,_,o,_,_,e,ex,_⟩:=I.hok p _ hk;exact ⟨o,e,ex⟩
    ·obtain ⟨_,_,_,_,o,_,_,e,ex,_⟩:=I.hok p _ hk;exact ⟨o,e,ex⟩
   obtain ⟨o,e,ex⟩:=z;refine ⟨⟨o,e,ex.1⟩,λa e2=>?_⟩;cases e2;exact ⟨o,e,ex.2.1⟩
  ·obtain ⟨o,_,_,_,e,ex,_⟩:=I.hok p _ hk;refine ⟨⟨o,e,ex.1⟩,λa e2=>?_⟩;cases e2;exact ⟨o,e,ex.2.1⟩
 |_=>exact waO ty
def tBM(K:W.Frag)(T:String)(r:V->List V->Hp->VK->Prop)(to:TE)(t:TA):TE:=λY H Q=>to Y H λx H1=>tyV K T x H1/\t Y H1 λxs H2=>r x xs H2 Q
variable{o e:Expr}{es:List Expr}{to:TE}{t:TA}{name:Str}{apos cpos:Pos}{T id:String}{r:V->List V->Hp->VK->Prop}
theorem zq0(pa:PlainAttrs T)(slot:Slot T name id)(hty:typeOf (.builtin id)=pure (.type "method_descriptor"))(hm:MtR X id r)(ho:PE X o to)(ha:PA X (e::es) t)
  (hbase:attributeBase o name X.env (eval o X.env)=eval o X.env:=by rfl)
  (hfew:((backTo cpos (starEach (e::es) X.env)).all (λx=>!x.1) && (backToKw cpos (keywordEach [] X.env)).all (λx=>x.1.isSome)
   && decide ((e::es).length+([]:List Keyword).length+(if ([]:List Keyword).isEmpty then 0 else 1)<30))=true:=by rfl)
  (hline:(apos.endLine == cpos.line)=true:=by rfl) (hs:starEach (e::es) X.env=(false,eval e X.env)::starEach es X.env:=by rfl) (hplain:(backTo cpos (starEach es X.env)).any (·.1)=false:=by rfl) :
  PE X (.Call (.Attribute o name apos) (e::es) [] cpos) (tBM X.K T r to t):=by
 intro pS s Y H Q I h;refine wpAny_Call_method_late hbase hfew hline rfl (thn (ho pS s Y H _ I h) λv s1 ⟨x,H1,I1,r1,ty,q1⟩=>?_);obtain ⟨h1,h2⟩:=zya I1 r1 ty;refine ⟨T,id,pa,slot,hty,h1,h2,?_⟩;have hA:=ha cpos pS s1 Y H1 _ I1 q1;rw[hs] at hA ⊢;refine Calls.callWith_builtin (by show (false || (backTo cpos (starEach es X.env)).any (·.1))=false;rw[hplain] <;> rfl) (Calls.evalArgs_plain ?_);exact thn hA λus s2 ⟨vs,H2,I2,r2,q2⟩=>hm pS s2 Y H2 x vs v us Q I2 r1 r2 q2
end
end L2
namespace L2
open PySem PySem.Spec PyProof.Rows
def MtM(X:Cx)(id:String)(r:V->List V->Hp->VK->Prop):Prop :=
 ∀(pS:List (Addr×Obj))(s:Shared)(Y:St)(H:Hp)(x:V)(xs:List V)(v:Value)(us:List Value)(Q:VK),Inv X pS Y H s->zc9 x v->zbs xs us->r x xs H Q ->
  wpAny (model X.prog X.w) X.A (call (.builtin id) (v::us)) (EP X pS Y Q) X.xe s
theorem zbs.one:∀{x:V}{us:List Value},zbs [x] us->∃ u,us=[u]/\zc9 x u
 |_,_,.cons r .nil=>⟨_,rfl,r⟩
theorem zbs.two:∀{x y:V}{us:List Value},zbs [x,y] us->∃ u v,us=[u,v]/\zc9 x u/\zc9 y v
 |_,_,_,.cons r (.cons q .nil)=>⟨_,_,rfl,r,q⟩
theorem zbs.dropLast{xs:List V}{us:List Value}(h:zbs xs us):zbs xs.dropLast us.dropLast:=by
 induction h with
 |nil=>exact .nil
 |cons r t ih =>
  cases t with
  |nil=>exact .nil
  |cons q t'=>exact .cons r ih
theorem zbs.eraseIdx:∀{xs:List V}{us:List Value}(i:Nat),zbs xs us->zbs (xs.eraseIdx i) (us.eraseIdx i)
 |_,_,_,.nil=>.nil
 |_,_,0,.cons _ t=>t
 |_,_,i+1,.cons r t=>.cons r (zbs.eraseIdx i t)
theorem zbs.reverse{xs:List V}{us:List Value}(h:zbs xs us):zbs xs.reverse us.reverse:=by
 induction h with
 |nil=>exact .nil
 |cons r t ih=>rw[List.reverse_cons,List.reverse_cons];exact zbs.append ih (.cons r .nil)
theorem zbs.rep{xs:List V}{us:List Value}(h:zbs xs us):∀ k:Nat,zbs (List.replicate k xs).flatten (List.replicate k us).flatten
 |0=>.nil
 |k+1=>by rw[List.replicate_succ,List.replicate_succ,List.flatten_cons,List.flatten_cons];exact zbs.append h (zbs.rep h k)
theorem zlW{α:Type}:∀(l:List α)(i:Nat),(l.eraseIdx i).length<=l.length
 |[],_=>wal _
 |_::_,0=>Nat.le_succ _
 |_::r,i+1=>Nat.succ_le_succ (zlW r i)
theorem zm0(its:List Value):∀(k:Nat)(acc:List Value),
  List.foldl (λx1 x2=>x1++x2) acc.toArray (List.replicate k its.toArray)=(acc++(List.replicate k its).flatten).toArray
 |0,acc=>by simp
 |k+1,acc=>by
  have e:acc.toArray++its.toArray=(acc++its).toArray:=by simp
  have e2:(acc++its)++(List.replicate k its).flatten=acc++(List.replicate (k+1) its).flatten:=by rw[List.replicate_succ,List.flatten_cons,List.append_assoc]
  rw[<- e2,<- zm0 its k (acc++its),<- e,List.replicate_succ,List.foldl_cons]
section
variable{X:Cx}{pS:List (Addr×Obj)}{Y:St}{H:Hp}{s:Shared}{l b:Addr}{xs ys zs:List V}
theorem Inv.lset{its its':List Value}{n:Nat}{f:Array Value->Array Value}{t':Nat}(I:Inv X pS Y H s)(hH:H l=some (.lst xs))
  (e:s.heap.get? l=some { cls:=.type "list",data:=.seq its.toArray n }) (hf:f its.toArray=its'.toArray) (hv:zbs ys its') (hz:ys.length<=sizeLine) :
  Inv X pS Y (upd H l (.lst ys)) { s with heap:=s.heap.update l (Obj.mapSeq f),toks:=t' }:=by
 have q:=PySem.IsL.update e f;rw[hf] at q;refine I.write (x:=l) (e:=l) (by rw[hH];exact trivial) (.inl rfl) (λb' u hb hu=>(Heap.get?_update_other s.heap (Obj.mapSeq f) (Ne.symm hb)).trans hu) ⟨_,q⟩ ?_;exact ⟨hz,its',_,hv,q⟩
theorem Inv.lnew{its:List Value}{t':Nat}(I:Inv X pS Y H s)(hv:zbs ys its)(hz:ys.length<=sizeLine) :
  Inv X pS Y (upd H s.heap.objs.size (.lst ys)) { s with heap:=s.heap.push { cls:=.type "list",data:=.seq its.toArray },toks:=t' } :=
 I.laid (λ_ _ q=>waa _ q) (wal _) ⟨hz,its,0,hv,waj _ rfl⟩
theorem Inv.fresh(I:Inv X pS Y H s):H s.heap.objs.size=none:=I.hok.fresh (wal _)
theorem Inv.lstM(I:Inv X pS Y H s)(hH:H l=some (.lst xs)):xs.length<=sizeLine/\∃(its:List Value)(n:Nat),zbs xs its/\xs.length=its.length/\s.heap.get? l=some { cls:=.type "list",data:=.seq its.toArray n }:=by obtain ⟨z,its,n,r,e⟩:=I.hok l _ hH;exact ⟨z,its,n,r,r.length,e⟩
theorem zkR{n:Nat}(h:n<=sizeLine):Builtin.List.listTooLong n=false:=by unfold Builtin.List.listTooLong;exact waw xwl
end
section
variable{X:Cx}
def zvY:V->List V->Hp->VK->Prop:=λx vs H Q=>∃ l xs y,x=.ref l/\vs=[y]/\H l=some (.lst xs)/\xs.length<sizeLine/\Q .non (upd H l (.lst (xs++[y])))
theorem zjh:MtM X "list.append" zvY:=by intro pS s Y H x vs v us Q I rx rv h;obtain ⟨l,xs,y,rfl,rfl,hH,hz,q⟩:=h;cases rx;obtain ⟨u,rfl,ru⟩:=rv.one;obtain ⟨z,its,n,r,hl,e⟩:=I.lstM hH;refine call_meets F.slot_list_append ⟨_,e,rfl⟩ F.entry_list_append (F.args_list_append_2 _ _) (PySem.list_append l its.toArray n u (by rw[List.size_toArray];lia)) ⟨e,?_⟩;refine ⟨.non,_,I.lset (its':=its++[u]) hH e xws (r.append (.cons ru .nil)) ?_,rfl,q⟩;rw[List.length_append,List.length_singleton];lia
def zvo:V->List V->Hp->VK->Prop:=λx vs H Q=>∃ l b xs zs,x=.ref l/\vs=[.ref b]/\H l=some (.lst xs)/\H b=some (.lst zs)/\xs.length+zs.length<=sizeLine/\Q .non (upd H l (.lst (xs++zs)))
theorem zr7:MtM X "list.extend" zvo:=by
 intro pS s Y H x vs v us Q I rx rv h;obtain ⟨l,b,xs,zs,rfl,rfl,hH,hB,hz,q⟩:=h;cases rx;obtain ⟨u,rfl,ru⟩:=rv.one;cases ru;obtain ⟨z,its,n,r,hl,e⟩:=I.lstM hH;obtain ⟨z2,its2,n2,r2,hl2,e2⟩:=I.lstM hB;have hsz:its.toArray.size+its2.toArray.size<=sizeLine:=by rw[List.size_toArray,List.size_toArray];lia
 have hlong:¬ (!its.toArray.isEmpty && Builtin.List.listTooLong (its.toArray.size+its2.toArray.size))=true:=by rw[zkR hsz,Bool.and_false];exact Bool.false_ne_true
 refine call_meets F.slot_list_extend ⟨_,e,rfl⟩ F.entry_list_extend (F.args_list_extend_2 _ _)
  (AutoSeq1.list_extend_list_list_0 l its.toArray n b its2.toArray n2 hlong (by rw[List.size_toArray];lia) xwo) ⟨e,e2,?_⟩
 refine ⟨.non,_,I.lset (its':=its++its2) hH e xws (r.append r2) ?_,rfl,q⟩;rw[List.length_append];lia
def zyp:V->List V->Hp->VK->Prop:=λx vs H Q=>∃ l xs i k y,x=.ref l/\vs=[.int i]/\H l=some (.lst xs)/\-(2 ^ 63)<=i/\i<2 ^ 63/\seqIndex? i xs.length=some k/\xs[k]? = some y/\Q y (upd H l (.lst (xs.eraseIdx k)))
theorem zsT:MtM X "list.pop" zyp:=by
 intro pS s Y H x vs v us Q I rx rv h;obtain ⟨l,xs,i,k,y,rfl,rfl,hH,h1,h2,hk,hy,q⟩:=h;cases rx;obtain ⟨u,rfl,ru⟩:=rv.one;obtain ⟨t,rfl⟩:=ru;obtain ⟨z,its,n,r,hl,e⟩:=I.lstM hH;obtain ⟨w,hw,rw'⟩:=r.get hy;refine call_meets F.slot_list_pop ⟨_,e,rfl⟩ F.entry_list_pop (F.args_list_pop_2 _ _)
  (MeetsSeq.list_pop_at l its.toArray n i t k w (fitsIndex_both h1 h2) (by rw[List.size_toArray,<- hl];exact hk) (by rw[<- Array.getElem?_toList];exact hw) (by rw[List.size_toArray];lia)) ⟨e,?_⟩
 refine ⟨y,_,I.lset (its':=its.eraseIdx k) hH e ?_ (r.eraseIdx k) ?_,rw',q⟩
 ·show its.toArray.eraseIdxIfInBounds k=(its.eraseIdx k).toArray;rw[List.eraseIdxIfInBounds_toArray]
 ·have:=zlW xs k;lia
def rCat:R2:=λx y H Q=>∃ l b xs zs,x=.ref l/\y=.ref b/\H l=some (.lst xs)/\H b=some (.lst zs)/\xs.length+zs.length<=sizeLine/\∀ p,H p=none->Q (.ref p) (upd H p (.lst (xs++zs)))
theorem zx3:OpR X (binaryOp .Add) rCat:=by
 intro pS s Y H x y v u Q I rx ry h;obtain ⟨l,b,xs,zs,rfl,rfl,hH,hB,hz,q⟩:=h;cases rx;cases ry;obtain ⟨z,its,n,r,hl,e⟩:=I.lstM hH;obtain ⟨z2,its2,n2,r2,hl2,e2⟩:=I.lstM hB;refine PySem.P.add_list e e2 ?_ (by rw[List.size_toArray,List.size_toArray];lia);have ea:its.toArray++its2.toArray=(its++its2).toArray:=by simp
 rw[ea];exact ⟨.ref _,_,I.lnew (t':=s.toks) (r.append r2) (by rw[List.length_append];lia),rfl,q _ I.fresh⟩
def rRep:R2:=λx y H Q=>∃ l k xs,x=.ref l/\y=.int k/\H l=some (.lst xs)/\-(2 ^ 63)<=k/\k<2 ^ 63/\xs.length * k.toNat<=sizeLine /\
 ∀ p,H p=none->Q (.ref p) (upd H p (.lst (List.replicate k.toNat xs).flatten))
theorem zwx{α:Type}(xs:List α)(k:Nat):(List.replicate k xs).flatten.length=k * xs.length:=by
 induction k with
 |zero=>simp
 |succ k ih=>rw[List.replicate_succ,List.flatten_cons,List.length_append,ih,Nat.succ_mul,Nat.add_comm]
theorem zxX:OpR X (binaryOp .Mult) rRep:=by
 intro pS s Y H x y v u Q I rx ry h;obtain ⟨l,k,xs,rfl,rfl,hH,h1,h2,hz,q⟩:=h;cases rx;obtain ⟨t,rfl⟩:=ry;obtain ⟨z,its,n,r,hl,e⟩:=I.lstM hH;have hlen:its.toArray.size * k.toNat<=sizeLine:=by rw[List.size_toArray,<- hl];exact hz
 have hcap:¬ its.toArray.size * k.toNat > (2 ^ 63-1) / 8:=by
  have:(sizeLine:Nat)<=(2 ^ 63-1) / 8:=by decide
  lia
 have hfit:¬ (!Builtin.List.listFitsIndex k)=true:=by rw[fitsIndex_both h1 h2];exact Bool.false_ne_true
 have hlong:¬ Builtin.List.listTooLong (its.toArray.size * k.toNat)=true:=by rw[zkR hlen];exact Bool.false_ne_true
 have hnew:List.foldl (λx1 x2=>x1++x2) #[] (List.replicate (if its.toArray.isEmpty=true then 0 else k.toNat) its.toArray)=(List.replicate k.toNat its).flatten.toArray:=by
  have f0:∀ m:Nat,List.foldl (λx1 x2=>x1++x2) #[] (List.replicate m its.toArray)=(List.replicate m its).flatten.toArray:=λm=>by have:=zm0 its m [];rw[List.nil_append] at this;exact this
  rw[f0];cases its with
  |nil=>simp
  |cons a r'=>rw[if_neg xws]
 refine wpAny_binaryOp_repeat_ref (T:="list") (U:="int") xwd ⟨_,e,rfl⟩ (λs'=>typeIs_int s' k t) noFill_list_mul F.fills_int_mul F.slot_int_rmul repeat_list F.slot_int_index.lookup
  (call_meets F.slot_int_rmul (typeIs_int s k t) F.entry_int_rmul (F.args_int_rmul_2 _ _) (int___rmul___int_list k t l its.toArray n)
   ⟨e,rfl,⟨_,e,rfl⟩,call_meets F.slot_list_mul ⟨_,e,rfl⟩ F.entry_list_mul (F.args_list_mul_2 _ _) (AutoListH.list___mul___list_int_3 l its.toArray n k t hfit hcap hlong) ⟨e,?_⟩⟩)
 rw[hnew];exact ⟨.ref _,_,I.lnew (t':=s.toks) (r.rep k.toNat) (by rw[zwx,Nat.mul_comm];exact hz),rfl,q _ I.fresh⟩
end
section
variable{prog:Program}{w:World}{A:Around}{E:Value->Shared->Prop}{s:Shared}
set_option maxRecDepth 100000 in
end
section
variable{X:Cx}
end
end L2
namespace Att
open PySem PySem.W PySem.Calls PyProof.Rows
theorem ziR{P:Params}{h:Heap}:∀(ns:List Int)(vs:List Value),WellAll P h vs (ns.map WData.int)->IntsAre vs ns:=by
 intro ns
 induction ns with
 |nil =>
  intro vs w;rw[List.map_nil] at w;cases w;exact .nil
 |cons n ns ih =>
  intro vs w;rw[List.map_cons] at w;cases w with
  |cons a b =>
   cases a;exact .cons _ _ (ih _ b)
theorem zrv{l:OpenLaw}{n:Nat}(hn:l.most=some n){P:Params}{h:Heap}{args:List WData}{vals:List Value}
  (hpre:l.row.toRowW.claim.pre args=true) (hwl:WellAll P h vals args) :
  ∃ a vs ns,vals=[Value.ref a]/\args=[WData.list (ns.map WData.int)]/\h.get? a=some { cls:=.type "list",data:=.seq vs.toArray }/\IntsAre vs ns/\ns.length<=n:=by
 have hsh:WShape.hasAll [] args [.list .int]=true:=(pre_splitW hpre).1;have hc:l.pre.holds [] { args:=args }=true:=(pre_splitW hpre).2;obtain ⟨d,r,rfl,h1,h2⟩:=hasAllW_cons hsh;obtain rfl:=hasAllW_nil h2;obtain ⟨xs,rfl,h3⟩:=hasW_list h1;obtain ⟨ns,rfl⟩:=items_int h3;have hlen:ns.length<=n:=by
  unfold OpenLaw.pre at hc;have h4:(WTm.not (.lt (.lit (.int (n:Int))) (.len (.arg 0)))).holds [] { args:=[.list (ns.map .int)] }=true:=by have h4:=(holds_andW hc).1;rw[hn] at h4;exact h4
  have h5:=condW_of h4 (w_not (w_lt w_lit (w_len_list (w_arg rfl))));rw[List.length_map] at h5;refine Nat.le_of_not_lt λq=>?_;have q':(n:Int)<((ns.length:Nat):Int):=by lia
  first
   | (rw[decide_eq_true q'] at h5;exact absurd h5 xwd)
   | (simp at h5;lia)
 cases hwl with
 |cons w1 w2 =>
  cases w2;cases w1 with
  |list ho hall=>exact ⟨_,_,ns,rfl,rfl,ho,ziR ns _ hall,hlen⟩
theorem zrN(l:OpenLaw)(args:List WData):l.row.toRowW.claim.post args (.bool true) args=true :=
 postW_of (r:=l.row.toRowW) (X:=(true == true))
  (show WShape.has [] (.bool true) .bool=true by first|rfl|decide|simp[WShape.has,WShape.arms,WShape.armsAll])
  (show (WTm.eq .res (.lit (.bool true))).value [] { args:=args,res:=some (.bool true),after:=args }=some (.bool (true == true)) from w_eq_bool (w_res rfl) w_lit) rfl
theorem attach_call{l:OpenLaw}{n:Nat}{q:Program}{loose:List Str}{XP:(Str->Option Value)->Heap->Prop}{YP:World->Heap->Prop}{d:DefRec}
  (hn:l.most=some n) (hdf:d.params.defaults=[])
  (call:∀(w:World)(s₀ s₁:Shared)(mg mb:Str->Option Value)(fa:Addr)(o:Obj)(pm cd doc:Value)(a:Addr)(vs:List Value)(ns:List Int),
   Ground q loose [] XP w s₀ mg mb s₁.heap->YP w s₁.heap ->
   s₁.heap.get? fa=some o->o.data=.func (docDef d.name d.params d.body d.scope pm cd doc)->s₁.heap.CodeRec cd d.name->mg d.name=some (.ref fa) ->
   s₁.heap.get? a=some { cls:=.type "list",data:=.seq vs.toArray }->IntsAre vs ns->ns.length<=n->s₁.gens=#[] ->
   codeAny (model l.prog w) callerA (.call (.ref fa) ⟨[.ref a],[]⟩) (λr s'=>r=.ok (.ret (.bool true))/\OldK s₁.heap s'.heap/\s'.os=s₁.os/\AllBare s'.gens) s₁) :
  WalkO q loose XP YP l.row.toRowW d [] (λf vs=>PySem.call f vs):=by
 intro w s₀ s₁ mg mb G Yq fa o pm cd doc dV kV ho hd hcd hD hmg hg args vals as hpre hlay hrd hwl hlo;obtain rfl:dV=.none:=Dflts.none hD hdf;obtain rfl:kV=.none:=Dflts.noKw hD;obtain ⟨a,vs,ns,rfl,rfl,hobj,hints,hlen⟩:=zrv hn hpre hwl;refine enter_call (codeAny_mono (call w s₀ s₁ mg mb fa o pm cd doc a vs ns G Yq ho (fd_plain hd) hcd hmg hobj hints hlen hg) λr s' hq=>?_);obtain ⟨rfl,h2,h3,h4⟩:=hq;exact ⟨.inl ⟨.bool true,.bool true,[],rfl,λ_=>rfl,.bool true,zrN l _,λ_=>⟨List.Pairwise.nil,λ_ hm=>(nomatch hm)⟩⟩,h2,h3,h4⟩
section
variable{prog:Program}{w:World}{A:Around}{E:Value->Shared->Prop}{s:Shared}{K:Frag}
end
end Att
namespace L2
open PySem PySem.Spec PyProof.Rows
theorem vals_ints:∀{vs:List Value}{ns:List Int},IntsAre vs ns->zbs (ns.map V.int) vs
 |_,_,.nil=>.nil
 |_,_,.cons n t h=>.cons ⟨t,rfl⟩ (vals_ints h)
def zzA(H:Hp):Prop:=∀ b,H b=none\/∃ o xs,H b=some (.frz o (.lst xs))
theorem ztZ{P:Program}{w:World}{K:W.Frag}{mg mb:Str->Option Value}{CX:CXT}{k:Nat}{fa a:Addr}{fd:FuncData}{x:Str}{sp:Sp}{s₁:Shared}{vs:List Value}{ns:List Int}
  (KX:K.In s₁.heap) (hns:s₁.heap.Ns mainGlobals mg) (hb:s₁.heap.Ns builtinsNs mb) (hbb:∀ x:Str,x≠"__name__"->mb x=bootBuiltins x) (hlim:s₁.heap.NoLimit) (hg:s₁.gens=#[])
  (ha:s₁.heap.get? a=some { cls:=.type "list",data:=.seq vs.toArray }) (hi:IntsAre vs ns) (hl:ns.length<=sizeLine) (hr:zgv k callerA)
  (F:∀ base:Heap,K.In base->base.Ns mainGlobals mg->zgi P w K mg base CX k fa fd [x] sp) (hbind:∀(s:Shared)(u:Value),BindsTo s fd ⟨[u],[]⟩ [(x,u)])
  (hsp:∀ H:Hp,zzA H->SqL K H a (ns.map V.int)->sp [.ref a] H (λv _=>v=.bl true) λ_ _ _=>False)
  (hCX:∀ H e s',CX [] H s₁ (λ_ _ _=>False) e s'->False) :
  codeAny (model P w) callerA (.call (.ref fa) ⟨[.ref a],[]⟩) (λr s'=>r=.ok (.ret (.bool true))/\OldK s₁.heap s'.heap/\s'.os=s₁.os/\AllBare s'.gens) s₁:=by
 have rv:=vals_ints hi;have lenV:=hi.length;have core:∀ H:Hp,zzA H->SqL K H a (ns.map V.int)->HOk P w H s₁.heap->(∀ b,H b≠none->b=a)->(H a≠none->K.lookup a=none) ->
   codeAny (model P w) callerA (.call (.ref fa) ⟨[.ref a],[]⟩) (λr s'=>r=.ok (.ret (.bool true))/\OldK s₁.heap s'.heap/\s'.os=s₁.os/\AllBare s'.gens) s₁:=by
  intro H hO hS hok hA hK;have base_of:∀{b:Addr}{o:Obj},s₁.heap.get? b=some o->H b=none->(zsX s₁.heap H).get? b=some o:=λe n=>zsK e n;have noA:∀{b:Addr}{o:Obj}{es:Array DictEntry}{ep:Nat},s₁.heap.get? b=some o->o.data=.dict es ep->H b=none:=λ{b o es ep} e d=>by
   cases q:H b with
   |none=>rfl
   |some u =>
    have e':b=a:=hA b (by rw[q];simp);subst e';rw[ha] at e;cases e;have d':Data.seq vs.toArray _=Data.dict es ep:=d;cases d'
  have nsK:∀{b:Addr}{m:Str->Option Value},s₁.heap.Ns b m->(zsX s₁.heap H).Ns b m:=λ{b m} ⟨o,es,ep,e,d,r⟩=>⟨o,es,ep,base_of e (noA e d),d,r⟩
  have hKb:K.In (zsX s₁.heap H):=λb o e=>base_of (KX b o e) (by
   cases q:H b with
   |none=>rfl
   |some u =>
    have e':b=a:=hA b (by rw[q];simp);subst e';rw[hK (by rw[q];simp)] at e;cases e)
  have hM:Mod K mg (zsX s₁.heap H):=⟨hKb,nsK hns,⟨mb,nsK hb,hbb⟩,let ⟨mc,h1,h2⟩:=hlim;⟨mc,nsK h1,h2⟩⟩
  have e0:zwC P w K mg (zsX s₁.heap H) callerA [] s₁ H:=⟨rfl,hM,λb o e=>zvm e,Nat.le_of_eq (zqY _ _),trivial,λb hb=>absurd (show b∈([]:List Addr) from hb) xws,hok,.of_eq hg⟩
  refine codeAny_mono ((F _ hKb (nsK hns)).run callerA [] s₁ H ⟨[.ref a],[]⟩ [.ref a] [.ref a] _ _ hr e0 (hbind s₁ (.ref a)) (.cons rfl .nil) (hsp H hO hS)) λr s' h=>?_;cases r with
  |error e=>exact (hCX H e s' h).elim
  |ok fl =>
   cases fl with
   |next=>exact waO h
   |brk=>exact waO h
   |cont=>exact waO h
   |ret u =>
    obtain ⟨v,H',os,bare,un,hok',r',q⟩:=h;have q':v=.bl true:=q;subst q';obtain rfl:u=Value.bool true:=r';refine ⟨rfl,OldK.of_keep λb o e=>?_,os,bare⟩;cases q:H b with
    |none=>exact un.keep b o e q (by intro z;exact absurd (show b∈([]:List Addr) from z) xws) xws
    |some u =>
     rcases hO b with z|⟨ob,xs,z⟩
     ·rw[q] at z;cases z
     ·have z2:=un.frzs b ob _ z;obtain ⟨e1,_⟩:=hok b _ z;obtain ⟨e2,_⟩:=hok' b _ z2;rw[e] at e1;cases e1;exact e2
 cases hk:K.lookup a with
 |some o =>
  have e:=KX a o hk;rw[ha] at e;cases e;refine core (λ_=>none) (λ_=>.inl rfl) (.inr ⟨_,vs.toArray,_,hk,rfl,rfl,rfl,by rw[List.size_toArray,lenV];exact hl,by simpa using rv⟩) (λb u z=>by have z':(none:Option HO)=some u:=z;cases z') (λb z=>absurd rfl z) λz=>absurd rfl z
 |none =>
  refine core (λb=>if b=a then some (.frz { cls:=.type "list",data:=.seq vs.toArray } (.lst (ns.map V.int))) else none) (λb=>?_) (.inl (.inr ⟨{ cls:=.type "list",data:=.seq vs.toArray },if_pos rfl⟩)) (λb u z=>?_) (λb z=>?_) λ_=>hk
  ·by_cases hb:b=a
   ·exact .inr ⟨_,_,if_pos hb⟩
   ·exact .inl (if_neg hb)
  ·by_cases hb:b=a
   ·have z':=(if_pos hb).symm.trans z;cases z';subst hb;exact ⟨ha,by rw[List.length_map];exact hl,vs,_,rv,ha⟩
   ·have z':=(if_neg hb).symm.trans z;cases z'
  ·by_cases hb:b=a
   ·exact hb
   ·exact absurd (if_neg hb) z
end L2
namespace L2
open PySem PySem.Spec PyProof.Rows
theorem walk_of{l:W.OpenLaw}{n k:Nat}{q:Program}{loose:List Str}{XP:(Str->Option Value)->Heap->Prop}{YP:World->Heap->Prop}{d:DefRec}{K:Params->W.Frag}{CX:World->CXT}{sp:World->Sp}{x:Str}
  (hn:l.most=some n) (hn2:n<=sizeLine) (hdf:d.params.defaults=[]) (hr:zgv k callerA)
  (hY:∀(w:World)(h:Heap),YP w h->(K w.params).In h)
  (F:∀(w:World)(mg:Str->Option Value)(fa:Addr)(h:Heap),(K w.params).In h->h.Ns mainGlobals mg->mg d.name=some (.ref fa) ->
   ∃ fd:FuncData,(∀(s:Shared)(u:Value),BindsTo s fd ⟨[u],[]⟩ [(x,u)]) /\
    ∀ base:Heap,(K w.params).In base->base.Ns mainGlobals mg->zgi l.prog w (K w.params) mg base (CX w) k fa fd [x] (sp w))
  (hsp:∀(w:World)(H:Hp)(a:Addr)(ns:List Int),ns.length<=n->zzA H->SqL (K w.params) H a (ns.map V.int)->sp w [.ref a] H (λv _=>v=.bl true) λ_ _ _=>False)
  (hCX:∀(w:World)(H:Hp)(s:Shared)(e:Value)(s':Shared),CX w [] H s (λ_ _ _=>False) e s'->False) :
  W.WalkO q loose XP YP l.row.toRowW d [] (λf vs=>PySem.call f vs):=by
 refine Att.attach_call hn hdf λw s₀ s₁ mg mb fa o pm cd doc a vs ns G Yq ho hd hcd hmg hobj hints hlen hg=>?_;have KX:=hY w _ Yq;obtain ⟨fd,hb,hF⟩:=F w mg fa _ KX G.T.g hmg;exact ztZ KX G.T.g G.T.b G.T.builtins G.T.nolimit hg hobj hints (waN hlen hn2) hr hF hb (λH hO hS=>hsp w H a ns hlen hO hS) λH e s'=>hCX w H s₁ e s'
end L2
namespace L2
open PySem PySem.Spec PyProof.Rows
def zgs(s:Stmt):Arguments:=match s with
 |.FunctionDef _ a _ _ _ _ _ _ _ _=>a
 |_=>{ posonlyargs:=[],args:=[],vararg:=none,kwonlyargs:=[],kw_defaults:=[],kwarg:=none,defaults:=[] }
def zdA(s:Stmt):List Stmt:=match s with
 |.FunctionDef _ _ b _ _ _ _ _ _ _=>b
 |_=>[]
def zam(s:Stmt):Scope:=match s with
 |.FunctionDef _ _ _ _ _ _ sc _ _ _=>sc
 |_=>{ kind:=.function,names:=[],isGenerator:=false,isCoroutine:=false }
abbrev CX0:CXT:=λ_ _ _ _ _ _=>False
structure Fun(K:W.Frag)(x qual:Str)(st:Stmt)(f:Addr)(fd:FuncData):Prop where
 ex:∃(oc:Value)(od:Option Addr)(kV doc pm:Value)(an:Option Addr)(cdv ct:Value)(osl:Array (Option Value)),
  fd=W.fnOf x qual (zgs st) (zdA st) (zam st) .none kV doc pm an cdv ct/\K.lookup f=some ⟨oc,od,.func fd,osl⟩/\W.codeIn K cdv qual=true
 kp:W.keepIn K (.ref f)=true
section
variable{P:Program}{w:World}{K:W.Frag}{mg:Str->Option Value}{base:Heap}
theorem Fun.ok{x qual:Str}{st:Stmt}{f:Addr}{fd:FuncData}{N ps:List Str}{k:Nat}{sp:Sp}(F:Fun K x qual st f fd)(S:za0 N ps (zam st))(len:∀ vs H Q E,sp vs H Q E->vs.length=ps.length)
  (hbody:∀(cdv:Value)(A:Around)(outer:List Env)(s:Shared)(H:Hp)(vs:List V)(Q:VK)(E:XK),zgv k (A.deeper (envOfC qual (zam st) s.heap.objs.size f cdv))->sp vs H Q E ->
   ∃ t,PSs (zrm CX0 P w K mg base N qual (zam st) f cdv A outer s H E).nox (zdA st) t/\t { nx:=λ_ H'=>Q .non H',rt:=Q } (start N vs) H):zgi P w K mg base CX0 (k+1) f fd ps sp:=by
 obtain ⟨oc,od,kV,doc,pm,an,cdv,ct,osl,rfl,lk,hcd⟩:=F.ex;refine zxr lk hcd S len λA outer s H vs Q E hr hsp=>?_;obtain ⟨t,h,q⟩:=hbody cdv A outer s H vs Q E hr hsp;exact ⟨t,h.nox,q⟩
theorem Fun.binds{x qual:Str}{st:Stmt}{f:Addr}{fd:FuncData}{ps:List Str}(F:Fun K x qual st f fd)
  (h:∀(kV doc pm:Value)(an:Option Addr)(cdv ct:Value)(us:List Value),us.length=ps.length->bindArgs (W.fnOf x qual (zgs st) (zdA st) (zam st) .none kV doc pm an cdv ct) ⟨us,[]⟩=pure (ps.zip us)):zly K fd ps []:=by
 obtain ⟨oc,od,kV,doc,pm,an,cdv,ct,osl,rfl,lk,hcd⟩:=F.ex;exact .all (h kV doc pm an cdv ct)
theorem zu2{x qual:Str}{st:Stmt}{f:Addr}{oc:Value}{od an:Option Addr}{osl:Array (Option Value)}{kV doc pm cdv ct:Value}(l:K.lookup f=some ⟨oc,od,.func (W.fnOf x qual (zgs st) (zdA st) (zam st) .none kV doc pm an cdv ct),osl⟩)
  (c:W.codeIn K cdv qual=true) (k:W.keepIn K (.ref f)=true):Fun K x qual st f (W.fnOf x qual (zgs st) (zdA st) (zam st) .none kV doc pm an cdv ct):=⟨⟨oc,od,kV,doc,pm,an,cdv,ct,osl,rfl,l,c⟩,k⟩
end
section
variable{X:Cx}
end
def zea(H H':Hp):Prop:=∀ b o,H b=some o->H' b=some o
theorem zea.refl(H:Hp):zea H H:=λ_ _ h=>h
theorem zea.trans{H H1 H2:Hp}(a:zea H H1)(b:zea H1 H2):zea H H2:=λc o h=>b c o (a c o h)
theorem zea.free{H H':Hp}(e:zea H H'){l:Addr}(h:H' l=Option.none):H l=Option.none:=by
 cases q:H l with
 |none=>rfl
 |some o =>
  rw[e l o q] at h;cases h
theorem zea.seq{K:W.Frag}{H H':Hp}{a:Addr}{xs:List V}(e:zea H H')(h:SqL K H a xs):SqL K H' a xs:=by
 rcases h with (h|⟨o,h⟩)|h
 ·exact .inl (.inl (e _ _ h))
 ·exact .inl (.inr ⟨o,e _ _ h⟩)
 ·exact .inr h
end L2
end
section
namespace PV
open PySem PySem.Spec L2
inductive Dt where
 |non|bl (b:Bool)|int (i:Int)|str (x:Str)|tup (l:List Dt)|lst (l:List Dt)|dct (ks:List (Int×Int))|scr (ns:List Int)
inductive B where
 |val (d:Dt)|own (l:List Dt)|own2 (l:List (List Dt))|dic (l:List (Int×Dt))|tab (q:Str)|opq|exc (C:Addr)
abbrev Ev:=List (Option B)
inductive R(α:Type) where
 |ok (a:α)|er (n:Nat)|no
def R.bind{α β:Type}(r:R α)(f:α->R β):R β:=match r with
 |.ok a=>f a
 |.er n=>.er n
 |.no=>.no
@[simp] theorem R.bind_ok {α β:Type} (a:α) (f:α->R β):(R.ok a).bind f=f a:=rfl
@[simp] theorem R.bind_er {α β:Type} (n:Nat) (f:α->R β):(R.er n).bind f=.er n:=rfl
@[simp] theorem R.bind_no {α β:Type} (f:α->R β):(R.no).bind f=.no:=rfl
theorem R.bind_assoc{α β γ:Type}(r:R α)(f:α->R β)(g:β->R γ):(r.bind f).bind g=r.bind λa=>(f a).bind g:=by
 cases r <;> rfl
def zne(K:W.Frag)(H:Hp)(a:Addr)(xs:List V):Prop :=
 H a=some (.tup xs)\/∃(its:Array Value)(n:Nat),K.lookup a=some { cls:=.type "tuple",data:=.seq its n }/\its.size<=sizeLine/\zbs xs its.toList
theorem zne.of{K:W.Frag}{H:Hp}{a:Addr}{xs:List V}(h:H a=some (.tup xs)):zne K H a xs:=.inl h
theorem zne.sq{K:W.Frag}{H:Hp}{a:Addr}{xs:List V}(h:zne K H a xs):SqT K H a xs:=by
 rcases h with h|⟨its,n,h1,h2,h3⟩
 ·exact .inl (.inl h)
 ·exact .inr ⟨_,its,n,h1,rfl,rfl,h2,h3⟩
theorem zne.same{K:W.Frag}{H H':Hp}{a:Addr}{xs:List V}(e:zea H H')(h:zne K H a xs):zne K H' a xs:=h.elim (λz=>.inl (e _ _ z)) .inr
mutual
def Rep(K:W.Frag)(G:Hp):Dt->V->Prop
 |.non,v=>v=.non
 |.bl b,v=>v=.bl b
 |.int i,v=>v=.int i
 |.str x,v=>v=.str x
 |.tup l,v=>∃ a vs,v=.ref a/\zne K G a vs/\zaJ K G l vs
 |.lst l,v=>∃ a vs,v=.ref a/\G a=some (.lst vs)/\zaJ K G l vs
 |.dct ks,v=>∃ a,v=.ref a/\G a=some (.dK (ks.map λp=>(.inl p.1,.int p.2)))
 |.scr ns,v=>∃ a,v=.ref a/\SqL K G a (ns.map V.int)
def zaJ(K:W.Frag)(G:Hp):List Dt->List V->Prop
 |[],vs=>vs=[]
 |d::ds,vs=>∃ v r,vs=v::r/\Rep K G d v/\zaJ K G ds r
end
theorem zbi{K:W.Frag}{H H':Hp}{a:Addr}{xs:List V}(e:zea H H')(h:SqT K H a xs):SqT K H' a xs:=by
 rcases h with (h|⟨o,h⟩)|h
 ·exact .inl (.inl (e _ _ h))
 ·exact .inl (.inr ⟨o,e _ _ h⟩)
 ·exact .inr h
mutual
theorem Rep.same{K:W.Frag}{G G':Hp}(e:zea G G'):∀{d:Dt}{v:V},Rep K G d v->Rep K G' d v
 |.non,_,h=>by unfold Rep at h ⊢;exact h
 |.bl _,_,h=>by unfold Rep at h ⊢;exact h
 |.int _,_,h=>by unfold Rep at h ⊢;exact h
 |.str _,_,h=>by unfold Rep at h ⊢;exact h
 |.tup l,_,h=>by unfold Rep at h ⊢;obtain ⟨a,vs,h1,h2,h3⟩:=h;exact ⟨a,vs,h1,h2.same e,zaJ.same e h3⟩
 |.lst l,_,h=>by unfold Rep at h ⊢;obtain ⟨a,vs,h1,h2,h3⟩:=h;exact ⟨a,vs,h1,e _ _ h2,zaJ.same e h3⟩
 |.dct _,_,h=>by unfold Rep at h ⊢;obtain ⟨a,h1,h2⟩:=h;exact ⟨a,h1,e _ _ h2⟩
 |.scr ns,_,h=>by unfold Rep at h ⊢;obtain ⟨a,h1,h2⟩:=h;exact ⟨a,h1,e.seq h2⟩
theorem zaJ.same{K:W.Frag}{G G':Hp}(e:zea G G'):∀{ds:List Dt}{vs:List V},zaJ K G ds vs->zaJ K G' ds vs
 |[],_,h=>by unfold zaJ at h ⊢;exact h
 |d::ds,_,h=>by unfold zaJ at h ⊢;obtain ⟨v,r,h1,h2,h3⟩:=h;exact ⟨v,r,h1,Rep.same e h2,zaJ.same e h3⟩
end
theorem zaJ.nil{K:W.Frag}{G:Hp}:zaJ K G [] []:=by unfold zaJ;rfl
theorem zaJ.cons{K:W.Frag}{G:Hp}{d:Dt}{ds:List Dt}{v:V}{vs:List V}(h:Rep K G d v)(t:zaJ K G ds vs):zaJ K G (d::ds) (v::vs):=by unfold zaJ;exact ⟨v,vs,rfl,h,t⟩
theorem zaJ.nil_inv{K:W.Frag}{G:Hp}{vs:List V}(h:zaJ K G [] vs):vs=[]:=by unfold zaJ at h;exact h
theorem zaJ.cons_inv{K:W.Frag}{G:Hp}{d:Dt}{ds:List Dt}{vs:List V}(h:zaJ K G (d::ds) vs):∃ v r,vs=v::r/\Rep K G d v/\zaJ K G ds r:=by unfold zaJ at h;exact h
theorem zaJ.length{K:W.Frag}{G:Hp}:∀{ds:List Dt}{vs:List V},zaJ K G ds vs->ds.length=vs.length
 |[],_,h=>by rw[h.nil_inv];rfl
 |d::ds,_,h=>by obtain ⟨v,r,rfl,_,h3⟩:=h.cons_inv;simp[zaJ.length h3]
theorem zaJ.get{K:W.Frag}{G:Hp}:∀{ds:List Dt}{vs:List V}{i:Nat}{d:Dt},zaJ K G ds vs->ds[i]? = some d->∃ v,vs[i]? = some v/\Rep K G d v
 |[],_,_,_,_,e=>by simp at e
 |d::ds,_,0,_,h,e=>by obtain ⟨v,r,rfl,h2,h3⟩:=h.cons_inv;simp at e;subst e;exact ⟨v,rfl,h2⟩
 |d::ds,_,i+1,_,h,e=>by obtain ⟨v,r,rfl,h2,h3⟩:=h.cons_inv;obtain ⟨u,e1,e2⟩:=zaJ.get (i:=i) h3 (by simpa using e);exact ⟨u,by simpa using e1,e2⟩
theorem zaJ.append{K:W.Frag}{G:Hp}:∀{ds es:List Dt}{vs us:List V},zaJ K G ds vs->zaJ K G es us->zaJ K G (ds++es) (vs++us)
 |[],_,_,_,h,t=>by rw[h.nil_inv];exact t
 |d::ds,_,_,_,h,t=>by obtain ⟨v,r,rfl,h2,h3⟩:=h.cons_inv;exact zaJ.cons h2 (zaJ.append h3 t)
theorem zaJ.take{K:W.Frag}{G:Hp}:∀(n:Nat){ds:List Dt}{vs:List V},zaJ K G ds vs->zaJ K G (ds.take n) (vs.take n)
 |0,_,_,_=>by simpa using zaJ.nil
 |n+1,[],_,h=>by rw[h.nil_inv];simpa using zaJ.nil
 |n+1,d::ds,_,h=>by obtain ⟨v,r,rfl,h2,h3⟩:=h.cons_inv;exact zaJ.cons h2 (zaJ.take n h3)
theorem zaJ.drop{K:W.Frag}{G:Hp}:∀(n:Nat){ds:List Dt}{vs:List V},zaJ K G ds vs->zaJ K G (ds.drop n) (vs.drop n)
 |0,_,_,h=>h
 |n+1,[],_,h=>by rw[h.nil_inv];simpa using zaJ.nil
 |n+1,d::ds,_,h=>by obtain ⟨v,r,rfl,h2,h3⟩:=h.cons_inv;exact zaJ.drop n h3
theorem zaJ.reverse{K:W.Frag}{G:Hp}:∀{ds:List Dt}{vs:List V},zaJ K G ds vs->zaJ K G ds.reverse vs.reverse
 |[],_,h=>by rw[h.nil_inv];exact zaJ.nil
 |d::ds,_,h=>by obtain ⟨v,r,rfl,h2,h3⟩:=h.cons_inv;rw[List.reverse_cons,List.reverse_cons];exact (zaJ.reverse h3).append (zaJ.cons h2 zaJ.nil)
theorem zaJ.set{K:W.Frag}{G:Hp}{d:Dt}{v:V}(hv:Rep K G d v):∀(i:Nat){ds:List Dt}{vs:List V},zaJ K G ds vs->zaJ K G (ds.set i d) (vs.set i v)
 |_,[],_,h=>by rw[h.nil_inv];exact zaJ.nil
 |0,d'::ds,_,h=>by obtain ⟨v,r,rfl,h2,h3⟩:=h.cons_inv;exact zaJ.cons hv h3
 |i+1,d'::ds,_,h=>by obtain ⟨v,r,rfl,h2,h3⟩:=h.cons_inv;exact zaJ.cons h2 (zaJ.set hv i h3)
theorem zaJ.eraseIdx{K:W.Frag}{G:Hp}:∀(i:Nat){ds:List Dt}{vs:List V},zaJ K G ds vs->zaJ K G (ds.eraseIdx i) (vs.eraseIdx i)
 |_,[],_,h=>by rw[h.nil_inv];exact zaJ.nil
 |0,d'::ds,_,h=>by obtain ⟨v,r,rfl,h2,h3⟩:=h.cons_inv;exact h3
 |i+1,d'::ds,_,h=>by obtain ⟨v,r,rfl,h2,h3⟩:=h.cons_inv;exact zaJ.cons h2 (zaJ.eraseIdx i h3)
theorem zaJ.dropLast{K:W.Frag}{G:Hp}{ds:List Dt}{vs:List V}(h:zaJ K G ds vs):zaJ K G ds.dropLast vs.dropLast:=by rw[List.dropLast_eq_take,List.dropLast_eq_take,h.length];exact h.take _
abbrev Wn:=Addr->Option Nat
structure zbK(G H:Hp)(w:Wn)(G' H':Hp)(w':Wn):Prop where
 g:zea G G'
 fr:∀ b o,G' b=some o->G b≠none\/H b=none\/w b≠none
 h:∀ b o,H b=some o->w b=none->H' b=some o
 w:∀ b,w' b≠none->w b≠none\/H b=none
 k:∀ b,H' b=none->H b=none
theorem zbK.refl(G H:Hp)(w:Wn):zbK G H w G H w :=
 ⟨zea.refl G,λb o e=>.inl (by rw[e];simp),λ_ _ e _=>e,λ_ e=>.inl e,λ_ e=>e⟩
theorem zbK.trans{G H G1 H1 G2 H2:Hp}{w w1 w2:Wn}(a:zbK G H w G1 H1 w1)(b:zbK G1 H1 w1 G2 H2 w2):zbK G H w G2 H2 w2:=by
 have hn:=a.k;refine ⟨a.g.trans b.g,λc o e=>?_,λc o e z=>?_,λc e=>?_,λc e=>a.k c (b.k c e)⟩
 ·rcases b.fr c o e with q|q|q
  ·cases q':G1 c with
   |none=>exact absurd q' q
   |some u=>exact a.fr c u q'
  ·exact .inr (.inl (hn c q))
  ·rcases a.w c q with z|z
   ·exact .inr (.inr z)
   ·exact .inr (.inl z)
 ·have e1:=a.h c o e z;refine b.h c o e1 ?_;cases q:w1 c with
  |none=>rfl
  |some k =>
   rcases a.w c (by rw[q];simp) with r|r
   ·exact absurd z r
   ·rw[e] at r;cases r
 ·rcases b.w c e with q|q
  ·exact a.w c q
  ·exact .inr (hn c q)
structure Cn where
 G₀:Hp
 H₀:Hp
 w₀:Wn
 pp:List Nat
 σ₀:St
 ex:Nat->Prop
 xv:Nat->Value
 nw:Bool
def RtG(nw:Bool)(K:W.Frag)(H0 G H:Hp)(w:Wn)(d:Dt)(v:V):Prop:=match nw with
 |false=>Rep K G d v
 |true=>∃ l p vs,d=.lst l/\v=.ref p/\H0 p=none/\H p=some (.lst vs)/\G p=none/\w p=none/\zaJ K G l vs
def cHO(c:Addr)(q:Str):HO:=.ext λh=>h.CodeRec (.ref c) q
def xHO(l C:Addr):HO:=.ext λh=>∃ o vs,h.get? l=some o/\o.cls=.ref C/\o.data=.fields vs
def RB(K:W.Frag)(G H:Hp)(w:Wn)(i:Nat)(v:V):B->Prop
 |.val d=>Rep K G d v
 |.own ds=>∃ a vs,v=.ref a/\w a=some i/\H a=some (.lst vs)/\zaJ K G ds vs
 |.own2 dss=>∃ a as,v=.ref a/\w a=some i/\H a=some (.lst (as.map V.ref))/\(a::as).Nodup/\Paired (λb ds=>w b=some i/\∃ vs,H b=some (.lst vs)/\zaJ K G ds vs) as dss
 |.tab q=>∃ P ps,v=.ref P/\w P=some i/\H P=some (.tbl ps)/\TriplesOk ps.toList/\∀ pos cv,codeAmong pos ps.toList=some cv->∃ c,cv=.ref c/\G c=some (cHO c q)
 |.dic ds=>∃ a us,v=.ref a/\w a=some i/\H a=some (.dK us)/\Paired (λ(p:Int×Dt) (q:Key×V)=>q.1=.inl p.1/\Rep K G p.2 q.2) ds us
 |.opq=>True
 |.exc C=>∃ l,v=.ref l/\G l=some (xHO l C)
structure Rel(K:W.Frag)(C:Cn)(G:Hp)(w:Wn)(Z:Ev)(Y:St)(H:Hp):Prop where
 gh:zea G H
 wg:∀ b,w b≠none->G b=none
 wh:∀ b,w b≠none->H b≠none
 len:Z.length = Y.length
 sl:∀ i b,Z[i]? = some (some b)->∃ v,Y[i]? = some (some v)/\RB K G H w i v b
 en:zbK C.G₀ C.H₀ C.w₀ G H w
 pin:∀ i∈C.pp,Y[i]? = C.σ₀[i]?
structure zfS(G H G' H':Hp):Prop where
 g:zea G G'
 h:zea H H'
 gh:zea G' H'
 fr:∀ b o,G' b=some o->G b≠none\/H b=none
theorem zfS.refl{G H:Hp}(e:zea G H):zfS G H G H:=⟨.refl _,.refl _,e,λb o q=>.inl (by rw[q];simp)⟩
theorem zfS.trans{G H G1 H1 G2 H2:Hp}(a:zfS G H G1 H1)(b:zfS G1 H1 G2 H2):zfS G H G2 H2 :=
 ⟨a.g.trans b.g,a.h.trans b.h,b.gh,λc o e=>by
  rcases b.fr c o e with q|q
  ·cases q':G1 c with
   |none=>exact absurd q' q
   |some u=>exact a.fr c u q'
  ·exact .inr (a.h.free q)⟩
theorem zfS.step{G H G' H':Hp}{w:Wn}(a:zfS G H G' H'):zbK G H w G' H' w :=
 ⟨a.g,λb o e=>(a.fr b o e).elim .inl λz=>.inr (.inl z),λb o e _=>a.h b o e,λ_ e=>.inl e,λ_ e=>a.h.free e⟩
theorem zeu{α β:Type}{F F':α->β->Prop}(f:∀ a b,F a b->F' a b):∀{l₁:List α}{l₂:List β},Paired F l₁ l₂->Paired F' l₁ l₂
 |_,_,.nil=>.nil
 |_,_,.cons r t=>.cons (f _ _ r) (zeu f t)
theorem RB.grow{K:W.Frag}{G H G' H':Hp}{w w':Wn}{i j:Nat}{v:V}{b:B}(g:zea G G')(h:∀ a o,w a=some i->H a=some o->H' a=some o/\w' a=some j)(r:RB K G H w i v b):RB K G' H' w' j v b:=by
 cases b with
 |val d=>exact Rep.same g r
 |own ds =>
  obtain ⟨a,vs,h1,h2,h3,h4⟩:=r;obtain ⟨e1,e2⟩:=h a _ h2 h3;exact ⟨a,vs,h1,e2,e1,zaJ.same g h4⟩
 |own2 dss =>
  obtain ⟨a,as,h1,h2,h3,h4,h5⟩:=r;obtain ⟨e1,e2⟩:=h a _ h2 h3;refine ⟨a,as,h1,e2,e1,h4,zeu (λb ds ⟨q1,vs,q2,q3⟩=>?_) h5⟩;obtain ⟨e1,e2⟩:=h b _ q1 q2;exact ⟨e2,vs,e1,zaJ.same g q3⟩
 |tab q =>
  obtain ⟨P,ps,h1,h2,h3,h4,h5⟩:=r;obtain ⟨e1,e2⟩:=h P _ h2 h3;exact ⟨P,ps,h1,e2,e1,h4,λpos cv e=>let ⟨c,q1,q2⟩:=h5 pos cv e;⟨c,q1,g _ _ q2⟩⟩
 |dic ds =>
  obtain ⟨a,us,h1,h2,h3,h4⟩:=r;obtain ⟨e1,e2⟩:=h a _ h2 h3;exact ⟨a,us,h1,e2,e1,zeu (λp q z=>⟨z.1,Rep.same g z.2⟩) h4⟩
 |opq=>exact trivial
 |exc C =>
  obtain ⟨l,h1,h2⟩:=r;exact ⟨l,h1,g _ _ h2⟩
theorem Rel.grow{K:W.Frag}{C:Cn}{G H G' H':Hp}{w:Wn}{Z:Ev}{Y:St}(r:Rel K C G w Z Y H)(a:zfS G H G' H'):Rel K C G' w Z Y H':=by
 refine ⟨a.gh,λb e=>?_,λb e z=>r.wh b e (a.h.free z),r.len,λi b e=>?_,r.en.trans a.step,r.pin⟩
 ·cases q:G' b with
  |none=>rfl
  |some o =>
   rcases a.fr b o q with z|z
   ·exact absurd (r.wg b e) z
   ·exact absurd z (r.wh b e)
 ·obtain ⟨v,h1,h2⟩:=r.sl i b e;exact ⟨v,h1,h2.grow a.g λa' o e1 e2=>⟨a.h _ _ e2,e1⟩⟩
theorem zfS.new{G H:Hp}{p:Addr}{o:HO}(gh:zea G H)(hp:H p=none):zfS G H (upd G p o) (upd H p o):=by
 refine ⟨λb u e=>?_,λb u e=>?_,λb u e=>?_,λb u e=>?_⟩
 ·rw[za1 (zay (gh b u e) hp)];exact e
 ·rw[za1 (zay e hp)];exact e
 ·by_cases hb:b=p
  ·subst hb;rw[za5] at e ⊢;exact e
  ·rw[za1 hb] at e ⊢;exact gh b u e
 ·by_cases hb:b=p
  ·subst hb;exact .inr hp
  ·rw[za1 hb] at e;exact .inl (by rw[e];simp)
theorem zfS.newH{G H:Hp}{p:Addr}{o:HO}(gh:zea G H)(hp:H p=none):zfS G H G (upd H p o):=by
 refine ⟨.refl _,λb u e=>?_,λb u e=>?_,λb u e=>.inl (by rw[e];simp)⟩
 ·rw[za1 (zay e hp)];exact e
 ·rw[za1 (zay (gh b u e) hp)];exact gh b u e
def zdc{α:Type}(ex:Nat->Prop)(κ:α->Prop):R α->Prop
 |.ok a=>κ a
 |.er n=>ex n
 |.no=>False
def kE(K:W.Frag)(C:Cn)(Y:St)(Q:VK)(G H:Hp)(w:Wn)(a:Dt×Ev):Prop :=
 ∀ v G' H' w',zbK G H w G' H' w'->Rel K C G' w' a.2 Y H'->Rep K G' a.1 v->Q v H'
def kT(K:W.Frag)(C:Cn)(Y:St)(Q:Bool->Hp->Prop)(G H:Hp)(w:Wn)(a:Bool×Ev):Prop :=
 ∀ G' H' w',zbK G H w G' H' w'->Rel K C G' w' a.2 Y H'->Q a.1 H'
def kN(K:W.Frag)(C:Cn)(Y:St)(Q:VK)(G H:Hp)(w:Wn)(a:List Dt×Ev):Prop :=
 ∀ p vs G' H' w',zbK G H w G' H' w'->Rel K C G' w' a.2 Y H'->H p=none->H' p=some (.lst vs)->G' p=none->w' p=none->zaJ K G' a.1 vs->Q (.ref p) H'
inductive Fl where
 |nx|bk|ct|rt (d:Dt)
def kS(K:W.Frag)(C:Cn)(D:zum)(G H:Hp)(w:Wn)(a:Fl×Ev):Prop :=
 match a.1 with
 |.nx=>∀ Y' G' H' w',zbK G H w G' H' w'->Rel K C G' w' a.2 Y' H'->D.nx Y' H'
 |.bk=>∀ Y' G' H' w',zbK G H w G' H' w'->Rel K C G' w' a.2 Y' H'->D.bk Y' H'
 |.ct=>∀ Y' G' H' w',zbK G H w G' H' w'->Rel K C G' w' a.2 Y' H'->D.ct Y' H'
 |.rt d=>∀ v Y' G' H' w',zbK G H w G' H' w'->Rel K C G' w' a.2 Y' H'->RtG C.nw K C.H₀ G' H' w' d v->D.rt v H'
abbrev De:=Ev->R (Dt×Ev)
abbrev DT:=Ev->R (Bool×Ev)
abbrev DN:=Ev->R (List Dt×Ev)
abbrev DS:=Ev->R (Fl×Ev)
def tE(K:W.Frag)(C:Cn)(f:De):TE:=λY H Q=>∃ G w Z,Rel K C G w Z Y H/\zdc C.ex (kE K C Y Q G H w) (f Z)
def tT(K:W.Frag)(C:Cn)(f:DT):TT:=λY H Q=>∃ G w Z,Rel K C G w Z Y H/\zdc C.ex (kT K C Y Q G H w) (f Z)
def tN(K:W.Frag)(C:Cn)(f:DN):TE:=λY H Q=>∃ G w Z,Rel K C G w Z Y H/\zdc C.ex (kN K C Y Q G H w) (f Z)
def tS(K:W.Frag)(C:Cn)(f:DS):TS:=λD Y H=>∃ G w Z,Rel K C G w Z Y H/\zdc C.ex (kS K C D G H w) (f Z)
abbrev JE(X:Cx)(C:Cn)(e:Expr)(f:De):Prop:=PE X e (tE X.K C f)
abbrev JT(X:Cx)(C:Cn)(e:Expr)(f:DT):Prop:=PT X e (tT X.K C f)
abbrev JW(X:Cx)(C:Cn)(e:Expr)(f:DT):Prop:=PW X e (tT X.K C f)
abbrev JN(X:Cx)(C:Cn)(e:Expr)(f:DN):Prop:=PE X e (tN X.K C f)
abbrev JS(X:Cx)(C:Cn)(st:Stmt)(f:DS):Prop:=PS X st (tS X.K C f)
abbrev JSs(X:Cx)(C:Cn)(st:List Stmt)(f:DS):Prop:=PSs X st (tS X.K C f)
abbrev zti(α:Type):=Hp->Hp->Wn->α->Prop
def Stp{α:Type}(κ:zti α):Prop:=∀ G H w G1 H1 w1 a,zbK G H w G1 H1 w1->κ G H w a->κ G1 H1 w1 a
section
variable{K:W.Frag}{C:Cn}{Y:St}
theorem zcF{Q:VK}:Stp (λG H w=>kE K C Y Q G H w):=λ_ _ _ _ _ _ _ s k v G' H' w' s'=>k v G' H' w' (s.trans s')
theorem zp0{Q:Bool->Hp->Prop}:Stp (λG H w=>kT K C Y Q G H w):=λ_ _ _ _ _ _ _ s k G' H' w' s'=>k G' H' w' (s.trans s')
theorem zfG{Q:VK}:Stp (λG H w=>kN K C Y Q G H w):=λG H w G1 H1 w1 _ s k p vs G' H' w' s' r q1 q2 q3 q4 q5 =>
 k p vs G' H' w' (s.trans s') r (s.k p q1) q2 q3 q4 q5
theorem zfn{D:zum}:Stp (λG H w=>kS K C D G H w):=λG H w G1 H1 w1 a s k=>by
 obtain ⟨f,Z⟩:=a;cases f with
 |nx=>exact λY' G' H' w' s'=>k Y' G' H' w' (s.trans s')
 |bk=>exact λY' G' H' w' s'=>k Y' G' H' w' (s.trans s')
 |ct=>exact λY' G' H' w' s'=>k Y' G' H' w' (s.trans s')
 |rt d=>exact λv Y' G' H' w' s'=>k v Y' G' H' w' (s.trans s')
theorem zdc.step{α:Type}{ex:Nat->Prop}{κ:zti α}(st:Stp κ){G H G1 H1:Hp}{w w1:Wn}(s:zbK G H w G1 H1 w1):∀{r:R α},zdc ex (κ G H w) r->zdc ex (κ G1 H1 w1) r
 |.ok _,p=>st _ _ _ _ _ _ _ s p
 |.er _,p=>p
 |.no,p=>p
theorem zeC{α:Type}{κ:zti α}(st:Stp κ){G H:Hp}{w:Wn}{Z:Ev}{fa:De}{g:Dt×Ev->R α}{Q:VK}(r:Rel K C G w Z Y H)(p:zdc C.ex (κ G H w) ((fa Z).bind g))
  (k:∀ d Z1 v G1 H1 w1,Rel K C G1 w1 Z1 Y H1->zbK G H w G1 H1 w1->Rep K G1 d v->zdc C.ex (κ G1 H1 w1) (g (d,Z1))->Q v H1):tE K C fa Y H Q:=by
 refine ⟨G,w,Z,r,?_⟩;cases e:fa Z with
 |ok a =>
  rw[e] at p;intro v G' H' w' s' r' q;exact k a.1 a.2 v G' H' w' r' s' q (zdc.step st s' p)
 |er n=>rw[e] at p;exact p
 |no=>rw[e] at p;exact p
theorem zws{α:Type}{κ:zti α}(st:Stp κ){G H:Hp}{w:Wn}{Z:Ev}{fa:DT}{g:Bool×Ev->R α}{Q:Bool->Hp->Prop}(r:Rel K C G w Z Y H)(p:zdc C.ex (κ G H w) ((fa Z).bind g))
  (k:∀ b Z1 G1 H1 w1,Rel K C G1 w1 Z1 Y H1->zbK G H w G1 H1 w1->zdc C.ex (κ G1 H1 w1) (g (b,Z1))->Q b H1):tT K C fa Y H Q:=by
 refine ⟨G,w,Z,r,?_⟩;cases e:fa Z with
 |ok a =>
  rw[e] at p;intro G' H' w' s' r';exact k a.1 a.2 G' H' w' r' s' (zdc.step st s' p)
 |er n=>rw[e] at p;exact p
 |no=>rw[e] at p;exact p
theorem zz0{α:Type}{κ:zti α}{G H:Hp}{w:Wn}{Z:Ev}{fa:DN}{g:List Dt×Ev->R α}{Q:VK}(r:Rel K C G w Z Y H)(p:zdc C.ex (κ G H w) ((fa Z).bind g))
  (k:∀ ds Z1 a vs G1 H1 w1,Rel K C G1 w1 Z1 Y H1->zbK G H w G1 H1 w1->H a=none->H1 a=some (.lst vs)->G1 a=none->w1 a=none->zaJ K G1 ds vs->zdc C.ex (κ G H w) (g (ds,Z1))->Q (.ref a) H1):tN K C fa Y H Q:=by
 refine ⟨G,w,Z,r,?_⟩;cases e:fa Z with
 |ok a =>
  rw[e] at p;intro v vs G' H' w' s' r' q1 q2 q3 q4 q5;exact k a.1 a.2 v vs G' H' w' r' s' q1 q2 q3 q4 q5 p
 |er n=>rw[e] at p;exact p
 |no=>rw[e] at p;exact p
end
section
variable{X:Cx}
theorem _root_.L2.PE.weak{e:Expr}{t t':TE}(h:PE X e t)(k:∀ Y H Q,t' Y H Q->t Y H Q):PE X e t':=λpS s Y H Q I q=>h pS s Y H Q I (k Y H Q q)
theorem _root_.L2.PT.weak{e:Expr}{t t':TT}(h:PT X e t)(k:∀ Y H Q,t' Y H Q->t Y H Q):PT X e t':=λpS s Y H Q I q=>h pS s Y H Q I (k Y H Q q)
theorem _root_.L2.PW.weak{e:Expr}{t t':TT}(h:PW X e t)(k:∀ Y H Q,t' Y H Q->t Y H Q):PW X e t':=λwh pS s Y H Q I q=>h wh pS s Y H Q I (k Y H Q q)
theorem _root_.L2.PA.weak{e:List Expr}{t t':TA}(h:PA X e t)(k:∀ Y H Q,t' Y H Q->t Y H Q):PA X e t':=λpos pS s Y H Q I q=>h pos pS s Y H Q I (k Y H Q q)
theorem _root_.L2.PS.weak{e:Stmt}{t t':TS}(h:PS X e t)(k:∀ D Y H,t' D Y H->t D Y H):PS X e t':=λpS s Y H D I q=>h pS s Y H D I (k D Y H q)
theorem _root_.L2.PSs.weak{e:List Stmt}{t t':TS}(h:PSs X e t)(k:∀ D Y H,t' D Y H->t D Y H):PSs X e t':=λpS s Y H D I q=>h pS s Y H D I (k D Y H q)
end
section
variable{K:W.Frag}{C:Cn}{Y:L2.St}{G H:Hp}{w:Wn}{Z:Ev}{i:Nat}{v:V}
theorem Rel.freeze{d:Dt}{b0:B}(r:Rel K C G w Z Y H)(S:List Addr)(hS:∀ b∈S,w b=some i)(hi:Z[i]? = some (some b0))(hv:Y[i]? = some (some v))
  (hr:Rep K (λb=>if b∈S then H b else G b) d v) :
  Rel K C (λb=>if b∈S then H b else G b) (λb=>if b∈S then none else w b) (Z.set i (some (.val d))) Y H /\
   zbK G H w (λb=>if b∈S then H b else G b) H (λb=>if b∈S then none else w b):=by
 have gS:∀ b∈S,G b=none:=λb hb=>r.wg b (by rw[hS b hb];simp);have st:zbK G H w (λb=>if b∈S then H b else G b) H (λb=>if b∈S then none else w b):=by
  refine ⟨λb o e=>?_,λb o e=>?_,λb o e _=>e,λb e=>?_,λ_ e=>e⟩
  ·have:b∉S:=λz=>by rw[gS b z] at e;cases e
   simp[this,e]
  ·by_cases hb:b∈S
   ·exact .inr (.inr (by rw[hS b hb];simp))
   ·simp[hb] at e;exact .inl (by rw[e];simp)
  ·by_cases hb:b∈S
   ·simp[hb] at e
   ·simp[hb] at e;exact .inl e
 refine ⟨⟨λb o e=>?_,λb e=>?_,λb e=>?_,by simpa using r.len,λj b e=>?_,r.en.trans st,r.pin⟩,st⟩
 ·by_cases hb:b∈S
  ·simp[hb] at e;exact e
  ·simp[hb] at e;exact r.gh b o e
 ·by_cases hb:b∈S
  ·simp[hb] at e
  ·simp[hb] at e ⊢;exact r.wg b e
 ·by_cases hb:b∈S
  ·simp[hb] at e
  ·simp[hb] at e;exact r.wh b e
 ·by_cases hj:j=i
  ·subst hj;rw[List.getElem?_set_self (List.getElem?_eq_some_iff.mp hi).1] at e;cases e;exact ⟨v,hv,hr⟩
  ·rw[List.getElem?_set_ne (Ne.symm hj)] at e;obtain ⟨v',h1,h2⟩:=r.sl j b e;refine ⟨v',h1,h2.grow st.g λa o e1 e2=>⟨e2,?_⟩⟩;have:a∉S:=λz=>by rw[hS a z] at e1;exact hj (waA e1).symm
   simp[this,e1]
end
def zab(i:Nat):De:=λZ=>match Z[i]? with
 |some (some (.val d))=>.ok (d,Z)
 |_=>.no
def zhc(i:Nat):De:=λZ=>match Z[i]? with
 |some (some (.val d))=>.ok (d,Z)
 |some (some (.own ds))=>.ok (.lst ds,Z.set i (some (.val (.lst ds))))
 |some (some (.own2 dss))=>.ok (.lst (dss.map .lst),Z.set i (some (.val (.lst (dss.map .lst)))))
 |_=>.no
theorem zjf{K:W.Frag}{G:Hp}:∀{as:List Addr}{dss:List (List Dt)},Paired (λb ds=>∃ vs,G b=some (.lst vs)/\zaJ K G ds vs) as dss->zaJ K G (dss.map .lst) (as.map V.ref)
 |_,_,.nil=>zaJ.nil
 |a::as,ds::dss,.cons ⟨vs,h1,h2⟩ t=>zaJ.cons (by unfold Rep;exact ⟨a,vs,rfl,h1,h2⟩) (zjf t)
theorem ze4{α β:Type}{F:α->β->Prop}:∀{l₁:List α}{l₂:List β},Paired F l₁ l₂->∀ a∈l₁,∃ b,F a b
 |_,_,.cons r t,a,h=>by
  rcases wap.mp h with rfl|h
  ·exact ⟨_,r⟩
  ·exact ze4 t a h
theorem zcd{α β:Type}{F F':α->β->Prop}:∀{l₁:List α}{l₂:List β},Paired F l₁ l₂->(∀ a b,a∈l₁->F a b->F' a b)->Paired F' l₁ l₂
 |_,_,.nil,_=>.nil
 |_,_,.cons r t,f=>.cons (f _ _ wau r) (zcd t λa b h=>f a b (wah _ h))
section
variable{X:Cx}{C:Cn}
theorem zaa(i:Nat){x:Str}{pos:Pos}(hN:X.N[i]? = some x:=by rfl)(hv:Vis X.env.scope x:=by exact xwV)(hd:(x == ("__debug__" : Str))=false:=by decide)
  (hcd:(x == ("__classdict__" : Str))=false:=by decide):JE X C (.Name x pos) (zab i):=(zd9 hN hv hd hcd).weak λY H Q ⟨G,w,Z,r,p⟩=>by
 unfold zab at p;split at p
 ·rename_i d e;obtain ⟨v,h1,h2⟩:=r.sl i _ e;exact ⟨v,h1,p v G H w (.refl _ _ _) r h2⟩
 ·exact p.elim
theorem zgY(i:Nat){x:Str}{pos:Pos}(hN:X.N[i]? = some x:=by rfl)(hv:Vis X.env.scope x:=by exact xwV)(hd:(x == ("__debug__" : Str))=false:=by decide)
  (hcd:(x == ("__classdict__" : Str))=false:=by decide):JE X C (.Name x pos) (zhc i):=(zd9 hN hv hd hcd).weak λY H Q ⟨G,w,Z,r,p⟩=>by
 unfold zhc at p;split at p
 ·rename_i d e;obtain ⟨v,h1,h2⟩:=r.sl i _ e;exact ⟨v,h1,p v G H w (.refl _ _ _) r h2⟩
 ·rename_i ds e;obtain ⟨v,h1,a,vs,rfl,h2,h3,h4⟩:=r.sl i _ e;have hr:Rep X.K (λb=>if b∈[a] then H b else G b) (.lst ds) (.ref a):=by
   unfold Rep;refine ⟨a,vs,rfl,(by simp[h3]),zaJ.same (λb o e=>?_) h4⟩;have:b≠a:=λz=>by subst z;rw[r.wg b (by rw[h2];simp)] at e;cases e
   simp[this,e]
  obtain ⟨r',s'⟩:=r.freeze [a] (λb hb=>by simp at hb;subst hb;exact h2) e h1 hr;exact ⟨_,h1,p _ _ _ _ s' r' hr⟩
 ·rename_i dss e;obtain ⟨v,h1,a,as,rfl,h2,h3,h4,h5⟩:=r.sl i _ e;have hS:∀ b∈a::as,w b=some i:=λb hb=>by
   rcases wap.mp hb with rfl|hb
   ·exact h2
   ·obtain ⟨_,z,_⟩:=ze4 h5 b hb;exact z
  have sg:zea G (λb=>if b∈a::as then H b else G b):=λb o e=>by
   have:b∉a::as:=λz=>by rw[r.wg b (by rw[hS b z];simp)] at e;cases e
   simp only[this,if_false];exact e
  have hr:Rep X.K (λb=>if b∈a::as then H b else G b) (.lst (dss.map .lst)) (.ref a):=by unfold Rep;refine ⟨a,as.map V.ref,rfl,(by simp[h3]),zjf (zcd h5 λb ds hb ⟨q1,vs,q2,q3⟩=>⟨vs,?_,zaJ.same sg q3⟩)⟩;simp[hb,q2]
  obtain ⟨r',s'⟩:=r.freeze (a::as) hS e h1 hr;exact ⟨_,h1,p _ _ _ _ s' r' hr⟩
 ·exact p.elim
def dC(d:Dt):De:=λZ=>.ok (d,Z)
theorem zal{i j pos}:JE X C (.Constant (.int i) j pos) (dC (.int i)):=PE.weak zuy λY H Q ⟨G,w,Z,r,p⟩=>p _ G H w (.refl _ _ _) r (by unfold Rep;rfl)
theorem zfs{b j pos}:JE X C (.Constant (.bool b) j pos) (dC (.bl b)):=PE.weak zz4 λY H Q ⟨G,w,Z,r,p⟩=>p _ G H w (.refl _ _ _) r (by unfold Rep;rfl)
theorem zi2{j pos}:JE X C (.Constant .none j pos) (dC .non):=PE.weak zyG λY H Q ⟨G,w,Z,r,p⟩=>p _ G H w (.refl _ _ _) r (by unfold Rep;rfl)
theorem zdp{x j pos}:JE X C (.Constant (.str x) j pos) (dC (.str x)):=PE.weak zy5 λY H Q ⟨G,w,Z,r,p⟩=>p _ G H w (.refl _ _ _) r (by unfold Rep;rfl)
theorem zca{x:Str}{i:Int}{t:Tok}{pos:Pos}(hg:Gl X x)(hm:X.mg x=some (.int i t))(hd:(x == ("__debug__" : Str))=false:=by decide):JE X C (.Name x pos) (dC (.int i)) :=
 (zsk (v:=.int i) hg hm ⟨t,rfl⟩ hd).weak λY H Q ⟨G,w,Z,r,p⟩=>p _ G H w (.refl _ _ _) r (by unfold Rep;rfl)
def dOp(g:Dt->Dt->R Dt)(fa fb:De):De:=λZ=>(fa Z).bind λa=>(fb a.2).bind λb=>(g a.1 b.1).bind λz=>.ok (z,b.2)
def Op2(K:W.Frag)(r:R2)(g:Dt->Dt->R Dt):Prop:=∀(G H:Hp)(x y:V)(dx dy z:Dt)(Q:VK),zea G H->Rep K G dx x->Rep K G dy y->g dx dy=.ok z ->
 (∀ v G' H',zfS G H G' H'->Rep K G' z v->Q v H')->r x y H Q
def znk(g:Dt->Dt->R Dt):Prop:=∀ x y n,g x y≠.er n
variable{a b:Expr}{fa fb:De}{pos:Pos}
theorem zln{r:R2}{g:Dt->Dt->R Dt}{Y:L2.St}{H:Hp}{Q:VK}(h2:Op2 X.K r g)(he:znk g)(h:tE X.K C (dOp g fa fb) Y H Q):tOp r (tE X.K C fa) (tE X.K C fb) Y H Q:=by
 obtain ⟨G,w,Z,rr,p⟩:=h;refine zeC (κ:=λG H w=>kE X.K C Y Q G H w) zcF rr p λd Z1 v G1 H1 w1 r1 s1 q1 p1=>?_;refine zeC (κ:=λG H w=>kE X.K C Y Q G H w) zcF r1 p1 λd2 Z2 v2 G2 H2 w2 r2 s2 q2 p2=>?_;cases e:g d d2 with
 |ok z =>
  simp only[e,R.bind_ok] at p2;refine h2 G2 H2 v v2 d d2 z Q r2.gh (q1.same s2.g) q2 e λv3 G3 H3 gr q3=>?_;exact p2 v3 G3 H3 w2 gr.step (r2.grow gr) q3
 |er n=>exact absurd e (he _ _ _)
 |no=>simp only[e,R.bind_no] at p2;exact p2.elim
theorem znO{op:Operator}{r:R2}{g:Dt->Dt->R Dt}(ho:OpR X (binaryOp op) r)(h2:Op2 X.K r g)(he:znk g)(ha:JE X C a fa)(hb:JE X C b fb):JE X C (.BinOp a op b pos) (dOp g fa fb) :=
 (zwM ho ha hb).weak λY H Q h=>zln h2 he h
theorem zoP{op:CmpOp}{r:R2}{g:Dt->Dt->R Dt}(ho:OpR X (compareOp op) r)(h2:Op2 X.K r g)(he:znk g)(ha:JE X C a fa)(hb:JE X C b fb)(hm:behindInMarks op b=false):JE X C (.Compare a [op] [b] pos) (dOp g fa fb) :=
 (zvE ho ha hb hm).weak λY H Q h=>zln h2 he h
def dTB(f:De):DT:=λZ=>(f Z).bind λa=>match a.1 with
 |.bl b=>.ok (b,a.2)
 |_=>.no
theorem zfW{K:W.Frag}{G:Hp}{b:Bool}{v:V}(h:Rep K G (.bl b) v):v=.bl b:=by unfold Rep at h;exact h
theorem zaF{K:W.Frag}{G:Hp}{b:Int}{v:V}(h:Rep K G (.int b) v):v=.int b:=by unfold Rep at h;exact h
theorem zhy{K:W.Frag}{G:Hp}{b:Str}{v:V}(h:Rep K G (.str b) v):v=.str b:=by unfold Rep at h;exact h
theorem ziw{K:W.Frag}{G:Hp}{v:V}(h:Rep K G .non v):v=.non:=by unfold Rep at h;exact h
theorem zfR{K:W.Frag}{G:Hp}{l:List Dt}{v:V}(h:Rep K G (.tup l) v):∃ a vs,v=.ref a/\zne K G a vs/\zaJ K G l vs:=by unfold Rep at h;exact h
theorem zcr{K:W.Frag}{G:Hp}{l:List Dt}{v:V}(h:Rep K G (.tup l) v):∃ a vs,v=.ref a/\SqT K G a vs/\zaJ K G l vs:=by obtain ⟨a,vs,h1,h2,h3⟩:=zfR h;exact ⟨a,vs,h1,h2.sq,h3⟩
theorem zbg{K:W.Frag}{G:Hp}{l:List Dt}{v:V}(h:Rep K G (.lst l) v):∃ a vs,v=.ref a/\G a=some (.lst vs)/\zaJ K G l vs:=by unfold Rep at h;exact h
theorem zli{f:De}{Y:L2.St}{H:Hp}{Q:Bool->Hp->Prop}(h:tT X.K C (dTB f) Y H Q):tE X.K C f Y H λx H'=>∃ k,x=.bl k/\Q k H':=by
 obtain ⟨G,w,Z,r,p⟩:=h;refine zeC (κ:=λG H w=>kT X.K C Y Q G H w) zp0 r p λd Z1 v G1 H1 w1 r1 s1 q1 p1=>?_;cases d with
 |bl b=>exact ⟨b,zfW q1,p1 G1 H1 w1 (.refl _ _ _) r1⟩
 |_=>exact p1.elim
theorem zh2{op:CmpOp}{r:R2}{g:Dt->Dt->R Dt}(ho:OpR X (compareOp op) r)(h2:Op2 X.K r g)(he:znk g)(ha:JE X C a fa)(hb:JE X C b fb)(hm:behindInMarks op b=false):JT X C (.Compare a [op] [b] pos) (dTB (dOp g fa fb)) :=
 (zoh ho ha hb hm).weak λY H Q h=>by have h':=zli h;exact zln h2 he h'
theorem zcg{e:Expr}{f:De}(h:JE X C e f)(he:∀ whole,isTrue e X.env whole=(do let v <- whole;standAt e.pos;holding [v] (truthy v)):=by intro _;rfl):JT X C e (dTB f) :=
 (zyC h he).weak λY H Q h=>zli h
def zcp(f:DT):DT:=λZ=>(f Z).bind λa=>.ok (!a.1,a.2)
def zk5(f g:DT):DT:=λZ=>(f Z).bind λa=>if a.1=true then g a.2 else .ok (false,a.2)
def zgH(f g:DT):DT:=λZ=>(f Z).bind λa=>if a.1=true then .ok (true,a.2) else g a.2
variable{tA tB':DT}{zby:List Expr}
theorem zfi(ha:JT X C a tA):JT X C (.UnaryOp .Not a pos) (zcp tA):=(zy9 ha).weak λY H Q ⟨G,w,Z,r,p⟩ =>
 zws (κ:=λG H w=>kT X.K C Y Q G H w) zp0 r p λb Z1 G1 H1 w1 r1 s1 p1=>p1 G1 H1 w1 (.refl _ _ _) r1
theorem zr3(ha:JT X C a tA):JW X C (.BoolOp .And [a] pos) tA:=zvS ha
theorem zh8(ha:JT X C a tA):JW X C (.BoolOp .Or [a] pos) tA:=zyb ha
theorem zuo(ha:JT X C a tA)(hb:JW X C (.BoolOp .And (b::zby) pos) tB'):JW X C (.BoolOp .And (a::b::zby) pos) (zk5 tA tB'):=(zxF ha hb).weak λY H Q ⟨G,w,Z,r,p⟩=>by
 refine zws (κ:=λG H w=>kT X.K C Y Q G H w) zp0 r p λb Z1 G1 H1 w1 r1 s1 p1=>?_;cases b with
 |true=>exact ⟨G1,w1,Z1,r1,p1⟩
 |false=>exact p1 G1 H1 w1 (.refl _ _ _) r1
theorem zhM(ha:JT X C a tA)(hb:JW X C (.BoolOp .Or (b::zby) pos) tB'):JW X C (.BoolOp .Or (a::b::zby) pos) (zgH tA tB'):=(zzn ha hb).weak λY H Q ⟨G,w,Z,r,p⟩=>by
 refine zws (κ:=λG H w=>kT X.K C Y Q G H w) zp0 r p λb Z1 G1 H1 w1 r1 s1 p1=>?_;cases b with
 |true=>exact p1 G1 H1 w1 (.refl _ _ _) r1
 |false=>exact ⟨G1,w1,Z1,r1,p1⟩
theorem JW.jt{e:Expr}{f:DT}(h:JW X C e f):JT X C e f:=PW.pt h
def zql(fa fb:De):De:=λZ=>(fa Z).bind λa=>match a.1 with
 |.bl true=>fb a.2
 |.bl false=>.ok (.bl false,a.2)
 |_=>.no
def dOr(fa fb:De):De:=λZ=>(fa Z).bind λa=>match a.1 with
 |.bl true=>.ok (.bl true,a.2)
 |.bl false=>fb a.2
 |_=>.no
def zyP(fa:De):De:=λZ=>(fa Z).bind λa=>match a.1 with
 |.bl b=>.ok (.bl (!b),a.2)
 |_=>.no
theorem zjL{op}{f:De}(h:JE X C a f):JE X C (.BoolOp op [a] pos) f:=zyn h
theorem zmI(ha:JE X C a fa)(hb:JE X C (.BoolOp .And (b::zby) pos) fb):JE X C (.BoolOp .And (a::b::zby) pos) (zql fa fb):=(zy1 ha hb).weak λY H Q ⟨G,w,Z,r,p⟩=>by
 refine zeC (κ:=λG H w=>kE X.K C Y Q G H w) zcF r p λd Z1 v G1 H1 w1 r1 s1 q1 p1=>?_;cases d with
 |bl b =>
  refine ⟨b,zfW q1,?_⟩;cases b with
  |true=>exact ⟨G1,w1,Z1,r1,p1⟩
  |false=>exact p1 _ G1 H1 w1 (.refl _ _ _) r1 (by unfold Rep;rfl)
 |_=>exact p1.elim
theorem zzL(ha:JE X C a fa)(hb:JE X C (.BoolOp .Or (b::zby) pos) fb):JE X C (.BoolOp .Or (a::b::zby) pos) (dOr fa fb):=(zzw ha hb).weak λY H Q ⟨G,w,Z,r,p⟩=>by
 refine zeC (κ:=λG H w=>kE X.K C Y Q G H w) zcF r p λd Z1 v G1 H1 w1 r1 s1 q1 p1=>?_;cases d with
 |bl b =>
  refine ⟨b,zfW q1,?_⟩;cases b with
  |true=>exact p1 _ G1 H1 w1 (.refl _ _ _) r1 (by unfold Rep;rfl)
  |false=>exact ⟨G1,w1,Z1,r1,p1⟩
 |_=>exact p1.elim
theorem zqM(ha:JE X C a fa):JE X C (.UnaryOp .Not a pos) (zyP fa):=(zxy ha).weak λY H Q ⟨G,w,Z,r,p⟩=>by
 refine zeC (κ:=λG H w=>kE X.K C Y Q G H w) zcF r p λd Z1 v G1 H1 w1 r1 s1 q1 p1=>?_;cases d with
 |bl b=>exact ⟨b,zfW q1,p1 _ G1 H1 w1 (.refl _ _ _) r1 (by unfold Rep;rfl)⟩
 |_=>exact p1.elim
def zkf(t:DT)(fa fb:De):De:=λZ=>(t Z).bind λc=>if c.1=true then fa c.2 else fb c.2
theorem ziy{c:Expr}(hc:JT X C c tA)(ha:JE X C a fa)(hb:JE X C b fb):JE X C (.IfExp c a b pos) (zkf tA fa fb):=(zoV hc ha hb).weak λY H Q ⟨G,w,Z,r,p⟩=>by
 refine zws (κ:=λG H w=>kE X.K C Y Q G H w) zcF r p λb Z1 G1 H1 w1 r1 s1 p1=>?_;cases b with
 |true=>exact ⟨G1,w1,Z1,r1,p1⟩
 |false=>exact ⟨G1,w1,Z1,r1,p1⟩
abbrev DA:=Ev->R (List Dt×Ev)
def kA(K:W.Frag)(C:Cn)(Y:L2.St)(Q:List V->Hp->Prop)(G H:Hp)(w:Wn)(a:List Dt×Ev):Prop :=
 ∀ vs G' H' w',zbK G H w G' H' w'->Rel K C G' w' a.2 Y H'->zaJ K G' a.1 vs->Q vs H'
theorem zxv{K:W.Frag}{Y:L2.St}{Q:List V->Hp->Prop}:Stp (λG H w=>kA K C Y Q G H w):=λ_ _ _ _ _ _ _ s k v G' H' w' s'=>k v G' H' w' (s.trans s')
def tAd(K:W.Frag)(C:Cn)(f:DA):TA:=λY H Q=>∃ G w Z,Rel K C G w Z Y H/\zdc C.ex (kA K C Y Q G H w) (f Z)
abbrev JA(X:Cx)(C:Cn)(es:List Expr)(f:DA):Prop:=PA X es (tAd X.K C f)
def dA0:DA:=λZ=>.ok ([],Z)
def dA(fa:De)(fr:DA):DA:=λZ=>(fa Z).bind λa=>(fr a.2).bind λb=>.ok (a.1::b.1,b.2)
theorem zxQ{K:W.Frag}{Y:L2.St}{α:Type}{κ:zti α}(st:Stp κ){G H:Hp}{w:Wn}{Z:Ev}{fa:DA}{g:List Dt×Ev->R α}{Q:List V->Hp->Prop}(r:Rel K C G w Z Y H)(p:zdc C.ex (κ G H w) ((fa Z).bind g))
  (k:∀ ds Z1 vs G1 H1 w1,Rel K C G1 w1 Z1 Y H1->zbK G H w G1 H1 w1->zaJ K G1 ds vs->zdc C.ex (κ G1 H1 w1) (g (ds,Z1))->Q vs H1):tAd K C fa Y H Q:=by
 refine ⟨G,w,Z,r,?_⟩;cases e:fa Z with
 |ok a =>
  rw[e] at p;intro v G' H' w' s' r' q;exact k a.1 a.2 v G' H' w' r' s' q (zdc.step st s' p)
 |er n=>rw[e] at p;exact p
 |no=>rw[e] at p;exact p
theorem za7:JA X C [] dA0:=PA.weak zeW λY H Q ⟨G,w,Z,r,p⟩=>p _ G H w (.refl _ _ _) r zaJ.nil
theorem zau{e:Expr}{es:List Expr}{fr:DA}(ha:JE X C e fa)(hr:JA X C es fr)(hs:starEach (e::es) X.env=(false,eval e X.env)::starEach es X.env:=by rfl):JA X C (e::es) (dA fa fr) :=
 (zbY ha hr hs).weak λY H Q ⟨G,w,Z,r,p⟩=>by refine zeC (κ:=λG H w=>kA X.K C Y Q G H w) zxv r p λd Z1 v G1 H1 w1 r1 s1 q1 p1=>?_;refine zxQ (κ:=λG H w=>kA X.K C Y Q G H w) zxv r1 p1 λds Z2 vs G2 H2 w2 r2 s2 q2 p2=>?_;exact p2 _ G2 H2 w2 (.refl _ _ _) r2 (zaJ.cons (q1.same s2.g) q2)
def zia{α:Type}(l:List α):Bool:=decide (l.length<=16777216)
def zd1(f:DA):De:=λZ=>(f Z).bind λa=>if zia a.1=true then .ok (.tup a.1,a.2) else .no
def zc7(f:DA):DN:=λZ=>(f Z).bind λa=>if zia a.1=true then .ok (a.1,a.2) else .no
theorem zkV{α:Type}{l:List α}(h:zia l=true):l.length<=sizeLine:=by have:=of_decide_eq_true h;rw[show sizeLine=16777216 from by decide];exact this
theorem zcz{x1}{es:List Expr}{f:DA}(h:JA X C es f):JE X C (.Tuple es x1 pos) (zd1 f):=(zxz h).weak λY H Q ⟨G,w,Z,r,p⟩=>by
 refine zxQ (κ:=λG H w=>kE X.K C Y Q G H w) zcF r p λds Z1 vs G1 H1 w1 r1 s1 q1 p1=>?_;by_cases hf:zia ds=true
 ·simp only[hf,if_true] at p1;refine ⟨by rw[<- q1.length];exact zkV hf,λa ha=>?_⟩;have gr:zfS G1 H1 (upd G1 a (.tup vs)) (upd H1 a (.tup vs)):=.new r1.gh ha;exact p1 _ _ _ w1 gr.step (r1.grow gr) (by unfold Rep;exact ⟨a,vs,rfl,zne.of za5,q1.same gr.g⟩)
 ·simp only[hf] at p1;exact p1.elim
theorem zb3{es:List Expr}{f:DA}(h:JA X C es f):JN X C (.List es pos) (zc7 f):=(zyf h).weak λY H Q ⟨G,w,Z,r,p⟩=>by
 refine zxQ (κ:=λG H w=>kN X.K C Y Q G H w) zfG r p λds Z1 vs G1 H1 w1 r1 s1 q1 p1=>?_;by_cases hf:zia ds=true
 ·simp only[hf,if_true] at p1;refine ⟨by rw[<- q1.length];exact zkV hf,λa ha=>?_⟩;have gr:zfS G1 H1 G1 (upd H1 a (.lst vs)):=.newH r1.gh ha;exact p1 a vs _ _ w1 gr.step (r1.grow gr) ha za5 (r1.gh.free ha) (by
   cases z:w1 a with
   |none=>rfl
   |some k=>exact absurd ha (r1.wh a (by rw[z];simp))) q1
 ·simp only[hf] at p1;exact p1.elim
def dFz(f:DN):De:=λZ=>(f Z).bind λa=>.ok (.lst a.1,a.2)
theorem Rel.know{K:W.Frag}{Y:L2.St}{G H:Hp}{w:Wn}{Z:Ev}{p:Addr}{o:HO}(r:Rel K C G w Z Y H)(hp:H p=some o)(hg:G p=none)(hw:w p=none)(H0:Hp)(G0:Hp)(w0:Wn)(s:zbK G0 H0 w0 G H w)(h0:H0 p=none)
  (e0:C.H₀ p=none\/C.w₀ p≠none\/C.G₀ p≠none):Rel K C (upd G p o) w Z Y H/\zbK G0 H0 w0 (upd G p o) H w:=by
 have sg:zea G (upd G p o):=λb u e=>by rw[za1 (zay e hg)];exact e
 have s1:∀{G1 H1:Hp}{w1:Wn},zbK G1 H1 w1 G H w->(H1 p=none\/w1 p≠none\/G1 p≠none)->zbK G1 H1 w1 (upd G p o) H w:=λs z=>by
  refine ⟨s.g.trans sg,λb u e=>?_,s.h,s.w,s.k⟩;by_cases hb:b=p
  ·subst hb;rcases z with z|z|z
   ·exact .inr (.inl z)
   ·exact .inr (.inr z)
   ·exact .inl z
  ·rw[za1 hb] at e;exact s.fr b u e
 refine ⟨⟨λb u e=>?_,λb e=>?_,r.wh,r.len,λi b e=>?_,s1 r.en e0,r.pin⟩,s1 s (.inl h0)⟩
 ·by_cases hb:b=p
  ·subst hb;rw[za5] at e;cases e;exact hp
  ·rw[za1 hb] at e;exact r.gh b u e
 ·by_cases hb:b=p
  ·subst hb;rw[hw] at e;exact absurd rfl e
  ·rw[za1 hb];exact r.wg b e
 ·obtain ⟨v,h1,h2⟩:=r.sl i b e;exact ⟨v,h1,h2.grow sg λ_ _ e1 e2=>⟨e2,e1⟩⟩
end
section
variable{X:Cx}{C:Cn}{a b e:Expr}{fa fb:De}{pos:Pos}
theorem zaz{f:DN}(h:JN X C e f):JE X C e (dFz f):=PE.weak h λY H Q ⟨G,w,Z,r,p⟩=>by
 refine zz0 (κ:=λG H w=>kE X.K C Y Q G H w) r p λds Z1 a vs G1 H1 w1 r1 s1 h0 h1 h2 h3 q1 p1=>?_;obtain ⟨r',s'⟩:=r1.know h1 h2 h3 H G w s1 h0 (.inl (r.en.k a h0));have sg:zea G1 (upd G1 a (.lst vs)):=λb u e=>by rw[za1 (zay e h2)];exact e
 exact p1 _ _ _ _ s' r' (by unfold Rep;exact ⟨a,vs,rfl,za5,q1.same sg⟩)
def zax(f g:DS):DS:=λZ=>(f Z).bind λa=>match a.1 with
 |.nx=>g a.2
 |fl=>.ok (fl,a.2)
def dNx:DS:=λZ=>.ok (.nx,Z)
variable{st:Stmt}{zby:List Stmt}{fs gs:DS}
theorem zaA:JSs X C [] dNx:=PSs.weak zwi λD Y H ⟨G,w,Z,r,p⟩=>p Y G H w (.refl _ _ _) r
theorem zaf(h1:JS X C st fs)(h2:JSs X C zby gs):JSs X C (st::zby) (zax fs gs):=PSs.weak (zt6 h1 h2) λD Y H ⟨G,w,Z,r,p⟩=>by
 refine ⟨G,w,Z,r,?_⟩;unfold zax at p;cases e:fs Z with
 |ok x =>
  rw[e] at p;obtain ⟨fl,Z1⟩:=x;cases fl with
  |nx=>exact λY' G' H' w' s' r'=>⟨G',w',Z1,r',zdc.step zfn s' p⟩
  |bk=>exact p
  |ct=>exact p
  |rt d=>exact p
 |er n=>rw[e] at p;exact p
 |no=>rw[e] at p;exact p
theorem zah(h1:JS X C st fs):JSs X C [st] fs:=zwG h1
def dEx(f:De):DS:=λZ=>(f Z).bind λa=>.ok (.nx,a.2)
theorem zcG(he:JE X C e fa)(hs:swapsWith e none pos.line X.env=pure false:=by rfl):JS X C (.Expr e pos) (dEx fa):=PS.weak (zvA he hs) λD Y H ⟨G,w,Z,r,p⟩ =>
 zeC (κ:=λG H w=>kS X.K C D G H w) zfn r p λd Z1 v G1 H1 w1 r1 s1 q1 p1=>p1 Y G1 H1 w1 (.refl _ _ _) r1
def zbb(f:De):DS:=λZ=>(f Z).bind λa=>.ok (.rt a.1,a.2)
theorem za3(hn:C.nw=false)(he:JE X C e fa):JS X C (.Return (some e) pos) (zbb fa):=PS.weak (zrW he) λD Y H ⟨G,w,Z,r,p⟩ =>
 zeC (κ:=λG H w=>kS X.K C D G H w) zfn r p λd Z1 v G1 H1 w1 r1 s1 q1 p1=>p1 v Y G1 H1 w1 (.refl _ _ _) r1 (by rw[hn];exact q1)
def zeb(f:DN):DS:=λZ=>(f Z).bind λa=>.ok (.rt (.lst a.1),a.2)
theorem zdl{f:DN}(hn:C.nw=true)(he:JN X C e f):JS X C (.Return (some e) pos) (zeb f):=PS.weak (zrW he) λD Y H ⟨G,w,Z,r,p⟩ =>
 zz0 (κ:=λG H w=>kS X.K C D G H w) r p λds Z1 a vs G1 H1 w1 r1 s1 h0 h1 h2 h3 q1 p1=>p1 _ Y G1 H1 w1 s1 r1 (by rw[hn];exact ⟨ds,a,vs,rfl,rfl,r.en.k a h0,h1,h2,h3,q1⟩)
def dIf(c:DT)(f g:DS):DS:=λZ=>(c Z).bind λb=>if b.1=true then f b.2 else g b.2
theorem zbx{c:Expr}{A B:List Stmt}{tc:DT}(hc:JT X C c tc)(ha:JSs X C A fs)(hb:JSs X C B gs):JS X C (.If c A B pos) (dIf tc fs gs):=PS.weak (zzg hc ha hb) λD Y H ⟨G,w,Z,r,p⟩=>by
 refine zws (κ:=λG H w=>kS X.K C D G H w) zfn r p λb Z1 G1 H1 w1 r1 s1 p1=>?_;cases b with
 |true=>exact ⟨G1,w1,Z1,r1,p1⟩
 |false=>exact ⟨G1,w1,Z1,r1,p1⟩
theorem Rel.setVal{K:W.Frag}{Y:L2.St}{G H:Hp}{w:Wn}{Z:Ev}{i:Nat}{d:Dt}{v:V}(r:Rel K C G w Z Y H)(hi:i < Z.length)(hp:i∉C.pp)(h:Rep K G d v):Rel K C G w (Z.set i (some (.val d))) (Y.set i (some v)) H:=by
 refine ⟨r.gh,r.wg,r.wh,by simpa using r.len,λj b e=>?_,r.en,λj hj=>?_⟩
 ·by_cases hj:j=i
  ·subst hj;rw[List.getElem?_set_self hi] at e;cases e;exact ⟨v,way (by rw[<- r.len];exact hi),h⟩
  ·rw[List.getElem?_set_ne (Ne.symm hj)] at e;obtain ⟨v',h1,h2⟩:=r.sl j b e;exact ⟨v',by rw[List.getElem?_set_ne (Ne.symm hj)];exact h1,h2⟩
 ·have:i≠j:=λz=>hp (z ▸ hj);rw[List.getElem?_set_ne this];exact r.pin j hj
theorem Rel.setOwn{K:W.Frag}{Y:L2.St}{G0 H0:Hp}{w0:Wn}{G H:Hp}{w:Wn}{Z:Ev}{i:Nat}{ds:List Dt}{p:Addr}{vs:List V}(r:Rel K C G w Z Y H)(hi:i < Z.length)(hpp:i∉C.pp)(hp:H p=some (.lst vs))(hg:G p=none)(hw:w p=none)
  (q:zaJ K G ds vs) (s:zbK G0 H0 w0 G H w) (h0:H0 p=none) (en0:C.H₀ p=none) :
  Rel K C G (λb=>if b=p then some i else w b) (Z.set i (some (.own ds))) (Y.set i (some (.ref p))) H/\zbK G0 H0 w0 G H (λb=>if b=p then some i else w b):=by
 have s1:∀{G1 H1:Hp}{w1:Wn},zbK G1 H1 w1 G H w->H1 p=none->zbK G1 H1 w1 G H (λb=>if b=p then some i else w b):=λs z=>by
  refine ⟨s.g,s.fr,s.h,λb e=>?_,s.k⟩;by_cases hb:b=p
  ·subst hb;exact .inr z
  ·simp[hb] at e;exact s.w b e
 refine ⟨⟨r.gh,λb e=>?_,λb e=>?_,by simpa using r.len,λj b e=>?_,s1 r.en en0,λj hj=>?_⟩,s1 s h0⟩
 ·by_cases hb:b=p
  ·subst hb;exact hg
  ·simp[hb] at e;exact r.wg b e
 ·by_cases hb:b=p
  ·subst hb;rw[hp];simp
  ·simp[hb] at e;exact r.wh b e
 ·by_cases hj:j=i
  ·subst hj;rw[List.getElem?_set_self hi] at e;cases e;exact ⟨_,way (by rw[<- r.len];exact hi),p,vs,rfl,xws,hp,q⟩
  ·rw[List.getElem?_set_ne (Ne.symm hj)] at e;obtain ⟨v',h1,h2⟩:=r.sl j b e;refine ⟨v',by rw[List.getElem?_set_ne (Ne.symm hj)];exact h1,h2.grow (.refl _) λa o e1 e2=>⟨e2,?_⟩⟩;have:a≠p:=λz=>by subst z;rw[hw] at e1;cases e1
   simp[this,e1]
 ·have:i≠j:=λz=>hpp (z ▸ hj);rw[List.getElem?_set_ne this];exact r.pin j hj
def zaX(i:Nat)(f:De):DS:=λZ=>(f Z).bind λa=>if i<a.2.length then .ok (.nx,a.2.set i (some (.val a.1))) else .no
theorem zaR{i:Nat}{x:Str}{pos':Pos}(hN:X.N.Nodup)(hi:X.N[i]? = some x)(hx:Loc X.env.scope x)(hp:i∉C.pp)(he:JE X C e fa)(hs:swapsWith e (some (.Name x pos')) pos.line X.env=pure false:=by rfl)
  (hf:X.fn x=true\/X.env.scope.names.lookup x=some .local:=by exact xwA):JS X C (.Assign [.Name x pos'] e pos) (zaX i fa) :=
 PS.weak (zuV hN hi hx he hs) λD Y H ⟨G,w,Z,r,p⟩=>by
  refine zeC (κ:=λG H w=>kS X.K C D G H w) zfn r p λd Z1 v G1 H1 w1 r1 s1 q1 p1=>?_;by_cases hl:i < Z1.length
  ·simp only[hl,if_true] at p1;exact p1 _ G1 H1 w1 (.refl _ _ _) (r1.setVal hl hp q1)
  ·simp only[hl,if_false] at p1;exact p1.elim
def zcY(i:Nat)(f:DN):DS:=λZ=>(f Z).bind λa=>if i<a.2.length then .ok (.nx,a.2.set i (some (.own a.1))) else .no
theorem zec{i:Nat}{x:Str}{pos':Pos}{f:DN}(hN:X.N.Nodup)(hi:X.N[i]? = some x)(hx:Loc X.env.scope x)(hp:i∉C.pp)(he:JN X C e f)(hs:swapsWith e (some (.Name x pos')) pos.line X.env=pure false:=by rfl)
  (hf:X.fn x=true\/X.env.scope.names.lookup x=some .local:=by exact xwA):JS X C (.Assign [.Name x pos'] e pos) (zcY i f) :=
 PS.weak (zuV hN hi hx he hs) λD Y H ⟨G,w,Z,r,p⟩=>by
  refine zz0 (κ:=λG H w=>kS X.K C D G H w) r p λds Z1 a vs G1 H1 w1 r1 s1 h0 h1 h2 h3 q1 p1=>?_;by_cases hl:i < Z1.length
  ·simp only[hl,if_true] at p1;obtain ⟨r',s'⟩:=r1.setOwn hl hp h1 h2 h3 q1 s1 h0 (r.en.k a h0);exact p1 _ _ _ _ s' r'
  ·simp only[hl,if_false] at p1;exact p1.elim
def zsC(i:Nat)(fb:De):De:=λZ=>match Z[i]? with
 |some (some _)=>(fb Z).bind λb=>match b.2[i]?,b.1 with
  |some (some (.own ds)),.int k=>match atI ds k with
   |some d=>.ok (d,b.2)
   |none=>.no
  |_,_=>.no
 |_=>.no
theorem zlh{K:W.Frag}{G:Hp}{ds:List Dt}{vs:List V}{k:Int}{d:Dt}(h:zaJ K G ds vs)(e:atI ds k=some d):∃ v,atI vs k=some v/\Rep K G d v:=by
 unfold atI at e ⊢;rw[<- h.length];cases q:ixN ds.length k with
 |none=>rw[q] at e;cases e
 |some j =>
  rw[q] at e;exact h.get e
theorem ziM(i:Nat){x:Str}{ps:Pos}(hN:X.N[i]? = some x:=by rfl)(hb:JE X C b fb)(hv:Vis X.env.scope x:=by exact xwV)(hd:(x == ("__debug__" : Str))=false:=by decide)
  (hcd:(x == ("__classdict__" : Str))=false:=by decide) (hs:zlu b:=by exact λ_ _=>rfl):JE X C (.Subscript (.Name x ps) b pos) (zsC i fb) :=
 PE.weak (zwe zog (zd9 hN hv hd hcd) hb hs) λY H Q ⟨G,w,Z,r,p⟩=>by
  unfold zsC at p;split at p
  ·rename_i b0 e0;obtain ⟨v0,h0,_⟩:=r.sl i b0 e0;refine ⟨v0,h0,?_⟩;refine zeC (κ:=λG H w=>kE X.K C Y Q G H w) zcF r p λd Z1 v G1 H1 w1 r1 s1 q1 p1=>?_;dsimp only at p1;split at p1
   ·rename_i ds k e1;obtain ⟨v1,h1,a,vs,rfl,h2,h3,h4⟩:=r1.sl i _ e1;rw[h0] at h1;cases h1;split at p1
    ·rename_i d' e2;obtain ⟨v2,h5,h6⟩:=zlh h4 e2;exact ⟨a,vs,k,v2,rfl,zaF q1,SqL.of h3,h5,p1 v2 G1 H1 w1 (.refl _ _ _) r1 h6⟩
    ·exact p1.elim
   ·exact p1.elim
  ·exact p.elim
end
def zr4(K:W.Frag)(J:It)(G:Hp)(ds:List Dt):Prop:=∀(i:Nat)(G1 H:Hp),zea G G1->zea G1 H ->
 (∀ d,ds[i]? = some d->J.go i H/\∀ x H',J.yld i H x H'->∃ G2,zfS G1 H G2 H'/\Rep K G2 d x)/\(ds.length<=i->J.stop i H)
def kI(K:W.Frag)(C:Cn)(Y:L2.St)(Q:It->Hp->Prop)(G H:Hp)(w:Wn)(a:List Dt×Ev):Prop :=
 ∀ J G' H' w',zbK G H w G' H' w'->Rel K C G' w' a.2 Y H'->zr4 K J G' a.1->Q J H'
def tI(K:W.Frag)(C:Cn)(f:DA):TI:=λY H Q=>∃ G w Z,Rel K C G w Z Y H/\zdc C.ex (kI K C Y Q G H w) (f Z)
abbrev JI(X:Cx)(C:Cn)(tg iter:Expr)(f:DA):Prop:=PI X tg iter (tI X.K C f)
section
variable{X:Cx}{C:Cn}{tg iter:Expr}{fa:De}{pos:Pos}
theorem zyQ{K:W.Frag}{Y:L2.St}{α:Type}{κ:zti α}(st:Stp κ){G H:Hp}{w:Wn}{Z:Ev}{fa:DA}{g:List Dt×Ev->R α}{Q:It->Hp->Prop}(r:Rel K C G w Z Y H)(p:zdc C.ex (κ G H w) ((fa Z).bind g))
  (k:∀ ds Z1 J G1 H1 w1,Rel K C G1 w1 Z1 Y H1->zbK G H w G1 H1 w1->zr4 K J G1 ds->zdc C.ex (κ G1 H1 w1) (g (ds,Z1))->Q J H1):tI K C fa Y H Q:=by
 refine ⟨G,w,Z,r,?_⟩;cases e:fa Z with
 |ok a =>
  rw[e] at p;intro v G' H' w' s' r' q;exact k a.1 a.2 v G' H' w' r' s' q (zdc.step st s' p)
 |er n=>rw[e] at p;exact p
 |no=>rw[e] at p;exact p
theorem PI.or{t t':TI}(h:PI X tg iter t)(h':PI X tg iter t'):PI X tg iter (λY H Q=>t Y H Q\/t' Y H Q):=λpS s Y H Q I q=>q.elim (h pS s Y H Q I) (h' pS s Y H Q I)
theorem PI.weak{t t':TI}(h:PI X tg iter t)(k:∀ Y H Q,t' Y H Q->t Y H Q):PI X tg iter t':=λpS s Y H Q I q=>h pS s Y H Q I (k Y H Q q)
def dIt(f:De):DA:=λZ=>(f Z).bind λa=>match a.1 with
 |.lst l=>.ok (l,a.2)
 |.tup l=>.ok (l,a.2)
 |_=>.no
theorem zx1{K:W.Frag}{G:Hp}{a:Addr}{vs:List V}{ds:List Dt}(hs:SqT K G a vs)(q:zaJ K G ds vs):zr4 K (Itt K a) G ds:=λi G1 H s1 s2=>by refine ⟨λd e=>?_,λh=>⟨vs,zbi s2 (zbi s1 hs),by rw[<- q.length];exact h⟩⟩;obtain ⟨v,e1,e2⟩:=q.get e;refine ⟨⟨vs,v,zbi s2 (zbi s1 hs),e1⟩,λx H' y=>?_⟩;obtain ⟨rfl,y⟩:=y;have:=y vs (zbi s2 (zbi s1 hs));rw[e1] at this;cases this;exact ⟨G1,.refl s2,e2.same s1⟩
theorem zvQ{K:W.Frag}{G:Hp}{a:Addr}{vs:List V}{ds:List Dt}(hs:SqL K G a vs)(q:zaJ K G ds vs):zr4 K (Itl K a) G ds:=λi G1 H s1 s2=>by refine ⟨λd e=>?_,λh=>⟨vs,s2.seq (s1.seq hs),by rw[<- q.length];exact h⟩⟩;obtain ⟨v,e1,e2⟩:=q.get e;refine ⟨⟨vs,v,s2.seq (s1.seq hs),e1⟩,λx H' y=>?_⟩;obtain ⟨rfl,y⟩:=y;have:=y vs (s2.seq (s1.seq hs));rw[e1] at this;cases this;exact ⟨G1,.refl s2,e2.same s1⟩
theorem zbJ(h:JE X C iter fa):JI X C tg iter (dIt fa):=PI.weak (PI.or (zvl h) (zyd h)) λY H Q ⟨G,w,Z,r,p⟩=>by
 unfold dIt at p;cases e:fa Z with
 |ok x =>
  obtain ⟨d,Z1⟩:=x;cases d with
  |lst l =>
   rw[e] at p;refine .inl ⟨G,w,Z,r,?_⟩;rw[e];intro v G' H' w' s' r' q;obtain ⟨a,vs,rfl,h1,h2⟩:=zbg q;exact ⟨a,rfl,⟨vs,SqL.of (r'.gh _ _ h1)⟩,p _ G' H' w' s' r' (zvQ (SqL.of h1) h2)⟩
  |tup l =>
   rw[e] at p;refine .inr ⟨G,w,Z,r,?_⟩;rw[e];intro v G' H' w' s' r' q;obtain ⟨a,vs,rfl,h1,h2⟩:=zcr q;exact ⟨a,rfl,⟨vs,zbi r'.gh h1⟩,p _ G' H' w' s' r' (zx1 h1 h2)⟩
  |_=>rw[e] at p;exact p.elim
 |er n=>rw[e] at p;exact .inl ⟨G,w,Z,r,by rw[e];exact p⟩
 |no=>rw[e] at p;exact p.elim
def zch(lo:Int)(n:Nat):List Dt:=(List.range n).map λk=>.int (lo+(k:Nat))
theorem zuB{K:W.Frag}{G:Hp}{lo:Int}{n:Nat}:zr4 K (Itr lo n) G (zch lo n):=λi G1 H s1 s2=>by
 refine ⟨λd e=>?_,λh=>show n<=i by simpa [zch] using h⟩;unfold zch at e;rw[List.getElem?_map] at e;by_cases hi:i<n
 ·rw[List.getElem?_range hi] at e;cases e;refine ⟨hi,λx H' y=>?_⟩;obtain ⟨rfl,rfl⟩:=y;exact ⟨G1,.refl s2,by unfold Rep;rfl⟩
 ·rw[List.getElem?_eq_none (by simpa using hi)] at e;cases e
def zdx(j:Int):Bool:=decide (-4611686018427387904<=j) && decide (j<4611686018427387904)
theorem zdV{j:Int}(h:zdx j=true):-(2 ^ 62)<=j/\j<2 ^ 62:=by unfold zdx at h;rw[Bool.and_eq_true] at h;have h1:=of_decide_eq_true h.1;have h2:=of_decide_eq_true h.2;lia
def zdw(fa:De):DA:=λZ=>(fa Z).bind λa=>match a.1 with
 |.int j=>if zdx j=true then .ok (zch 0 j.toNat,a.2) else .no
 |_=>.no
def zno(fa fb:De):DA:=λZ=>(fa Z).bind λa=>(fb a.2).bind λb=>match a.1,b.1 with
 |.int i,.int j=>if (zdx i && zdx j)=true then .ok (zch i (j-i).toNat,b.2) else .no
 |_,_=>.no
theorem zdE{e:Expr}{p ps:Pos}(hg:Gl X "range")(hm:X.mg "range"=none)(he:JE X C e fa)(hs:starEach [e] X.env=[(false,eval e X.env)]:=by rfl):JI X C tg (.Call (.Name "range" p) [e] [] ps) (zdw fa) :=
 PI.weak (zqN hg hm (zau he za7 (by rw[hs];rfl)) hs) λY H Q ⟨G,w,Z,r,p⟩=>by
  unfold zdw at p;refine ⟨G,w,Z,r,?_⟩;unfold dA dA0;cases e:fa Z with
  |ok x =>
   obtain ⟨d,Z1⟩:=x;rw[e] at p;intro vs G' H' w' s' r' q;obtain ⟨v,t,rfl,q1,q2⟩:=q.cons_inv;rw[q2.nil_inv];cases d with
   |int j =>
    simp only[R.bind_ok] at p;by_cases hj:zdx j=true
    ·simp only[hj,if_true] at p;exact ⟨j,by rw[zaF q1],(zdV hj).1,(zdV hj).2,p _ G' H' w' s' r' zuB⟩
    ·simp only[hj] at p;exact p.elim
   |_=>exact p.elim
  |er n=>rw[e] at p;exact p
  |no=>rw[e] at p;exact p
theorem zq6{e e':Expr}{fb:De}{p ps:Pos}(hg:Gl X "range")(hm:X.mg "range"=none)(he:JE X C e fa)(he':JE X C e' fb)(hs:starEach [e,e'] X.env=[(false,eval e X.env),(false,eval e' X.env)]:=by rfl)(hs2:starEach [e'] X.env=[(false,eval e' X.env)]:=by rfl) :
  JI X C tg (.Call (.Name "range" p) [e,e'] [] ps) (zno fa fb) :=
 PI.weak (zqo hg hm (zau he (zau he' za7 (by rw[hs2];rfl)) (by rw[hs,hs2])) hs hs2) λY H Q ⟨G,w,Z,r,p⟩=>by
  unfold zno at p;refine ⟨G,w,Z,r,?_⟩;unfold dA dA0;cases e:fa Z with
  |ok x =>
   obtain ⟨d,Z1⟩:=x;rw[e] at p;simp only[R.bind_ok] at p ⊢;cases e2:fb Z1 with
   |ok y =>
    obtain ⟨d2,Z2⟩:=y;rw[e2] at p;intro vs G' H' w' s' r' q;obtain ⟨v,t,rfl,q1,q2⟩:=q.cons_inv;obtain ⟨v2,t2,rfl,q3,q4⟩:=q2.cons_inv;rw[q4.nil_inv];simp only[R.bind_ok] at p;cases d with
    |int i =>
     cases d2 with
     |int j =>
      simp only at p;by_cases hj:(zdx i && zdx j)=true
      ·simp only[hj,if_true] at p;rw[Bool.and_eq_true] at hj;exact ⟨i,j,by rw[zaF q1,zaF q3],⟨(zdV hj.1).1,(zdV hj.1).2,(zdV hj.2).1,(zdV hj.2).2⟩,p _ G' H' w' s' r' zuB⟩
      ·simp only[hj] at p;exact p.elim
     |_=>exact p.elim
    |_=>exact p.elim
   |er n=>rw[e2] at p;exact p
   |no=>rw[e2] at p;exact p
  |er n=>rw[e] at p;exact p
  |no=>rw[e] at p;exact p
abbrev DG:=Dt->Ev->R Ev
def kG(K:W.Frag)(C:Cn)(Q:L2.St->Hp->Prop)(G H:Hp)(w:Wn)(Z:Ev):Prop :=
 ∀ Y' G' H' w',zbK G H w G' H' w'->Rel K C G' w' Z Y' H'->Q Y' H'
def tG(K:W.Frag)(C:Cn)(g:DG):TG:=λv Y H Q=>∃ G w Z d,Rel K C G w Z Y H/\Rep K G d v/\zdc C.ex (kG K C Q G H w) (g d Z)
abbrev JG(X:Cx)(C:Cn)(tg:Expr)(g:DG):Prop:=PG X tg (tG X.K C g)
theorem PG.weak{t t':TG}(h:PG X tg t)(k:∀ v Y H Q,t' v Y H Q->t v Y H Q):PG X tg t':=λpS s Y H v u Q I r q=>h pS s Y H v u Q I r (k v Y H Q q)
def zbr(i:Nat):DG:=λd Z=>if i < Z.length then .ok (Z.set i (some (.val d))) else .no
theorem zaT{i:Nat}{x:Str}(hN:X.N.Nodup)(hi:X.N[i]? = some x)(hx:Loc X.env.scope x)(hp:i∉C.pp)(hf:X.fn x=true\/X.env.scope.names.lookup x=some .local:=by exact xwA):JG X C (.Name x pos) (zbr i) :=
 PG.weak (znm hN hi hx hf) λv Y H Q ⟨G,w,Z,d,r,q,p⟩=>by
  unfold zbr at p;by_cases hl:i < Z.length
  ·simp only[hl,if_true] at p;exact p _ G H w (.refl _ _ _) (r.setVal hl hp q)
  ·simp only[hl,if_false] at p;exact p.elim
def zlw(i j:Nat):DG:=λd Z=>match d with
 |.tup [a,b]=>if i < Z.length/\j < Z.length then .ok ((Z.set i (some (.val a))).set j (some (.val b))) else .no
 |_=>.no
theorem zqz{i j k:Nat}{x y:Str}{p1 p2:Pos}(hc:X.calm=true)(hN:X.N.Nodup)(hi:X.N[i]? = some x)(hj:X.N[j]? = some y)(hx:Loc X.env.scope x)(hy:Loc X.env.scope y)(hp:i∉C.pp)(hq:j∉C.pp)
  (hf:X.fn x=true\/X.env.scope.names.lookup x=some .local:=by exact xwA) (hf2:X.fn y=true\/X.env.scope.names.lookup y=some .local:=by exact xwA)
  (hs1:(assignEach [.Name x p1,.Name y p2] X.env).map (·.2)=assign (.Name x p1) X.env::(assignEach [.Name y p2] X.env).map (·.2):=by rfl) (hs2:(assignEach [.Name y p2] X.env).map (·.2)=assign (.Name y p2) X.env::(assignEach [] X.env).map (·.2):=by rfl)
  (hn:(assignEach [.Name x p1,.Name y p2] X.env).length=2:=by rfl) (hst:(assignEach [.Name x p1,.Name y p2] X.env).findIdx? (·.1)=none:=by rfl):JG X C (.Tuple [.Name x p1,.Name y p2] k pos) (zlw i j) :=
 PG.weak (zyh hc (zo2 (znm hN hi hx hf) (zo2 (znm hN hj hy hf2) zvL hs2) hs1) hn hst) λv Y H Q ⟨G,w,Z,d,r,q,p⟩=>by
  unfold zlw at p;split at p
  ·rename_i a b;obtain ⟨ad,vs,rfl,h1,h2⟩:=zcr q;obtain ⟨v1,t,rfl,q1,q2⟩:=h2.cons_inv;obtain ⟨v2,t2,rfl,q3,q4⟩:=q2.cons_inv;rw[q4.nil_inv] at h1;by_cases hl:i < Z.length/\j < Z.length
   ·simp only[hl,and_self,if_true] at p;have r1:=r.setVal hl.1 hp q1;have r2:=r1.setVal (i:=j) (by simpa using hl.2) hq q3;exact ⟨ad,_,rfl,zbi r.gh h1,rfl,v1,_,rfl,v2,_,rfl,rfl,p _ G H w (.refl _ _ _) r2⟩
   ·simp only[hl,if_false] at p;exact p.elim
  ·exact p.elim
def zps(g:DG)(body:DS):List Dt->DS
 |[],Z=>.ok (.nx,Z)
 |d::r,Z=>(g d Z).bind λZ1=>(body Z1).bind λa=>match a.1 with
  |.nx=>zps g body r a.2
  |.ct=>zps g body r a.2
  |.bk=>.ok (.nx,a.2)
  |.rt v=>.ok (.rt v,a.2)
def zh1(fi:DA)(g:DG)(body:DS):DS:=λZ=>(fi Z).bind λa=>zps g body a.1 a.2
theorem zf8{body:List Stmt}{fi:DA}{g:DG}{fb:DS}(hp:PassesOwn (model X.prog X.w) X.A X.env X.xe)(hc:X.calm=true)(hi:JI X C tg iter fi)(hg:JG X C tg g)(hb:JSs X C body fb)
  (hs:∀ x,foldedSetIterable iter X.env x=pure x:=by intro _;rfl):JS X C (.For tg iter body [] pos) (zh1 fi g fb) :=
 PS.weak (zxJ hp hc hi hg hb hs) λD Y H ⟨G,w,Z,r,p⟩=>by
  refine zyQ (κ:=λG H w=>kS X.K C D G H w) zfn r p λds Z1 J G1 H1 w1 r1 s1 it p1=>?_;refine ⟨λi m Y' H'=>m=ds.length-i/\i<=ds.length/\∃ G' w' Z',zea G1 G'/\Rel X.K C G' w' Z' Y' H'/\zdc C.ex (kS X.K C D G' H' w') (zps g fb (ds.drop i) Z'),
   ⟨ds.length,xws,Nat.zero_le _,G1,w1,Z1,.refl _,r1,by simpa using p1⟩,?_⟩
  rintro i m Y2 H2 ⟨rfl,hi,G2,w2,Z2,s2,r2,p2⟩;obtain ⟨it1,it2⟩:=it i G2 H2 s2 r2.gh;by_cases hlt:i<ds.length
  ·have ed:ds.drop i=ds[i]::ds.drop (i+1):=List.drop_eq_getElem_cons hlt;obtain ⟨go,yl⟩:=it1 ds[i] (by simp[hlt]);rw[ed] at p2;refine .inr ⟨go,λY' H'=>(ds.length-(i+1))=ds.length-(i+1)/\i+1<=ds.length/\∃ G' w' Z',zea G1 G'/\Rel X.K C G' w' Z' Y' H'/\zdc C.ex (kS X.K C D G' H' w') (zps g fb (ds.drop (i+1)) Z'),
    λY' H' h=>⟨ds.length-(i+1),xwl,h⟩,λx H' y=>?_⟩
   obtain ⟨G3,gr,q3⟩:=yl x H' y;have r3:=r2.grow gr;have p3:=zdc.step (κ:=λG H w=>kS X.K C D G H w) zfn gr.step (w1:=w2) p2;refine ⟨G3,w2,Z2,ds[i],r3,q3,?_⟩;unfold zps at p3;cases eg:g ds[i] Z2 with
   |ok Z3 =>
    rw[eg] at p3;intro Y4 G4 H4 w4 s4 r4;have p4:=zdc.step (κ:=λG H w=>kS X.K C D G H w) zfn s4 p3;refine ⟨G4,w4,Z3,r4,?_⟩;cases eb:fb Z3 with
    |ok z =>
     obtain ⟨fl,Z5⟩:=z;rw[R.bind_ok,eb] at p4;have sG:zea G1 G4:=(s2.trans gr.g).trans s4.g;cases fl with
     |nx=>exact λY6 G6 H6 w6 s6 r6=>⟨rfl,hlt,G6,w6,Z5,sG.trans s6.g,r6,zdc.step (κ:=λG H w=>kS X.K C D G H w) zfn s6 p4⟩
     |ct=>exact λY6 G6 H6 w6 s6 r6=>⟨rfl,hlt,G6,w6,Z5,sG.trans s6.g,r6,zdc.step (κ:=λG H w=>kS X.K C D G H w) zfn s6 p4⟩
     |bk=>exact p4
     |rt v=>exact p4
    |er n=>rw[R.bind_ok,eb] at p4;exact p4
    |no=>rw[R.bind_ok,eb] at p4;exact p4
   |er n=>rw[eg] at p3;exact p3
   |no=>rw[eg] at p3;exact p3
  ·have e:i=ds.length:=by lia
   subst e;simp only[List.drop_length] at p2;exact .inl ⟨it2 (wal _),p2 Y2 G2 H2 w2 (.refl _ _ _) r2⟩
def zbG(c:DT)(body:DS):Nat->DS
 |0,_=>.no
 |n+1,Z=>(c Z).bind λt=>if t.1=true then (body t.2).bind λa=>match a.1 with
   |.nx=>zbG c body n a.2
   |.ct=>zbG c body n a.2
   |.bk=>.ok (.nx,a.2)
   |.rt v=>.ok (.rt v,a.2)
  else .ok (.nx,t.2)
theorem zoO(n:Nat){c:Expr}{body:List Stmt}{tc:DT}{fb:DS}(hp:PassesOwn (model X.prog X.w) X.A X.env X.xe)(hc:JT X C c tc)(hb:JSs X C body fb):JS X C (.While c body [] pos) (zbG tc fb n) :=
 PS.weak (zsJ hp hc hb) λD Y H ⟨G,w,Z,r,p⟩=>by
  refine ⟨λm Y' H'=>∃ G' w' Z',Rel X.K C G' w' Z' Y' H'/\zdc C.ex (kS X.K C D G' H' w') (zbG tc fb m Z'),⟨n,G,w,Z,r,p⟩,?_⟩;rintro m Y1 H1 ⟨G1,w1,Z1,r1,p1⟩;cases m with
  |zero=>exact p1.elim
  |succ m =>
   unfold zbG at p1;refine zws (κ:=λG H w=>kS X.K C D G H w) zfn r1 p1 λb Z2 G2 H2 w2 r2 s2 p2=>?_;cases b with
   |false=>exact p2 Y1 G2 H2 w2 (.refl _ _ _) r2
   |true =>
    refine ⟨λY' H'=>∃ G' w' Z',Rel X.K C G' w' Z' Y' H'/\zdc C.ex (kS X.K C D G' H' w') (zbG tc fb m Z'),λY' H' h=>⟨m,Nat.lt_succ_self _,h⟩,G2,w2,Z2,r2,?_⟩;have p2:zdc C.ex (kS X.K C D G2 H2 w2) ((fb Z2).bind λa=>match a.1 with
     |.nx=>zbG tc fb m a.2
     |.ct=>zbG tc fb m a.2
     |.bk=>.ok (.nx,a.2)
     |.rt v=>.ok (.rt v,a.2)):=p2
    cases eb:fb Z2 with
    |ok z =>
     obtain ⟨fl,Z5⟩:=z;rw[eb] at p2;cases fl with
     |nx=>exact λY6 G6 H6 w6 s6 r6=>⟨G6,w6,Z5,r6,zdc.step (κ:=λG H w=>kS X.K C D G H w) zfn s6 p2⟩
     |ct=>exact λY6 G6 H6 w6 s6 r6=>⟨G6,w6,Z5,r6,zdc.step (κ:=λG H w=>kS X.K C D G H w) zfn s6 p2⟩
     |bk=>exact p2
     |rt v=>exact p2
    |er n=>rw[eb] at p2;exact p2
    |no=>rw[eb] at p2;exact p2
end
abbrev FD:=List B->R (Dt×List B)
def zsH:B->Bool
 |.val _=>false
 |_=>true
def zdX(bs:List B):List Bool:=bs.map zsH
structure PRel(K:W.Frag)(G H:Hp)(w:Wn)(bs:List B)(vs:List V):Prop where
 gh:zea G H
 wg:∀ b,w b≠none->G b=none
 wh:∀ b,w b≠none->H b≠none
 len:bs.length=vs.length
 sl:∀(j:Nat)(b:B)(v:V),bs[j]? = some b->vs[j]? = some v->RB K G H w j v b
structure zsP(K:W.Frag)(G H:Hp)(w:Wn)(ks:List Bool)(bs:List B)(vs:List V):Prop where
 gh:zea G H
 wg:∀ b,w b≠none->G b=none
 wh:∀ b,w b≠none->H b≠none
 sl:∀(j:Nat)(v:V),ks[j]? = some true->vs[j]? = some v->∃ b,bs[j]? = some b/\RB K G H w j v b
abbrev spM(nw:Bool)(K:W.Frag)(xv:Nat->Value)(ks:List Bool)(F:FD)(vs:List V)(H:Hp)(Q:VK)(E:XK)(G:Hp)(w:Wn)(bs:List B):Prop:=vs.length=ks.length/\zdX bs=ks/\PRel K G H w bs vs /\
 match F bs with
 |.ok a=>∀ v G' H' w',zbK G H w G' H' w'->zsP K G' H' w' ks a.2 vs->RtG nw K H G' H' w' a.1 v->Q v H'
 |.er n=>∀ G' H' w',zbK G H w G' H' w'->E (xv n) none H'
 |.no=>False
def zph(nw:Bool)(K:W.Frag)(xv:Nat->Value)(ks:List Bool)(F:FD):Sp:=λvs H Q E=>∃ G w bs,spM nw K xv ks F vs H Q E G w bs
def EXc(C:Cn):XK:=λu a H'=>a=none/\∃ n,u=C.xv n/\C.ex n/\∃ G' w',zbK C.G₀ C.H₀ C.w₀ G' H' w'
inductive Arg where
 |d (x:Dt)|s (i:Nat)
def ze0(K:W.Frag)(G:Hp)(Y:L2.St):List Arg->List V->Prop
 |[],vs=>vs=[]
 |.d x::r,vs=>∃ v t,vs=v::t/\Rep K G x v/\ze0 K G Y r t
 |.s i::r,vs=>∃ v t,vs=v::t/\Y[i]? = some (some v)/\ze0 K G Y r t
theorem ze0.same{K:W.Frag}{G G':Hp}{Y:L2.St}(e:zea G G'):∀{as:List Arg}{vs:List V},ze0 K G Y as vs->ze0 K G' Y as vs
 |[],_,h=>h
 |.d _::_,_,⟨v,t,h1,h2,h3⟩=>⟨v,t,h1,h2.same e,ze0.same e h3⟩
 |.s _::_,_,⟨v,t,h1,h2,h3⟩=>⟨v,t,h1,h2,ze0.same e h3⟩
abbrev DAr:=Ev->R (List Arg×Ev)
def kAr(K:W.Frag)(C:Cn)(Y:L2.St)(Q:List V->Hp->Prop)(G H:Hp)(w:Wn)(a:List Arg×Ev):Prop :=
 ∀ vs G' H' w',zbK G H w G' H' w'->Rel K C G' w' a.2 Y H'->ze0 K G' Y a.1 vs->Q vs H'
def tAr(K:W.Frag)(C:Cn)(f:DAr):TA:=λY H Q=>∃ G w Z,Rel K C G w Z Y H/\zdc C.ex (kAr K C Y Q G H w) (f Z)
abbrev JAr(X:Cx)(C:Cn)(es:List Expr)(f:DAr):Prop:=PA X es (tAr X.K C f)
theorem zst{K:W.Frag}{C:Cn}{Y:L2.St}{Q:List V->Hp->Prop}:Stp (λG H w=>kAr K C Y Q G H w):=λ_ _ _ _ _ _ _ s k v G' H' w' s'=>k v G' H' w' (s.trans s')
theorem ztv{K:W.Frag}{C:Cn}{Y:L2.St}{α:Type}{κ:zti α}(st:Stp κ){G H:Hp}{w:Wn}{Z:Ev}{fa:DAr}{g:List Arg×Ev->R α}{Q:List V->Hp->Prop}(r:Rel K C G w Z Y H)(p:zdc C.ex (κ G H w) ((fa Z).bind g))
  (k:∀ as Z1 vs G1 H1 w1,Rel K C G1 w1 Z1 Y H1->zbK G H w G1 H1 w1->ze0 K G1 Y as vs->zdc C.ex (κ G1 H1 w1) (g (as,Z1))->Q vs H1):tAr K C fa Y H Q:=by
 refine ⟨G,w,Z,r,?_⟩;cases e:fa Z with
 |ok a =>
  rw[e] at p;intro v G' H' w' s' r' q;exact k a.1 a.2 v G' H' w' r' s' q (zdc.step st s' p)
 |er n=>rw[e] at p;exact p
 |no=>rw[e] at p;exact p
def dR0:DAr:=λZ=>.ok ([],Z)
def dR(fa:De)(fr:DAr):DAr:=λZ=>(fa Z).bind λa=>(fr a.2).bind λb=>.ok (.d a.1::b.1,b.2)
def dRO(i:Nat)(fr:DAr):DAr:=λZ=>match Z[i]? with
 |some (some _)=>(fr Z).bind λb=>.ok (.s i::b.1,b.2)
 |_=>.no
section
variable{X:Cx}{C:Cn}{fa:De}{fr:DAr}{pos:Pos}
theorem zan:JAr X C [] dR0:=PA.weak zeW λY H Q ⟨G,w,Z,r,p⟩=>p _ G H w (.refl _ _ _) r rfl
theorem zac{e:Expr}{es:List Expr}(ha:JE X C e fa)(hr:JAr X C es fr)(hs:starEach (e::es) X.env=(false,eval e X.env)::starEach es X.env:=by rfl):JAr X C (e::es) (dR fa fr) :=
 PA.weak (zbY ha hr hs) λY H Q ⟨G,w,Z,r,p⟩=>by refine zeC (κ:=λG H w=>kAr X.K C Y Q G H w) zst r p λd Z1 v G1 H1 w1 r1 s1 q1 p1=>?_;refine ztv (κ:=λG H w=>kAr X.K C Y Q G H w) zst r1 p1 λas Z2 vs G2 H2 w2 r2 s2 q2 p2=>?_;exact p2 _ G2 H2 w2 (.refl _ _ _) r2 ⟨v,vs,rfl,q1.same s2.g,q2⟩
theorem ze3(i:Nat){x:Str}{ps:Pos}{es:List Expr}(hr:JAr X C es fr)(hN:X.N[i]? = some x:=by rfl)(hv:Vis X.env.scope x:=by exact xwV)(hd:(x == ("__debug__" : Str))=false:=by decide)
  (hcd:(x == ("__classdict__" : Str))=false:=by decide) (hs:starEach (.Name x ps::es) X.env=(false,eval (.Name x ps) X.env)::starEach es X.env:=by rfl):JAr X C (.Name x ps::es) (dRO i fr) :=
 PA.weak (zbY (zd9 hN hv hd hcd) hr hs) λY H Q ⟨G,w,Z,r,p⟩=>by
  unfold dRO at p;split at p
  ·rename_i b e;obtain ⟨v,h1,_⟩:=r.sl i b e;refine ⟨v,h1,?_⟩;refine ztv (κ:=λG H w=>kAr X.K C Y Q G H w) zst r p λas Z2 vs G2 H2 w2 r2 s2 q2 p2=>?_;exact p2 _ G2 H2 w2 (.refl _ _ _) r2 ⟨v,vs,rfl,h1,q2⟩
  ·exact p.elim
end
def zuT(as:List Arg)(j:Nat):Option Nat:=match as[j]? with
 |some (.s i)=>some i
 |_=>none
def zfr(i:Nat):Nat->List Arg->Option Nat
 |_,[]=>none
 |j,.s i'::r=>if i'=i then some j else zfr i (j+1) r
 |j,.d _::r=>zfr i (j+1) r
def zf3(as:List Arg)(i:Nat):Option Nat:=zfr i 0 as
def zbH(as:List Arg):Nat->List Arg->Bool
 |_,[]=>true
 |j,.s i::r=>(zf3 as i == some j) && zbH as (j+1) r
 |j,.d _::r=>zbH as (j+1) r
def zpI(as:List Arg):Bool:=zbH as 0 as
theorem zgk{as:List Arg}:∀{l:List Arg}{j k:Nat}{i:Nat},zbH as j l=true->l[k]? = some (.s i)->zf3 as i=some (j+k)
 |[],_,_,_,_,e=>by simp at e
 |.s i'::r,j,0,i,h,e=>by simp at e;subst e;unfold zbH at h;rw[Bool.and_eq_true] at h;simpa using h.1
 |.s i'::r,j,k+1,i,h,e=>by unfold zbH at h;rw[Bool.and_eq_true] at h;have:=zgk (k:=k) h.2 (by simpa using e);rw[this];congr 1;lia
 |.d x::r,j,0,i,h,e=>by simp at e
 |.d x::r,j,k+1,i,h,e=>by unfold zbH at h;have:=zgk (k:=k) h (by simpa using e);rw[this];congr 1;lia
theorem zhn{i:Nat}:∀{l:List Arg}{j m:Nat},zfr i j l=some m->∃ k,m=j+k/\l[k]? = some (.s i)
 |[],_,_,h=>by simp[zfr] at h
 |.s i'::r,j,m,h=>by
  unfold zfr at h;split at h
  ·rename_i e;subst e;cases h;exact ⟨0,rfl,rfl⟩
  ·obtain ⟨k,h1,h2⟩:=zhn h;exact ⟨k+1,xwl,by simpa using h2⟩
 |.d x::r,j,m,h=>by unfold zfr at h;obtain ⟨k,h1,h2⟩:=zhn h;exact ⟨k+1,xwl,by simpa using h2⟩
theorem ztR{as:List Arg}{i j:Nat}(h:zf3 as i=some j):as[j]? = some (.s i):=by
 obtain ⟨k,h1,h2⟩:=zhn h;have:j=k:=by lia
 subst this;exact h2
theorem zop{as:List Arg}{i j:Nat}(u:zpI as=true)(h:as[j]? = some (.s i)):zf3 as i=some j:=by have:=zgk (j:=0) u h;simpa using this
def zaM(Z:Ev):List Arg->R (List B)
 |[]=>.ok []
 |.d x::r=>(zaM Z r).bind λbs=>.ok (.val x::bs)
 |.s i::r=>match Z[i]? with
  |some (some b)=>if zsH b=true then (zaM Z r).bind λbs=>.ok (b::bs) else .no
  |_=>.no
def zjD(as:List Arg)(bs:List B):Nat->Ev->Ev
 |_,[]=>[]
 |i,o::r=>(match zf3 as i with|some j=>bs[j]?|none=>o)::zjD as bs (i+1) r
theorem zo0{as:List Arg}{bs:List B}:∀{Z:Ev}{k i:Nat},(zjD as bs k Z)[i]? = Z[i]?.map λo=>match zf3 as (k+i) with|some j=>bs[j]?|none=>o
 |[],_,_=>by simp[zjD]
 |o::r,k,0=>by simp[zjD]
 |o::r,k,i+1=>by
  have:=zo0 (as:=as) (bs:=bs) (Z:=r) (k:=k+1) (i:=i);simp only[zjD,List.getElem?_cons_succ];rw[this];have e:k+1+i=k+(i+1):=by lia
  rw[e]
theorem zo8{as:List Arg}{bs:List B}:∀{Z:Ev}{k:Nat},(zjD as bs k Z).length = Z.length
 |[],_=>rfl
 |o::r,k=>by simp[zjD,zo8 (Z:=r)]
def zai(F:FD)(fa:DAr):De:=λZ=>(fa Z).bind λa=>if zpI a.1=true then (zaM a.2 a.1).bind λbs=>(F bs).bind λz=>.ok (z.1,zjD a.1 z.2 0 a.2) else .no
theorem zf7{Z:Ev}:∀{as:List Arg}{bs:List B}{j i:Nat},zaM Z as=.ok bs->as[j]? = some (.s i)->∃ b,Z[i]? = some (some b)/\bs[j]? = some b/\zsH b=true
 |[],bs,j,i,h,e=>by simp at e
 |.d x::r,bs,j,i,h,e=>by
  unfold zaM at h;cases q:zaM Z r with
  |ok l =>
   rw[q] at h;simp only[R.bind_ok,R.ok.injEq] at h;subst h;cases j with
   |zero=>simp at e
   |succ j =>
    obtain ⟨b,h1,h2,h3⟩:=zf7 (j:=j) q (by simpa using e);exact ⟨b,h1,by simpa using h2,h3⟩
  |er n=>rw[q] at h;simp at h
  |no=>rw[q] at h;simp at h
 |.s i'::r,bs,j,i,h,e=>by
  unfold zaM at h;split at h
  ·rename_i b eb;split at h
   ·rename_i ob;cases q:zaM Z r with
    |ok l =>
     rw[q] at h;simp only[R.bind_ok,R.ok.injEq] at h;subst h;cases j with
     |zero=>simp at e;subst e;exact ⟨b,eb,rfl,ob⟩
     |succ j =>
      obtain ⟨b,h1,h2,h3⟩:=zf7 (j:=j) q (by simpa using e);exact ⟨b,h1,by simpa using h2,h3⟩
    |er n=>rw[q] at h;simp at h
    |no=>rw[q] at h;simp at h
   ·cases h
  ·cases h
theorem zfQ{Z:Ev}:∀{as:List Arg}{n:Nat},zaM Z as≠.er n
 |[],n,h=>by simp[zaM] at h
 |.d x::r,n,h=>by
  unfold zaM at h;cases q:zaM Z r with
  |ok l=>rw[q] at h;simp at h
  |er m=>exact zfQ q
  |no=>rw[q] at h;simp at h
 |.s i::r,n,h=>by
  unfold zaM at h;split at h
  ·split at h
   ·cases q:zaM Z r with
    |ok l=>rw[q] at h;simp at h
    |er m=>exact zfQ q
    |no=>rw[q] at h;simp at h
   ·cases h
  ·cases h
def wIn(w:Wn)(as:List Arg):Wn:=λb=>(w b).bind (zf3 as)
def zug(w w':Wn)(as:List Arg):Wn:=λb=>match w' b with
 |some j=>zuT as j
 |none=>if (w b).bind (zf3 as)=none then w b else none
section
variable{K:W.Frag}{C:Cn}{Y:L2.St}{G H:Hp}{w:Wn}{Z:Ev}
theorem zky(r:Rel K C G w Z Y H):∀{as l:List Arg}{vs:List V}{bs:List B}{k j:Nat}{b:B}{v:V},(∀ m i,l[m]? = some (.s i)->zf3 as i=some (k+m))->ze0 K G Y l vs->zaM Z l=.ok bs->bs[j]? = some b->vs[j]? = some v->RB K G H (wIn w as) (k+j) v b
 |as,[],vs,bs,k,j,b,v,hu,ha,hr,hb,hv=>by simp[zaM] at hr;subst hr;simp at hb
 |as,.d x::l,vs,bs,k,j,b,v,hu,ha,hr,hb,hv=>by
  obtain ⟨v0,t,rfl,h2,h3⟩:=ha;unfold zaM at hr;cases q:zaM Z l with
  |ok l' =>
   rw[q] at hr;simp only[R.bind_ok,R.ok.injEq] at hr;subst hr;cases j with
   |zero=>simp at hb hv;subst hb;subst hv;exact h2
   |succ j =>
    have:=zky r (as:=as) (k:=k+1) (j:=j) (λm i e=>by rw[hu (m+1) i (by simpa using e)];congr 1;lia) h3 q (by simpa using hb) (by simpa using hv);have e:k+1+j=k+(j+1):=by lia
    rw[e] at this;exact this
  |er n=>rw[q] at hr;simp at hr
  |no=>rw[q] at hr;simp at hr
 |as,.s i::l,vs,bs,k,j,b,v,hu,ha,hr,hb,hv=>by
  obtain ⟨v0,t,rfl,h2,h3⟩:=ha;unfold zaM at hr;split at hr
  ·rename_i b0 eb;split at hr
   ·rename_i ob;cases q:zaM Z l with
    |ok l' =>
     rw[q] at hr;simp only[R.bind_ok,R.ok.injEq] at hr;subst hr;cases j with
     |zero =>
      simp at hb hv;subst hb;subst hv;obtain ⟨v1,h4,h5⟩:=r.sl i _ eb;rw[h2] at h4;cases h4;exact h5.grow (.refl _) λa o e1 e2=>⟨e2,by unfold wIn;rw[e1];exact hu 0 i rfl⟩
     |succ j =>
      have:=zky r (as:=as) (k:=k+1) (j:=j) (λm i e=>by rw[hu (m+1) i (by simpa using e)];congr 1;lia) h3 q (by simpa using hb) (by simpa using hv);have e:k+1+j=k+(j+1):=by lia
      rw[e] at this;exact this
    |er n=>rw[q] at hr;simp at hr
    |no=>rw[q] at hr;simp at hr
   ·cases hr
  ·cases hr
theorem zhY:∀{as:List Arg}{vs:List V}{bs:List B},ze0 K G Y as vs->zaM Z as=.ok bs->bs.length=vs.length
 |[],vs,bs,ha,hr=>by simp[zaM] at hr;subst hr;cases ha;rfl
 |.d x::l,vs,bs,ha,hr=>by
  obtain ⟨v0,t,rfl,h2,h3⟩:=ha;unfold zaM at hr;cases q:zaM Z l with
  |ok l'=>rw[q] at hr;simp only[R.bind_ok,R.ok.injEq] at hr;subst hr;simp[zhY h3 q]
  |er n=>rw[q] at hr;simp at hr
  |no=>rw[q] at hr;simp at hr
 |.s i::l,vs,bs,ha,hr=>by
  obtain ⟨v0,t,rfl,h2,h3⟩:=ha;unfold zaM at hr;split at hr
  ·split at hr
   ·cases q:zaM Z l with
    |ok l'=>rw[q] at hr;simp only[R.bind_ok,R.ok.injEq] at hr;subst hr;simp[zhY h3 q]
    |er n=>rw[q] at hr;simp at hr
    |no=>rw[q] at hr;simp at hr
   ·cases hr
  ·cases hr
theorem ziB:∀{as:List Arg}{vs:List V}{j i:Nat},ze0 K G Y as vs->as[j]? = some (.s i)->∃ v,vs[j]? = some v/\Y[i]? = some (some v)
 |[],_,_,_,_,e=>by simp at e
 |.d x::l,vs,j,i,ha,e=>by
  obtain ⟨v0,t,rfl,h2,h3⟩:=ha;cases j with
  |zero=>simp at e
  |succ j=>obtain ⟨v,e1,e2⟩:=ziB (j:=j) h3 (by simpa using e);exact ⟨v,by simpa using e1,e2⟩
 |.s i'::l,vs,j,i,ha,e=>by
  obtain ⟨v0,t,rfl,h2,h3⟩:=ha;cases j with
  |zero=>simp at e;subst e;exact ⟨v0,rfl,h2⟩
  |succ j=>obtain ⟨v,e1,e2⟩:=ziB (j:=j) h3 (by simpa using e);exact ⟨v,by simpa using e1,e2⟩
theorem Rel.back{as:List Arg}{vs:List V}{bs bs':List B}{ks:List Bool}{G' H':Hp}{w':Wn}(r:Rel K C G w Z Y H)(u:zpI as=true)(ha:ze0 K G Y as vs)(hr:zaM Z as=.ok bs)(hk:zdX bs=ks)
  (s:zbK G H (wIn w as) G' H' w') (pb:zsP K G' H' w' ks bs' vs):Rel K C G' (zug w w' as) (zjD as bs' 0 Z) Y H'/\zbK G H w G' H' (zug w w' as):=by
 have wi:∀ b,wIn w as b≠none->w b≠none:=λb e z=>e (by unfold wIn;rw[z];rfl);have wi2:∀ b,w b=none->wIn w as b=none:=λb z=>by unfold wIn;rw[z];rfl
 have st:zbK G H w G' H' (zug w w' as):=by
  refine ⟨s.g,λb o e=>?_,λb o e z=>s.h b o e (wi2 b z),λb e=>?_,s.k⟩
  ·rcases s.fr b o e with q|q|q
   ·exact .inl q
   ·exact .inr (.inl q)
   ·exact .inr (.inr (wi b q))
  ·unfold zug at e;split at e
   ·rename_i j ej;rcases s.w b (by rw[ej];simp) with q|q
    ·exact .inl (wi b q)
    ·exact .inr q
   ·split at e
    ·exact .inl e
    ·exact absurd rfl e
 have keep:∀ a o,w a≠none->(w a).bind (zf3 as)=none->H a=some o->H' a=some o/\w' a=none/\G' a=none:=λa o e1 e2 e3=>by
  have e4:wIn w as a=none:=e2;have e5:=s.h a o e3 e4;have e6:w' a=none:=by
   cases q:w' a with
   |none=>rfl
   |some j =>
    rcases s.w a (by rw[q];simp) with z|z
    ·exact absurd e4 z
    ·rw[e3] at z;cases z
  refine ⟨e5,e6,?_⟩;cases q:G' a with
  |none=>rfl
  |some o' =>
   rcases s.fr a o' q with z|z|z
   ·exact absurd (r.wg a e1) z
   ·rw[e3] at z;cases z
   ·exact absurd e4 z
 refine ⟨⟨pb.gh,λb e=>?_,λb e=>?_,by rw[zo8];exact r.len,λi b e=>?_,r.en.trans st,r.pin⟩,st⟩
 ·unfold zug at e;split at e
  ·rename_i j ej;exact pb.wg b (by rw[ej];simp)
  ·split at e
   ·rename_i e2;cases q:H b with
    |none=>exact absurd q (r.wh b e)
    |some o=>exact (keep b o e e2 q).2.2
   ·exact absurd rfl e
 ·unfold zug at e;split at e
  ·rename_i j ej;exact pb.wh b (by rw[ej];simp)
  ·split at e
   ·rename_i e2;cases q:H b with
    |none=>exact absurd q (r.wh b e)
    |some o=>rw[(keep b o e e2 q).1];simp
   ·exact absurd rfl e
 ·rw[zo0,Nat.zero_add] at e;cases q:zf3 as i with
  |some j =>
   have ej:=ztR q;obtain ⟨v,e1,e2⟩:=ziB ha ej;obtain ⟨b0,h1,h2,h3⟩:=zf7 hr ej;have hkj:ks[j]? = some true:=by rw[<- hk];unfold zdX;rw[List.getElem?_map,h2];simp[h3]
   obtain ⟨b',h4,h5⟩:=pb.sl j v hkj e1;rw[h1] at e;simp only[q,Option.map_some] at e;rw[h4] at e;have e':b'=b:=by simpa using e
   subst e';refine ⟨v,e2,h5.grow (.refl _) λa o q1 q2=>⟨q2,?_⟩⟩;unfold zug zuT;rw[q1];simp only;rw[ej]
  |none =>
   cases e1:Z[i]? with
   |none=>rw[e1] at e;simp at e
   |some o0 =>
    rw[e1] at e;simp only[q,Option.map_some,Option.some.injEq] at e;subst e;obtain ⟨v,h1,h2⟩:=r.sl i b e1;refine ⟨v,h1,h2.grow s.g λa o q1 q2=>?_⟩;have z:(w a).bind (zf3 as)=none:=by rw[q1];exact q
    obtain ⟨k1,k2,_⟩:=keep a o (by rw[q1];simp) z q2;refine ⟨k1,?_⟩;unfold zug;rw[k2];simp only;rw[if_pos z];exact q1
end
section
variable{X:Cx}{C:Cn}{CX:CXT}{k:Nat}{f:Addr}{fd:FuncData}{ps:List Str}{ks:List Bool}{Fd:FD}{x:Str}{p pos:Pos}{e:Expr}{es:List Expr}{far:DAr}
theorem zrV{Y:L2.St}{H:Hp}{Q:VK}(h:tE X.K C (zai Fd far) Y H Q)(hks:∀ bs,Fd bs≠.no->zdX bs=ks):zvU (zph false X.K C.xv ks Fd) [] (EXc C) (tAr X.K C far) Y H Q:=by
 obtain ⟨G,w,Z,r,p⟩:=h;refine ztv (κ:=λG H w=>kE X.K C Y Q G H w) zcF r p λas Z1 vs G1 H1 w1 r1 s1 q1 p1=>?_;rw[List.append_nil];by_cases hu:zpI as=true
 ·simp only[hu,if_true] at p1;cases er:zaM Z1 as with
  |ok bs =>
   rw[er,R.bind_ok] at p1;have hk:zdX bs=ks:=by refine hks bs λz=>?_;rw[z] at p1;exact p1
   have hl:bs.length=vs.length:=zhY q1 er;refine ⟨G1,wIn w1 as,bs,by rw[<- hk,<- hl];simp[zdX],hk,⟨r1.gh,λb e=>r1.wg b λz=>e (by unfold wIn;rw[z];rfl),λb e=>r1.wh b λz=>e (by unfold wIn;rw[z];rfl),hl,λj b v e1 e2=>?_⟩,?_⟩
   ·have:=zky r1 (as:=as) (k:=0) (j:=j) (λm i e=>by rw[Nat.zero_add];exact zop hu e) q1 er e1 e2;rw[Nat.zero_add] at this;exact this
   ·cases ef:Fd bs with
    |ok z =>
     rw[ef,R.bind_ok] at p1;intro v G' H' w' s' pb q;obtain ⟨r',st⟩:=r1.back hu q1 er hk s' pb;exact p1 v G' H' _ st r' q
    |er n =>
     rw[ef] at p1;intro G' H' w' s';refine ⟨rfl,n,rfl,p1,G',λ_=>none,r1.en.trans ⟨s'.g,λb o e=>?_,λb o e z=>s'.h b o e (by unfold wIn;rw[z];rfl),λb e=>absurd rfl e,s'.k⟩⟩;rcases s'.fr b o e with q|q|q
     ·exact .inl q
     ·exact .inr (.inl q)
     ·exact .inr (.inr λz=>q (by unfold wIn;rw[z];rfl))
    |no=>rw[ef] at p1;exact p1.elim
  |er n=>exact absurd er zfQ
  |no=>rw[er] at p1;exact p1.elim
 ·simp only[hu] at p1;exact p1.elim
theorem zvq(F:zgi X.prog X.w X.K X.mg X.base CX k f fd ps (zph false X.K C.xv ks Fd))(hr:zgv k X.A)(hg:Gl X x)(hm:X.mg x=some (.ref f))(hk:W.keepIn X.K (.ref f)=true)(hb:zly X.K fd ps [])(hx:zep CX X (EXc C))(hks:∀ bs,Fd bs≠.no->zdX bs=ks)
  (ha:JAr X C (e::es) far) (hdb:(x == ("__debug__" : Str))=false:=by decide) (he:starEach (e::es) X.env=(false,eval e X.env)::starEach es X.env:=by rfl) (hpl:(backTo pos (starEach es X.env)).any (·.1)=false:=by rfl) :
  JE X C (.Call (.Name x p) (e::es) [] pos) (zai Fd far) :=
 PE.weak (znV F hr hg hm hk hb .nil hx ha hdb he hpl) λY H Q h=>zrV h hks
def zaZ(F:FD)(fa:DAr):DN:=λZ=>(fa Z).bind λa=>if zpI a.1=true then (zaM a.2 a.1).bind λbs=>(F bs).bind λz=>match z.1 with
  |.lst l=>.ok (l,zjD a.1 z.2 0 a.2)
  |_=>.no
 else .no
theorem zqc{Y:L2.St}{H:Hp}{Q:VK}(h:tN X.K C (zaZ Fd far) Y H Q)(hks:∀ bs,Fd bs≠.no->zdX bs=ks):zvU (zph true X.K C.xv ks Fd) [] (EXc C) (tAr X.K C far) Y H Q:=by
 obtain ⟨G,w,Z,r,p⟩:=h;refine ztv (κ:=λG H w=>kN X.K C Y Q G H w) zfG r p λas Z1 vs G1 H1 w1 r1 s1 q1 p1=>?_;rw[List.append_nil];by_cases hu:zpI as=true
 ·simp only[hu,if_true] at p1;cases er:zaM Z1 as with
  |ok bs =>
   rw[er,R.bind_ok] at p1;have hk:zdX bs=ks:=by refine hks bs λz=>?_;rw[z] at p1;exact p1
   have hl:bs.length=vs.length:=zhY q1 er;refine ⟨G1,wIn w1 as,bs,by rw[<- hk,<- hl];simp[zdX],hk,⟨r1.gh,λb e=>r1.wg b λz=>e (by unfold wIn;rw[z];rfl),λb e=>r1.wh b λz=>e (by unfold wIn;rw[z];rfl),hl,λj b v e1 e2=>?_⟩,?_⟩
   ·have:=zky r1 (as:=as) (k:=0) (j:=j) (λm i e=>by rw[Nat.zero_add];exact zop hu e) q1 er e1 e2;rw[Nat.zero_add] at this;exact this
   ·cases ef:Fd bs with
    |ok z =>
     rw[ef,R.bind_ok] at p1;intro v G' H' w' s' pb q;obtain ⟨r',st⟩:=r1.back hu q1 er hk s' pb;obtain ⟨l,pp,us,e1,e2,e3,e4,e5,e6,e7⟩:=q;subst e2;rw[e1] at p1;refine p1 pp us G' H' _ st r' e3 e4 e5 ?_ e7;have w1p:w1 pp=none:=by
      cases zz:w1 pp with
      |none=>rfl
      |some k=>exact absurd e3 (r1.wh pp (by rw[zz];simp))
     unfold zug;rw[e6,w1p];rfl
    |er n =>
     rw[ef] at p1;intro G' H' w' s';refine ⟨rfl,n,rfl,p1,G',λ_=>none,r1.en.trans ⟨s'.g,λb o e=>?_,λb o e z=>s'.h b o e (by unfold wIn;rw[z];rfl),λb e=>absurd rfl e,s'.k⟩⟩;rcases s'.fr b o e with q|q|q
     ·exact .inl q
     ·exact .inr (.inl q)
     ·exact .inr (.inr λz=>q (by unfold wIn;rw[z];rfl))
    |no=>rw[ef] at p1;exact p1.elim
  |er n=>exact absurd er zfQ
  |no=>rw[er] at p1;exact p1.elim
 ·simp only[hu] at p1;exact p1.elim
theorem zw4(F:zgi X.prog X.w X.K X.mg X.base CX k f fd ps (zph true X.K C.xv ks Fd))(hr:zgv k X.A)(hg:Gl X x)(hm:X.mg x=some (.ref f))(hk:W.keepIn X.K (.ref f)=true)(hb:zly X.K fd ps [])(hx:zep CX X (EXc C))(hks:∀ bs,Fd bs≠.no->zdX bs=ks)
  (ha:JAr X C (e::es) far) (hdb:(x == ("__debug__" : Str))=false:=by decide) (he:starEach (e::es) X.env=(false,eval e X.env)::starEach es X.env:=by rfl) (hpl:(backTo pos (starEach es X.env)).any (·.1)=false:=by rfl) :
  JN X C (.Call (.Name x p) (e::es) [] pos) (zaZ Fd far) :=
 PE.weak (znV F hr hg hm hk hb .nil hx ha hdb he hpl) λY H Q h=>zqc h hks
def zaU:List Bool->Ev->R (List B)
 |[],_=>.ok []
 |false::ks,_::Z=>(zaU ks Z).bind λl=>.ok (.val .non::l)
 |true::ks,some b::Z=>(zaU ks Z).bind λl=>.ok (b::l)
 |_,_=>.no
def zav(nw:Bool)(ks:List Bool)(m:Nat)(body:DS):FD:=λbs=>if zdX bs=ks then (body (bs.map some++List.replicate m none)).bind λa=>match a.1 with
  |.nx=>if nw=true then .no else (zaU ks a.2).bind λl=>.ok (.non,l)
  |.rt d=>(zaU ks a.2).bind λl=>.ok (d,l)
  |_=>.no
 else .no
theorem zar{nw:Bool}{ks:List Bool}{m:Nat}{body:DS}:∀ bs,zav nw ks m body bs≠.no->zdX bs=ks:=λbs h=>by
 unfold zav at h;by_cases e:zdX bs=ks
 ·exact e
 ·rw[if_neg e] at h;exact absurd rfl h
theorem zgy:∀{ks:List Bool}{Z:Ev}{l:List B}{j:Nat},zaU ks Z=.ok l->ks[j]? = some true->∃ b,l[j]? = some b/\Z[j]? = some (some b)
 |[],_,_,_,_,e=>by simp at e
 |false::ks,[],l,j,h,e=>by simp[zaU] at h
 |true::ks,[],l,j,h,e=>by simp[zaU] at h
 |false::ks,o::Z,l,j,h,e=>by
  unfold zaU at h;cases q:zaU ks Z with
  |ok l' =>
   rw[q] at h;simp only[R.bind_ok,R.ok.injEq] at h;subst h;cases j with
   |zero=>simp at e
   |succ j=>obtain ⟨b,h1,h2⟩:=zgy (j:=j) q (by simpa using e);exact ⟨b,by simpa using h1,by simpa using h2⟩
  |er n=>rw[q] at h;simp at h
  |no=>rw[q] at h;simp at h
 |true::ks,none::Z,l,j,h,e=>by simp[zaU] at h
 |true::ks,some b::Z,l,j,h,e=>by
  unfold zaU at h;cases q:zaU ks Z with
  |ok l' =>
   rw[q] at h;simp only[R.bind_ok,R.ok.injEq] at h;subst h;cases j with
   |zero=>exact ⟨b,rfl,rfl⟩
   |succ j=>obtain ⟨b,h1,h2⟩:=zgy (j:=j) q (by simpa using e);exact ⟨b,by simpa using h1,by simpa using h2⟩
  |er n=>rw[q] at h;simp at h
  |no=>rw[q] at h;simp at h
theorem zfO:∀{ks:List Bool}{Z:Ev}{n:Nat},zaU ks Z≠.er n
 |[],_,_,h=>by simp[zaU] at h
 |false::ks,[],n,h=>by simp[zaU] at h
 |true::ks,[],n,h=>by simp[zaU] at h
 |false::ks,o::Z,n,h=>by
  unfold zaU at h;cases q:zaU ks Z with
  |ok l'=>rw[q] at h;simp at h
  |er m=>exact zfO q
  |no=>rw[q] at h;simp at h
 |true::ks,none::Z,n,h=>by simp[zaU] at h
 |true::ks,some b::Z,n,h=>by
  unfold zaU at h;cases q:zaU ks Z with
  |ok l'=>rw[q] at h;simp at h
  |er m=>exact zfO q
  |no=>rw[q] at h;simp at h
def zp2(ks:List Bool):List Nat:=(List.range ks.length).filter λj=>ks[j]? == some true
def zpu(CX:CXT)(P:Program)(w:World)(K:W.Frag)(mg:Str->Option Value)(base:Heap):Prop :=
 ∀(N:List Str)(qual:Str)(scope:Scope)(f:Addr)(cdv:Value)(A:Around)(outer:List Env)(s:Shared)(H:Hp)(E E':XK),scope.kind=.function->(∀ u a H',E' u a H'->E u a H') ->
  zep CX (zrm CX P w K mg base N qual scope f cdv A outer s H E) E'
theorem za8{P:Program}{w:World}{K:W.Frag}{mg:Str->Option Value}{base:Heap}:zpu CX0 P w K mg base:=λ_ _ _ _ _ _ _ _ _ _ _ _ _ _ _ _ _ _ _ _ h=>h.elim
theorem zox{P:Program}{w:World}{K:PySem.W.Frag}{mg:Str->Option Value}{base:Heap}{xq qual:Str}{st:Stmt}{N:List Str}{xv:Nat->Value}{m:Nat}{fb:DS}(nw:Bool)(lv:zpu CX P w K mg base)(F:Fun K xq qual st f fd)(S:za0 N ps (zam st))(hl:ps.length=ks.length)(hm:N.length=ks.length+m)
  {W:Wn->Prop} (hW:∀ vs H Q E,zph nw K xv ks (zav nw ks m fb) vs H Q E->∃ G w bs,W w/\spM nw K xv ks (zav nw ks m fb) vs H Q E G w bs) (hbody:∀(X:Cx)(C:Cn),W C.w₀->(∃ cdv A outer s H E,X=zrm CX P w K mg base N qual (zam st) f cdv A outer s H E)->C.pp=zp2 ks->C.xv=xv->C.nw=nw->zgv k X.A->zep CX X (EXc C)->PassesOwn (model X.prog X.w) X.A X.env X.xe->JSs X C (zdA st) fb) :
  zgi P w K mg base CX (k+1) f fd ps (zph nw K xv ks (zav nw ks m fb)):=by
 obtain ⟨oc,od,kV,doc,pm,an,cdv,ct,osl,rfl,lk,hcd⟩:=F.ex;refine zxr lk hcd S (λvs H Q E ⟨_,_,_,h,_⟩=>h.trans hl.symm) λA outer s H vs Q E hr hsp=>?_;obtain ⟨G,w0,bs,hw,hv,hk,pr,hF⟩:=hW _ _ _ _ hsp;let X:=zrm CX P w K mg base N qual (zam st) f cdv A outer s H E;let C:Cn:=⟨G,H,w0,zp2 ks,L2.start N vs,λn=>zav nw ks m fb bs=.er n,xv,nw⟩
 have hE:∀ u a H',EXc C u a H'->E u a H':=λu a H' ⟨ea,n,eu,en,G',w',s'⟩=>by subst ea;subst eu;have en':zav nw ks m fb bs=.er n:=en;rw[en'] at hF;exact hF G' H' w' s'
 have hb:=hbody X C hw ⟨cdv,A,outer,s,H,E,rfl⟩ rfl rfl rfl hr (lv N qual (zam st) f cdv A outer s H E (EXc C) S.kind hE) PassesOwn.leaving;refine ⟨_,hb,G,w0,bs.map some++List.replicate m none,?_,?_⟩
 ·refine ⟨pr.gh,pr.wg,pr.wh,?_,λi b e=>?_,.refl _ _ _,λi _=>rfl⟩
  ·unfold L2.start;simp only[wav,wag,List.length_replicate];have:=pr.len;lia
  ·have hi:i<bs.length:=by
    by_cases hi:i<bs.length
    ·exact hi
    ·rw[List.getElem?_append_right (by simpa using hi),List.getElem?_replicate] at e;split at e <;> cases e
   rw[List.getElem?_append_left (by simpa using hi),List.getElem?_map] at e;have eb:bs[i]? = some b:=by
    cases q:bs[i]? with
    |none=>rw[q] at e;cases e
    |some z=>rw[q] at e;cases e;rfl
   have hiv:i<vs.length:=by rw[<- pr.len];exact hi
   refine ⟨vs[i],?_,pr.sl i b vs[i] eb (by simp[hiv])⟩;unfold L2.start;rw[List.getElem?_append_left (by simpa using hiv),List.getElem?_map];simp[hiv]
 ·have hF':match zav nw ks m fb bs with
   |.ok a=>∀ v G' H' w',zbK G H w0 G' H' w'->zsP K G' H' w' ks a.2 vs->RtG nw K H G' H' w' a.1 v->Q v H'
   |.er n=>∀ G' H' w',zbK G H w0 G' H' w'->E (xv n) none H'
   |.no=>False:=hF
  have er:zav nw ks m fb bs=(fb (bs.map some++List.replicate m none)).bind λa=>match a.1 with
   |.nx=>if nw=true then .no else (zaU ks a.2).bind λl=>.ok (.non,l)
   |.rt d=>(zaU ks a.2).bind λl=>.ok (d,l)
   |_=>.no:=by unfold zav;rw[if_pos hk]
  have back:∀{Z':Ev}{l:List B}{Y':L2.St}{G' H':Hp}{w':Wn},zaU ks Z'=.ok l->Rel K C G' w' Z' Y' H'->zsP K G' H' w' ks l vs:=λ{Z' l Y' G' H' w'} eb r'=>by
   refine ⟨r'.gh,r'.wg,r'.wh,λj v e1 e2=>?_⟩;obtain ⟨b,h1,h2⟩:=zgy eb e1;obtain ⟨v',h3,h4⟩:=r'.sl j b h2;have hj:j<ks.length:=(wam.mp e1).1;have hp:Y'[j]? = (L2.start N vs)[j]? := r'.pin j (by show j∈zp2 ks;unfold zp2;rw[List.mem_filter];exact ⟨List.mem_range.mpr hj,by simp[e1]⟩)
   have hs:(L2.start N vs)[j]? = some (some v):=by unfold L2.start;rw[List.getElem?_append_left (by simpa using (List.getElem?_eq_some_iff.mp e2).1),List.getElem?_map,e2];rfl
   rw[hp,hs] at h3;cases h3;exact ⟨b,h1,h4⟩
  cases ef:fb (bs.map some++List.replicate m none) with
  |ok z =>
   obtain ⟨fl,Z'⟩:=z;rw[ef,R.bind_ok] at er;cases fl with
   |nx =>
    cases nw with
    |true=>rw[er] at hF';exact hF'.elim
    |false =>
     intro Y' G' H' w' s' r';have er:zav false ks m fb bs=(zaU ks Z').bind λl=>.ok (.non,l):=er;cases eb:zaU ks Z' with
     |ok l =>
      rw[er] at hF';simp only[eb,R.bind_ok] at hF';exact hF' _ G' H' w' s' (back eb r') (by unfold RtG Rep;rfl)
     |er n=>exact absurd eb zfO
     |no=>rw[er] at hF';simp only[eb,R.bind_no] at hF'
   |rt d =>
    intro v Y' G' H' w' s' r' q;cases eb:zaU ks Z' with
    |ok l =>
     rw[er] at hF';simp only[eb,R.bind_ok] at hF';exact hF' _ G' H' w' s' (back eb r') q
    |er n=>exact absurd eb zfO
    |no=>rw[er] at hF';simp only[eb,R.bind_no] at hF'
   |bk=>rw[er] at hF';exact hF'.elim
   |ct=>rw[er] at hF';exact hF'.elim
  |er n =>
   show zav nw ks m fb bs=.er n;rw[er,ef];rfl
  |no=>rw[er,ef] at hF';exact hF'.elim
theorem za9{P:Program}{w:World}{K:PySem.W.Frag}{mg:Str->Option Value}{base:Heap}{xq qual:Str}{st:Stmt}{N:List Str}{xv:Nat->Value}{m:Nat}{fb:DS}(nw:Bool)(lv:zpu CX P w K mg base)(F:Fun K xq qual st f fd)(S:za0 N ps (zam st))(hl:ps.length=ks.length)(hm:N.length=ks.length+m)
  (hbody:∀(X:Cx)(C:Cn),(∃ cdv A outer s H E,X=zrm CX P w K mg base N qual (zam st) f cdv A outer s H E)->C.pp=zp2 ks->C.xv=xv->C.nw=nw->zgv k X.A->zep CX X (EXc C)->PassesOwn (model X.prog X.w) X.A X.env X.xe->JSs X C (zdA st) fb) :
  zgi P w K mg base CX (k+1) f fd ps (zph nw K xv ks (zav nw ks m fb)) :=
 zox nw lv F S hl hm (W:=λ_=>True) (λ_ _ _ _ ⟨G,w,bs,h⟩=>⟨G,w,bs,trivial,h⟩) λX C _=>hbody X C
theorem zsM{P:Program}{w:World}{K:PySem.W.Frag}{mg:Str->Option Value}{base:Heap}{xq qual:Str}{st:Stmt}{N:List Str}{xv:Nat->Value}{m:Nat}{fb:DS}(nw:Bool)(lv:zpu CX P w K mg base)(F:Fun K xq qual st f fd)(S:za0 N ps (zam st))(hl:ps.length=ks.length)(hm:N.length=ks.length+m)
  (hks:∀ b∈ks,b=false) (hbody:∀(X:Cx)(C:Cn),C.w₀=(λ_=>none)->(∃ cdv A outer s H E,X=zrm CX P w K mg base N qual (zam st) f cdv A outer s H E)->C.pp=zp2 ks->C.xv=xv->C.nw=nw->zgv k X.A->zep CX X (EXc C)->PassesOwn (model X.prog X.w) X.A X.env X.xe->JSs X C (zdA st) fb) :
  zgi P w K mg base CX (k+1) f fd ps (zph nw K xv ks (zav nw ks m fb)):=by
 refine zox nw lv F S hl hm (W:=λw=>w=λ_=>none) (λvs H Q E ⟨G,w0,bs,hv,hk,pr,hF⟩=>⟨G,_,bs,rfl,hv,hk,⟨pr.gh,λ_ e=>absurd rfl e,λ_ e=>absurd rfl e,pr.len,λj b v e1 e2=>?_⟩,?_⟩) hbody
 ·have hb:zsH b=false:=hks _ (by rw[<- hk];exact List.mem_map_of_mem (waH e1));have:=pr.sl j b v e1 e2;cases b <;> first|exact this|(simp[zsH] at hb)
 ·have st:∀{G' H' w'},zbK G H (λ_=>none) G' H' w'->zbK G H w0 G' H' w':=λs=>⟨s.g,λb o e=>(s.fr b o e).imp_right λz=>.inl (z.elim id λz=>absurd rfl z),λb o e _=>s.h b o e rfl,λb e=>.inr ((s.w b e).elim (λz=>absurd rfl z) id),s.k⟩
  split at hF
  ·exact λv G' H' w' s=>hF v G' H' w' (st s)
  ·exact λG' H' w' s=>hF G' H' w' (st s)
  ·exact hF
end
mutual
def zg1:Dt->PyData
 |.non=>.none
 |.bl b=>.bool b
 |.int i=>.int i
 |.str x=>.str x
 |.tup l=>.tuple (zfU l)
 |.lst l=>.list (zfU l)
 |.dct _=>.dict []
 |.scr ns=>.list (ns.map .int)
def zfU:List Dt->List PyData
 |[]=>[]
 |d::ds=>zg1 d::zfU ds
end
def okN:Nat->Dt->Bool
 |_,.non=>true
 |_,.bl _=>true
 |_,.int _=>true
 |_,.str x=>PySem.PyData.strOk x
 |0,.tup _=>false
 |0,.lst _=>false
 |n+1,.tup l=>l.all (okN n)
 |n+1,.lst l=>l.all (okN n)
 |_,.dct _=>false
 |_,.scr _=>false
mutual
def eqD:Dt->Dt->Bool
 |.non,.non=>true
 |.bl a,.bl b=>a == b
 |.bl a,.int j=>(if a then 1 else 0) == j
 |.int i,.bl b=>i == (if b then 1 else 0)
 |.int i,.int j=>i == j
 |.str x,.str y=>x == y
 |.lst xs,.lst ys=>zg6 xs ys
 |.tup xs,.tup ys=>zg6 xs ys
 |_,_=>false
def zg6:List Dt->List Dt->Bool
 |[],[]=>true
 |x::xs,y::ys=>eqD x y && zg6 xs ys
 |_,_=>false
end
theorem zlt{n:Nat}(ih:∀ d,okN n d=true->(zg1 d).canLay0=true/\(zg1 d).depth<=n):∀ l:List Dt,l.all (okN n)=true->PyData.canLayAll0 (zfU l)=true/\PyData.depthAll (zfU l)<=n
 |[],_=>by simp[zfU,PyData.canLayAll0,PyData.depthAll]
 |d::ds,h=>by simp only[List.all_cons,wae] at h;obtain ⟨h1,h2⟩:=ih d h.1;obtain ⟨h3,h4⟩:=zlt ih ds h.2;simp only[zfU,PyData.canLayAll0,PyData.depthAll,h1,h3,Bool.and_self,true_and];lia
theorem zlR:∀(n:Nat)(d:Dt),okN n d=true->(zg1 d).canLay0=true/\(zg1 d).depth<=n
 |n,.non,_=>by simp[zg1,PyData.canLay0,PyData.depth]
 |n,.bl _,_=>by simp[zg1,PyData.canLay0,PyData.depth]
 |n,.int _,_=>by simp[zg1,PyData.canLay0,PyData.depth]
 |n,.str x,h=>by
  have h:PySem.PyData.strOk x=true:=by cases n <;> simpa [okN] using h
  simp[zg1,PyData.canLay0,PyData.depth,h]
 |0,.tup _,h=>by simp[okN] at h
 |0,.lst _,h=>by simp[okN] at h
 |n+1,.tup l,h=>by obtain ⟨h1,h2⟩:=zlt (zlR n) l (by simpa [okN] using h);simp only[zg1,PyData.canLay0,PyData.depth,h1,true_and];lia
 |n+1,.lst l,h=>by obtain ⟨h1,h2⟩:=zlt (zlR n) l (by simpa [okN] using h);simp only[zg1,PyData.canLay0,PyData.depth,h1,true_and];lia
 |n,.dct _,h=>by cases n <;> simp[okN] at h
 |n,.scr _,h=>by cases n <;> simp[okN] at h
mutual
theorem zo1:∀(n:Nat)(x y:Dt),okN n x=true->okN n y=true->PyData.eqv (zg1 x) (zg1 y)=eqD x y
 |n,.non,y,h,h'=>by cases y <;> first|(cases n <;> simp[okN] at h';done)|simp[zg1,PyData.eqv,eqD]
 |n,.bl _,y,h,h'=>by cases y <;> first|(cases n <;> simp[okN] at h';done)|simp[zg1,PyData.eqv,eqD]
 |n,.int _,y,h,h'=>by cases y <;> first|(cases n <;> simp[okN] at h';done)|simp[zg1,PyData.eqv,eqD]
 |n,.str _,y,h,h'=>by cases y <;> first|(cases n <;> simp[okN] at h';done)|simp[zg1,PyData.eqv,eqD]
 |0,.tup _,y,h,h'=>by simp[okN] at h
 |0,.lst _,y,h,h'=>by simp[okN] at h
 |n+1,.tup l,y,h,h'=>by
  cases y with
  |tup l'=>simp only[zg1,PyData.eqv,eqD];exact zn5 n l l' (by simpa [okN] using h) (by simpa [okN] using h')
  |dct _=>simp[okN] at h'
  |scr _=>simp[okN] at h'
  |_=>simp[zg1,PyData.eqv,eqD]
 |n+1,.lst l,y,h,h'=>by
  cases y with
  |lst l'=>simp only[zg1,PyData.eqv,eqD];exact zn5 n l l' (by simpa [okN] using h) (by simpa [okN] using h')
  |dct _=>simp[okN] at h'
  |scr _=>simp[okN] at h'
  |_=>simp[zg1,PyData.eqv,eqD]
 |n,.dct _,y,h,h'=>by cases n <;> simp[okN] at h
 |n,.scr _,y,h,h'=>by cases n <;> simp[okN] at h
theorem zn5:∀(n:Nat)(x y:List Dt),x.all (okN n)=true->y.all (okN n)=true->PyData.eqvAll (zfU x) (zfU y)=zg6 x y
 |n,[],[],_,_=>by simp[zfU,PyData.eqvAll,zg6]
 |n,[],_::_,_,_=>by simp[zfU,PyData.eqvAll,zg6]
 |n,_::_,[],_,_=>by simp[zfU,PyData.eqvAll,zg6]
 |n,a::as,b::bs,h,h'=>by simp only[List.all_cons,wae] at h h';simp only[zfU,PyData.eqvAll,zg6];rw[zo1 n a b h.1 h'.1,zn5 n as bs h.2 h'.2]
end
section
variable{X:Cx}{pS:List (Addr×Obj)}{Y:L2.St}{H:Hp}{s:Shared}
mutual
theorem zeH(I:L2.Inv X pS Y H s):∀(n:Nat)(d:Dt)(v:V)(u:Value),okN n d=true->Rep X.K H d v->zc9 v u->∃ as,Reads s.heap u (zg1 d) as
 |n,.non,v,u,_,h,r=>by rw[ziw h] at r;cases r;exact ⟨[],by simp only[zg1];exact .none⟩
 |n,.bl b,v,u,_,h,r=>by rw[zfW h] at r;cases r;exact ⟨[],by simp only[zg1];exact .bool _⟩
 |n,.int b,v,u,_,h,r=>by rw[zaF h] at r;obtain ⟨t,rfl⟩:=r;exact ⟨[],by simp only[zg1];exact .int _ _⟩
 |n,.str b,v,u,_,h,r=>by rw[zhy h] at r;obtain ⟨t,rfl⟩:=r;exact ⟨[],by simp only[zg1];exact .str _ _⟩
 |0,.tup l,v,u,hk,h,r=>by simp[okN] at hk
 |0,.lst l,v,u,hk,h,r=>by simp[okN] at hk
 |n+1,.tup l,v,u,hk,h,r=>by obtain ⟨a,vs,rfl,h1,h2⟩:=zcr h;cases r;obtain ⟨its,rv,⟨o,e,c,k,dd⟩,_⟩:=I.tuple h1;obtain ⟨as,q⟩:=zgt I n l vs its (by simpa [okN] using hk) h2 rv;exact ⟨as,by simp only[zg1];exact .tuple e c dd (by simpa using q)⟩
 |n+1,.lst l,v,u,hk,h,r=>by obtain ⟨a,vs,rfl,h1,h2⟩:=zbg h;cases r;obtain ⟨its,rv,⟨o,k,e,c,_,dd⟩,_⟩:=I.list (SqL.of h1);obtain ⟨as,q⟩:=zgt I n l vs its (by simpa [okN] using hk) h2 rv;exact ⟨a::as,by simp only[zg1];exact .list e c dd (by simpa using q)⟩
 |n,.dct _,v,u,hk,h,r=>by cases n <;> simp[okN] at hk
 |n,.scr _,v,u,hk,h,r=>by cases n <;> simp[okN] at hk
theorem zgt(I:L2.Inv X pS Y H s):∀(n:Nat)(ds:List Dt)(vs:List V)(us:List Value),ds.all (okN n)=true->zaJ X.K H ds vs->zbs vs us->∃ as,ReadsAll s.heap us (zfU ds) as
 |n,[],vs,us,_,h,r=>by rw[h.nil_inv] at r;cases r;exact ⟨[],by simp only[zfU];exact .nil⟩
 |n,d::ds,vs,us,hk,h,r=>by
  obtain ⟨v,t,rfl,h1,h2⟩:=h.cons_inv;cases r with
  |cons r1 r2 =>
   simp only[List.all_cons,wae] at hk;obtain ⟨as,q1⟩:=zeH I n d v _ hk.1 h1 r1;obtain ⟨bs,q2⟩:=zgt I n ds t _ hk.2 h2 r2;exact ⟨as++bs,by simp only[zfU];exact .cons q1 q2⟩
end
mutual
theorem zro(I:L2.Inv X pS Y H s):∀(n:Nat)(d d':Dt)(v:V),okN n d=true->okN n d'=true->Rep X.K H d v->Rep X.K H d' v->d=d'
 |n,.non,d',v,hk,hk',h,h'=>by rw[ziw h] at h';cases d' <;> unfold Rep at h' <;> first|(obtain ⟨a,vs,z,_⟩:=h';cases z;done)|(obtain ⟨a,z,_⟩:=h';cases z;done)|(cases h';rfl)|(cases h';done)|rfl
 |n,.bl b,d',v,hk,hk',h,h'=>by rw[zfW h] at h';cases d' <;> unfold Rep at h' <;> first|(obtain ⟨a,vs,z,_⟩:=h';cases z;done)|(obtain ⟨a,z,_⟩:=h';cases z;done)|(cases h';rfl)|(cases h';done)|rfl
 |n,.int b,d',v,hk,hk',h,h'=>by rw[zaF h] at h';cases d' <;> unfold Rep at h' <;> first|(obtain ⟨a,vs,z,_⟩:=h';cases z;done)|(obtain ⟨a,z,_⟩:=h';cases z;done)|(cases h';rfl)|(cases h';done)|rfl
 |n,.str b,d',v,hk,hk',h,h'=>by rw[zhy h] at h';cases d' <;> unfold Rep at h' <;> first|(obtain ⟨a,vs,z,_⟩:=h';cases z;done)|(obtain ⟨a,z,_⟩:=h';cases z;done)|(cases h';rfl)|(cases h';done)|rfl
 |0,.tup l,d',v,hk,_,h,h'=>by simp[okN] at hk
 |0,.lst l,d',v,hk,_,h,h'=>by simp[okN] at hk
 |n+1,.tup l,d',v,hk,hk',h,h'=>by
  obtain ⟨a,vs,rfl,h1,h2⟩:=zcr h;cases d' with
  |tup l' =>
   obtain ⟨a',vs',e,h3,h4⟩:=zcr h';cases e;rw[I.tuple_inj h3 h1] at h4;rw[zkA I n l l' vs (by simpa [okN] using hk) (by simpa [okN] using hk') h2 h4]
  |lst l' =>
   obtain ⟨a',vs',e,h3,h4⟩:=zbg h';cases e;obtain ⟨its,rv,⟨o,e,c,k,dd⟩,_⟩:=I.tuple h1;obtain ⟨its',rv',⟨o',k',e',c',_,dd'⟩,_⟩:=I.list (SqL.of h3);rw[e] at e';cases e';rw[c] at c';exact absurd c' xwd
  |dct _=>simp[okN] at hk'
  |scr _=>simp[okN] at hk'
  |non=>cases ziw h'
  |bl _=>cases zfW h'
  |int _=>cases zaF h'
  |str _=>cases zhy h'
 |n+1,.lst l,d',v,hk,hk',h,h'=>by
  obtain ⟨a,vs,rfl,h1,h2⟩:=zbg h;cases d' with
  |lst l' =>
   obtain ⟨a',vs',e,h3,h4⟩:=zbg h';cases e;rw[h1] at h3;cases h3;rw[zkA I n l l' vs (by simpa [okN] using hk) (by simpa [okN] using hk') h2 h4]
  |tup l' =>
   obtain ⟨a',vs',e,h3,h4⟩:=zcr h';cases e;obtain ⟨its,rv,⟨o,e,c,k,dd⟩,_⟩:=I.tuple h3;obtain ⟨its',rv',⟨o',k',e',c',_,dd'⟩,_⟩:=I.list (SqL.of h1);rw[e] at e';cases e';rw[c] at c';exact absurd c' xwd
  |dct _=>simp[okN] at hk'
  |scr _=>simp[okN] at hk'
  |non=>cases ziw h'
  |bl _=>cases zfW h'
  |int _=>cases zaF h'
  |str _=>cases zhy h'
 |n,.dct _,d',v,hk,_,h,h'=>by cases n <;> simp[okN] at hk
 |n,.scr _,d',v,hk,_,h,h'=>by cases n <;> simp[okN] at hk
theorem zkA(I:L2.Inv X pS Y H s):∀(n:Nat)(ds ds':List Dt)(vs:List V),ds.all (okN n)=true->ds'.all (okN n)=true->zaJ X.K H ds vs->zaJ X.K H ds' vs->ds=ds'
 |n,[],ds',vs,_,_,h,h'=>by
  rw[h.nil_inv] at h';cases ds' with
  |nil=>rfl
  |cons d t=>obtain ⟨v,r,z,_⟩:=h'.cons_inv;cases z
 |n,d::ds,ds',vs,hk,hk',h,h'=>by
  obtain ⟨v,t,rfl,h1,h2⟩:=h.cons_inv;cases ds' with
  |nil=>cases h'.nil_inv
  |cons d' t' =>
   obtain ⟨v',r',z,h3,h4⟩:=h'.cons_inv;cases z;simp only[List.all_cons,wae] at hk hk';rw[zro I n d d' v hk.1 hk'.1 h1 h3,zkA I n ds t' t hk.2 hk'.2 h2 h4]
end
end
def zyR(K:W.Frag)(neg:Bool):R2:=λx y H Q=>∃ dx dy,Rep K H dx x/\Rep K H dy y/\okN 60 dx=true/\okN 60 dy=true/\Q (.bl (if neg then !eqD dx dy else eqD dx dy)) H
theorem zgO{d:Dt}(h:okN 60 d=true):SeqAt.shaped (zg1 d)=true:=by obtain ⟨h1,h2⟩:=zlR 60 d h;unfold SeqAt.shaped;rw[h1,Bool.true_and];exact wat xwl
section
variable{X:Cx}
theorem zuC(hu:X.A.units+64<cLine):OpR X (compareOp .Eq) (zyR X.K false):=by intro pS s Y H x y v u Q I rx ry h;obtain ⟨dx,dy,h1,h2,h3,h4,q⟩:=h;obtain ⟨as,ra⟩:=zeH I 60 dx x v h3 h1 rx;obtain ⟨bs,rb⟩:=zeH I 60 dy y u h4 h2 ry;exact PyProof.Rows.eq_dataH ra rb (zgO h3) (zgO h4) hu ⟨.bl (eqD dx dy),H,I,(by rw[zo1 60 dx dy h3 h4];rfl),q⟩
theorem zuG(hu:X.A.units+64<cLine):OpR X (compareOp .NotEq) (zyR X.K true):=by intro pS s Y H x y v u Q I rx ry h;obtain ⟨dx,dy,h1,h2,h3,h4,q⟩:=h;obtain ⟨as,ra⟩:=zeH I 60 dx x v h3 h1 rx;obtain ⟨bs,rb⟩:=zeH I 60 dy y u h4 h2 ry;exact PyProof.Rows.ne_dataH ra rb (zgO h3) (zgO h4) hu ⟨.bl (!eqD dx dy),H,I,(by rw[zo1 60 dx dy h3 h4];rfl),q⟩
def gEq(neg:Bool):Dt->Dt->R Dt:=λx y=>if (okN 60 x && okN 60 y)=true then .ok (.bl (if neg then !eqD x y else eqD x y)) else .no
theorem znH(neg:Bool):znk (gEq neg):=λx y n h=>by unfold gEq at h;split at h <;> cases h
theorem zqQ{K:W.Frag}(neg:Bool):Op2 K (zyR K neg) (gEq neg):=λG H x y dx dy z Q gh hx hy e k=>by
 unfold gEq at e;split at e
 ·rename_i h;rw[Bool.and_eq_true] at h;cases e;exact ⟨dx,dy,hx.same gh,hy.same gh,h.1,h.2,k _ G H (.refl gh) (by unfold Rep;rfl)⟩
 ·cases e
theorem zv5{pS:List (Addr×Obj)}{Y:L2.St}{H:Hp}{s:Shared}(I:L2.Inv X pS Y H s){A:Around}(hu:A.units+64<cLine){dx dy:Dt}{x y:V}{v u:Value}(h3:okN 60 dx=true)(h4:okN 60 dy=true)(h1:Rep X.K H dx x)(h2:Rep X.K H dy y)(rx:zc9 x v)(ry:zc9 y u) :
  SeqAt.EqAt A s v u (eqD dx dy):=by
 obtain ⟨as,ra⟩:=zeH I 60 dx x v h3 h1 rx;obtain ⟨bs,rb⟩:=zeH I 60 dy y u h4 h2 ry;obtain ⟨k1,k2⟩:=zlR 60 dx h3;obtain ⟨k3,k4⟩:=zlR 60 dy h4;have:=SeqAt.eqAt_reads (zg1 dx) (zg1 dy) A s v u as bs ra rb k1 k3 xwl;rw[zo1 60 dx dy h3 h4] at this;exact this
open Classical in
noncomputable def zl7(K:W.Frag)(H:Hp)(dx:Dt)(u:Value):Bool:=if ∃ d v,okN 60 d=true/\Rep K H d v/\zc9 v u/\eqD d dx=true then true else false
theorem zn8{pS:List (Addr×Obj)}{Y:L2.St}{H:Hp}{s:Shared}(I:L2.Inv X pS Y H s){d dx:Dt}{v:V}{u:Value}(hk:okN 60 d=true)(h:Rep X.K H d v)(r:zc9 v u):zl7 X.K H dx u=eqD d dx:=by
 unfold zl7;split
 ·rename_i q;obtain ⟨d',v',k',h',r',e'⟩:=q;have ev:v'=v:=r'.inj r;subst ev;rw[zro I 60 d d' v' hk k' h h'];exact e'.symm
 ·rename_i q;cases e:eqD d dx with
  |false=>rfl
  |true=>exact absurd ⟨d,v,hk,h,r,e⟩ q
theorem zgN{pS:List (Addr×Obj)}{Y:L2.St}{H:Hp}{s:Shared}(I:L2.Inv X pS Y H s){dx:Dt}:∀{ds:List Dt}{vs:List V}{us:List Value},ds.all (okN 60)=true->zaJ X.K H ds vs->zbs vs us->us.any (zl7 X.K H dx)=ds.any λd=>eqD d dx
 |[],vs,us,_,h,r=>by rw[h.nil_inv] at r;cases r;rfl
 |d::ds,vs,us,hk,h,r=>by
  obtain ⟨v,t,rfl,h1,h2⟩:=h.cons_inv;cases r with
  |cons r1 r2 =>
   simp only[List.all_cons,wae] at hk;simp only[List.any_cons];rw[zn8 I hk.1 h1 r1,zgN I hk.2 h2 r2]
theorem ze9{pS:List (Addr×Obj)}{Y:L2.St}{H:Hp}{s:Shared}(I:L2.Inv X pS Y H s){A:Around}(hu:A.units+64<cLine){dx:Dt}{x:V}{v:Value}(hk:okN 60 dx=true)(hx:Rep X.K H dx x)(rx:zc9 x v):∀{ds:List Dt}{vs:List V}{us:List Value},ds.all (okN 60)=true->zaJ X.K H ds vs->zbs vs us->∀ u∈us,SeqAt.EqAt A s u v (zl7 X.K H dx u)
 |[],vs,us,_,h,r,u,hu=>by rw[h.nil_inv] at r;cases r;cases hu
 |d::ds,vs,us,hks,h,r,u,hm=>by
  obtain ⟨v,t,rfl,h1,h2⟩:=h.cons_inv;cases r with
  |cons r1 r2 =>
   simp only[List.all_cons,wae] at hks;rcases wap.mp hm with rfl|hm
   ·rw[zn8 I hks.1 h1 r1];exact zv5 I hu hks.1 hk h1 hx r1 rx
   ·exact ze9 I hu hk hx rx hks.2 h2 r2 u hm
def inD(x:Dt)(l:List Dt):Bool:=l.any λd=>eqD d x
def zza(K:W.Frag)(neg:Bool):R2:=λx y H Q=>∃ dx ds,Rep K H dx x/\(Rep K H (.lst ds) y\/Rep K H (.tup ds) y)/\okN 60 dx=true/\ds.all (okN 60)=true/\Q (.bl (if neg then !inD dx ds else inD dx ds)) H
theorem ziF(A:Around):A.in1.units=A.units+1:=rfl
theorem zq4(hu:X.A.units+65<cLine):OpR X (compareOp .In) (zza X.K false):=by
 intro pS s Y H x y v u Q I rx ry h;obtain ⟨dx,ds,h1,h2,h3,h4,q⟩:=h;have hu1:X.A.in1.units+64<cLine:=by rw[ziF];lia
 rcases h2 with h2|h2
 ·obtain ⟨a,vs,rfl,k1,k2⟩:=zbg h2;cases ry;obtain ⟨its,r,pl,hz⟩:=I.list (SqL.of k1);refine SeqAt.in_listAt (zl7 X.K H dx) pl.isList (λw hw=>ze9 I hu1 h3 h1 rx h4 k2 r w (by simpa using hw)) ⟨.bl _,H,I,rfl,?_⟩;rw[show its.toArray.any (zl7 X.K H dx)=its.any (zl7 X.K H dx) by simp,zgN I h4 k2 r];exact q
 ·obtain ⟨a,vs,rfl,k1,k2⟩:=zcr h2;cases ry;obtain ⟨its,r,pl,hz⟩:=I.tuple k1;refine SeqAt.in_tupleAt (zl7 X.K H dx) pl (λw hw=>ze9 I hu1 h3 h1 rx h4 k2 r w (by simpa using hw)) ⟨.bl _,H,I,rfl,?_⟩;rw[show its.toArray.any (zl7 X.K H dx)=its.any (zl7 X.K H dx) by simp,zgN I h4 k2 r];exact q
theorem zrn(hu:X.A.units+65<cLine):OpR X (compareOp .NotIn) (zza X.K true):=by
 intro pS s Y H x y v u Q I rx ry h;obtain ⟨dx,ds,h1,h2,h3,h4,q⟩:=h;have hu1:X.A.in1.units+64<cLine:=by rw[ziF];lia
 rcases h2 with h2|h2
 ·obtain ⟨a,vs,rfl,k1,k2⟩:=zbg h2;cases ry;obtain ⟨its,r,pl,hz⟩:=I.list (SqL.of k1);refine SeqAt.notIn_listAt (zl7 X.K H dx) pl.isList (λw hw=>ze9 I hu1 h3 h1 rx h4 k2 r w (by simpa using hw)) ⟨.bl _,H,I,rfl,?_⟩;rw[show its.toArray.any (zl7 X.K H dx)=its.any (zl7 X.K H dx) by simp,zgN I h4 k2 r];exact q
 ·obtain ⟨a,vs,rfl,k1,k2⟩:=zcr h2;cases ry;obtain ⟨its,r,pl,hz⟩:=I.tuple k1;refine SeqAt.notIn_tupleAt (zl7 X.K H dx) pl (λw hw=>ze9 I hu1 h3 h1 rx h4 k2 r w (by simpa using hw)) ⟨.bl _,H,I,rfl,?_⟩;rw[show its.toArray.any (zl7 X.K H dx)=its.any (zl7 X.K H dx) by simp,zgN I h4 k2 r];exact q
def gIn(neg:Bool):Dt->Dt->R Dt:=λx y=>match y with
 |.lst ds=>if (okN 60 x && ds.all (okN 60))=true then .ok (.bl (if neg then !inD x ds else inD x ds)) else .no
 |.tup ds=>if (okN 60 x && ds.all (okN 60))=true then .ok (.bl (if neg then !inD x ds else inD x ds)) else .no
 |_=>.no
theorem zob(neg:Bool):znk (gIn neg):=λx y n h=>by
 unfold gIn at h;split at h
 ·split at h <;> cases h
 ·split at h <;> cases h
 ·cases h
theorem zqv{K:W.Frag}(neg:Bool):Op2 K (zza K neg) (gIn neg):=λG H x y dx dy z Q gh hx hy e k=>by
 unfold gIn at e;split at e
 ·split at e
  ·rename_i h;rw[Bool.and_eq_true] at h;cases e;exact ⟨dx,_,hx.same gh,.inl (hy.same gh),h.1,h.2,k _ G H (.refl gh) (by unfold Rep;rfl)⟩
  ·cases e
 ·split at e
  ·rename_i h;rw[Bool.and_eq_true] at h;cases e;exact ⟨dx,_,hx.same gh,.inr (hy.same gh),h.1,h.2,k _ G H (.refl gh) (by unfold Rep;rfl)⟩
  ·cases e
 ·cases e
end
def zd5(i:Int):Bool:=decide (-18446744073709551616<i) && decide (i<18446744073709551616)
theorem zkd{i:Int}(h:zd5 i=true):-(2 ^ 64)<i/\i<2 ^ 64:=by unfold zd5 at h;rw[Bool.and_eq_true] at h;have h1:=of_decide_eq_true h.1;have h2:=of_decide_eq_true h.2;lia
def zeL:Dt->Dt->R Dt
 |.int i,.int j=>.ok (.int (i+j))
 |_,_=>.no
def zi1:Dt->Dt->R Dt
 |.int i,.int j=>.ok (.int (i-j))
 |_,_=>.no
def zrb:Dt->Dt->R Dt
 |.int i,.int j=>if (zd5 i || zd5 j)=true then .ok (.int (i * j)) else .no
 |_,_=>.no
def zte:Dt->Dt->R Dt
 |.int i,.int j=>if 0<j/\j<1073741824 then .ok (.int (i / j)) else .no
 |_,_=>.no
def zqf:Dt->Dt->R Dt
 |.int i,.int j=>if 0<j then .ok (.int (i % j)) else .no
 |_,_=>.no
def ztX:Dt->Dt->R Dt
 |.int i,.int j=>if 0<=j/\j<=1000/\i.natAbs<18446744073709551616 then .ok (.int (i ^ j.toNat)) else .no
 |_,_=>.no
def zrl(f:Int->Int->Bool):Dt->Dt->R Dt
 |.int i,.int j=>.ok (.bl (f i j))
 |_,_=>.no
section
variable{K:W.Frag}
theorem zaN{G:Hp}(i:Int):Rep K G (.int i) (.int i):=by unfold Rep;rfl
theorem zgS{G:Hp}(b:Bool):Rep K G (.bl b) (.bl b):=by unfold Rep;rfl
theorem ztp:Op2 K (rI0 λi j=>.int (i+j)) zeL:=λG H x y dx dy z Q gh hx hy e k=>by
 unfold zeL at e;split at e
 ·cases e;exact ⟨_,_,zaF hx,zaF hy,k _ G H (.refl gh) (zaN _)⟩
 ·cases e
theorem zvh:Op2 K (rI0 λi j=>.int (i-j)) zi1:=λG H x y dx dy z Q gh hx hy e k=>by
 unfold zi1 at e;split at e
 ·cases e;exact ⟨_,_,zaF hx,zaF hy,k _ G H (.refl gh) (zaN _)⟩
 ·cases e
theorem zwq:Op2 K (rI zyX λi j=>.int (i * j)) zrb:=λG H x y dx dy z Q gh hx hy e k=>by
 unfold zrb at e;split at e
 ·split at e
  ·rename_i h;cases e;rw[Bool.or_eq_true] at h;exact ⟨_,_,zaF hx,zaF hy,h.elim (λz=>.inl (zkd z)) (λz=>.inr (zkd z)),k _ G H (.refl gh) (zaN _)⟩
  ·cases e
 ·cases e
theorem zvG:Op2 K (rI CDiv λi j=>.int (i / j)) zte:=λG H x y dx dy z Q gh hx hy e k=>by
 unfold zte at e;split at e
 ·split at e
  ·rename_i h;cases e;exact ⟨_,_,zaF hx,zaF hy,h,k _ G H (.refl gh) (zaN _)⟩
  ·cases e
 ·cases e
theorem zvp:Op2 K (rI (λ_ j=>0<j) λi j=>.int (i % j)) zqf:=λG H x y dx dy z Q gh hx hy e k=>by
 unfold zqf at e;split at e
 ·split at e
  ·rename_i h;cases e;exact ⟨_,_,zaF hx,zaF hy,h,k _ G H (.refl gh) (zaN _)⟩
  ·cases e
 ·cases e
theorem zwm:Op2 K (rI CPow λi j=>.int (i ^ j.toNat)) ztX:=λG H x y dx dy z Q gh hx hy e k=>by
 unfold ztX at e;split at e
 ·split at e
  ·rename_i h;cases e;exact ⟨_,_,zaF hx,zaF hy,⟨h.1,xwl,by have:=h.2.2;lia⟩,k _ G H (.refl gh) (zaN _)⟩
  ·cases e
 ·cases e
theorem zhx{f:Int->Int->Bool}:Op2 K (rI0 λi j=>.bl (f i j)) (zrl f):=λG H x y dx dy z Q gh hx hy e k=>by
 unfold zrl at e;split at e
 ·cases e;exact ⟨_,_,zaF hx,zaF hy,k _ G H (.refl gh) (zgS _)⟩
 ·cases e
theorem zrC:znk zeL:=λx y n h=>by unfold zeL at h;split at h <;> cases h
theorem zt3:znk zi1:=λx y n h=>by unfold zi1 at h;split at h <;> cases h
theorem ztD:znk zrb:=λx y n h=>by unfold zrb at h;split at h <;> first|cases h|(split at h <;> cases h)
theorem ztQ:znk zte:=λx y n h=>by unfold zte at h;split at h <;> first|cases h|(split at h <;> cases h)
theorem ztk:znk zqf:=λx y n h=>by unfold zqf at h;split at h <;> first|cases h|(split at h <;> cases h)
theorem zsS:znk ztX:=λx y n h=>by unfold ztX at h;split at h <;> first|cases h|(split at h <;> cases h)
theorem zfL{f:Int->Int->Bool}:znk (zrl f):=λx y n h=>by unfold zrl at h;split at h <;> cases h
end
section
variable{X:Cx}{C:Cn}{a b:Expr}{fa fb:De}{pos:Pos}
theorem zf5(ha:JE X C a fa)(hb:JE X C b fb):JE X C (.BinOp a .Add b pos) (dOp zeL fa fb):=znO zyw ztp zrC ha hb
theorem ziK(ha:JE X C a fa)(hb:JE X C b fb):JE X C (.BinOp a .Sub b pos) (dOp zi1 fa fb):=znO zyr zvh zt3 ha hb
theorem zlV(ha:JE X C a fa)(hb:JE X C b fb):JE X C (.BinOp a .Mult b pos) (dOp zrb fa fb):=znO zyF zwq ztD ha hb
theorem zup(ha:JE X C a fa)(hb:JE X C b fb):JE X C (.BinOp a .FloorDiv b pos) (dOp zte fa fb):=znO zva zvG ztQ ha hb
theorem zjX(ha:JE X C a fa)(hb:JE X C b fb):JE X C (.BinOp a .Mod b pos) (dOp zqf fa fb):=znO zxg zvp ztk ha hb
theorem zu8(ha:JE X C a fa)(hb:JE X C b fb):JE X C (.BinOp a .Pow b pos) (dOp ztX fa fb):=znO zxb zwm zsS ha hb
abbrev gLt:=zrl λi j=>decide (i<j)
abbrev gLe:=zrl λi j=>decide (i<=j)
abbrev gGt:=zrl λi j=>decide (j<i)
abbrev gGe:=zrl λi j=>decide (j<=i)
theorem zzb(ha:JE X C a fa)(hb:JE X C b fb):JE X C (.Compare a [.Lt] [b] pos) (dOp gLt fa fb):=zoP zyD zhx zfL ha hb (zfZ _)
theorem zzl(ha:JE X C a fa)(hb:JE X C b fb):JE X C (.Compare a [.LtE] [b] pos) (dOp gLe fa fb):=zoP zxf zhx zfL ha hb (zfZ _)
theorem znu(hu:X.A.units+64<cLine)(ha:JE X C a fa)(hb:JE X C b fb):JE X C (.Compare a [.Eq] [b] pos) (dOp (gEq false) fa fb):=zoP (zuC hu) (zqQ false) (znH false) ha hb (zfZ _)
theorem zwZ(hu:X.A.units+65<cLine)(ha:JE X C a fa)(hb:JE X C b fb)(hm:behindInMarks .In b=false:=by rfl):JE X C (.Compare a [.In] [b] pos) (dOp (gIn false) fa fb):=zoP (zq4 hu) (zqv false) (zob false) ha hb hm
theorem zqe(ha:JE X C a fa)(hb:JE X C b fb):JT X C (.Compare a [.Lt] [b] pos) (dTB (dOp gLt fa fb)):=zh2 zyD zhx zfL ha hb (zfZ _)
theorem zzt(ha:JE X C a fa)(hb:JE X C b fb):JT X C (.Compare a [.LtE] [b] pos) (dTB (dOp gLe fa fb)):=zh2 zxf zhx zfL ha hb (zfZ _)
theorem zp1(ha:JE X C a fa)(hb:JE X C b fb):JT X C (.Compare a [.Gt] [b] pos) (dTB (dOp gGt fa fb)):=zh2 zzE zhx zfL ha hb (zfZ _)
theorem zzG(ha:JE X C a fa)(hb:JE X C b fb):JT X C (.Compare a [.GtE] [b] pos) (dTB (dOp gGe fa fb)):=zh2 zzK zhx zfL ha hb (zfZ _)
theorem zdF(hu:X.A.units+64<cLine)(ha:JE X C a fa)(hb:JE X C b fb):JT X C (.Compare a [.Eq] [b] pos) (dTB (dOp (gEq false) fa fb)):=zh2 (zuC hu) (zqQ false) (znH false) ha hb (zfZ _)
theorem zih(hu:X.A.units+64<cLine)(ha:JE X C a fa)(hb:JE X C b fb):JT X C (.Compare a [.NotEq] [b] pos) (dTB (dOp (gEq true) fa fb)):=zh2 (zuG hu) (zqQ true) (znH true) ha hb (zfZ _)
theorem zvW(hu:X.A.units+65<cLine)(ha:JE X C a fa)(hb:JE X C b fb)(hm:behindInMarks .In b=false:=by rfl):JT X C (.Compare a [.In] [b] pos) (dTB (dOp (gIn false) fa fb)):=zh2 (zq4 hu) (zqv false) (zob false) ha hb hm
theorem zpe(hu:X.A.units+65<cLine)(ha:JE X C a fa)(hb:JE X C b fb)(hm:behindInMarks .NotIn b=false:=by rfl):JT X C (.Compare a [.NotIn] [b] pos) (dTB (dOp (gIn true) fa fb)):=zh2 (zrn hu) (zqv true) (zob true) ha hb hm
def znf(fa:De):De:=λZ=>(fa Z).bind λa=>match a.1 with
 |.int i=>.ok (.int (-i),a.2)
 |_=>.no
theorem zm4(ha:JE X C a fa):JE X C (.UnaryOp .USub a pos) (znf fa):=PE.weak (zxo zu4 ha) λY H Q ⟨G,w,Z,r,p⟩=>by
 refine zeC (κ:=λG H w=>kE X.K C Y Q G H w) zcF r p λd Z1 v G1 H1 w1 r1 s1 q1 p1=>?_;cases d with
 |int i=>exact ⟨i,zaF q1,p1 _ G1 H1 w1 (.refl _ _ _) r1 (zaN _)⟩
 |_=>exact p1.elim
end
def FnR(K:W.Frag)(r:List V->Hp->VK->Prop)(g:List Dt->R Dt):Prop:=∀(G H:Hp)(vs:List V)(ds:List Dt)(z:Dt)(Q:VK),zea G H->zaJ K G ds vs->g ds=.ok z ->
 (∀ v G' H',zfS G H G' H'->Rep K G' z v->Q v H')->r vs H Q
def FnN(K:W.Frag)(r:List V->Hp->VK->Prop)(g:List Dt->R (List Dt)):Prop:=∀(G H:Hp)(vs:List V)(ds:List Dt)(z:List Dt)(Q:VK),zea G H->zaJ K G ds vs->g ds=.ok z ->
 (∀ p zs,H p=none->zaJ K G z zs->Q (.ref p) (upd H p (.lst zs)))->r vs H Q
def zoL{α:Type}(g:List Dt->R α):Prop:=∀ x n,g x≠.er n
def dFn(g:List Dt->R Dt)(fa:DA):De:=λZ=>(fa Z).bind λa=>(g a.1).bind λz=>.ok (z,a.2)
def zem(g:List Dt->R (List Dt))(fa:DA):DN:=λZ=>(fa Z).bind λa=>(g a.1).bind λz=>.ok (z,a.2)
section
variable{X:Cx}{C:Cn}{e:Expr}{es:List Expr}{fa:DA}{p pos:Pos}{x:Str}{id T:String}{r:List V->Hp->VK->Prop}
theorem zqL{g:List Dt->R Dt}{Y:L2.St}{H:Hp}{Q:VK}(h:FnR X.K r g)(he:zoL g)(t:tE X.K C (dFn g fa) Y H Q):tCB r (tAd X.K C fa) Y H Q:=by
 obtain ⟨G,w,Z,rr,p⟩:=t;refine zxQ (κ:=λG H w=>kE X.K C Y Q G H w) zcF rr p λds Z1 vs G1 H1 w1 r1 s1 q1 p1=>?_;cases e:g ds with
 |ok z =>
  simp only[e,R.bind_ok] at p1;exact h G1 H1 vs ds z Q r1.gh q1 e λv G' H' gr q=>p1 v G' H' w1 gr.step (r1.grow gr) q
 |er n=>exact absurd e (he _ _)
 |no=>simp only[e,R.bind_no] at p1;exact p1.elim
theorem zor{g:List Dt->R (List Dt)}{Y:L2.St}{H:Hp}{Q:VK}(h:FnN X.K r g)(he:zoL g)(t:tN X.K C (zem g fa) Y H Q):tCB r (tAd X.K C fa) Y H Q:=by
 obtain ⟨G,w,Z,rr,p⟩:=t;refine zxQ (κ:=λG H w=>kN X.K C Y Q G H w) zfG rr p λds Z1 vs G1 H1 w1 r1 s1 q1 p1=>?_;cases e:g ds with
 |ok z =>
  simp only[e,R.bind_ok] at p1;refine h G1 H1 vs ds z Q r1.gh q1 e λa zs ha q=>?_;have gr:zfS G1 H1 G1 (upd H1 a (.lst zs)):=.newH r1.gh ha;exact p1 a zs G1 _ w1 gr.step (r1.grow gr) ha za5 (r1.gh.free ha) (by
   cases z:w1 a with
   |none=>rfl
   |some k=>exact absurd ha (r1.wh a (by rw[z];simp))) q
 |er n=>exact absurd e (he _ _)
 |no=>simp only[e,R.bind_no] at p1;exact p1.elim
theorem zig{g:List Dt->R Dt}(h:FnR X.K r g)(he:zoL g)(hc:zek X (.builtin id) r)(hg:Gl X x)(hm:X.mg x=none)(hv:bootBuiltins x=some (.builtin id))(ha:JA X C (e::es) fa)(hn:x≠"__name__":=by decide)(hdb:(x == ("__debug__" : Str))=false:=by decide)
  (hs:starEach (e::es) X.env=(false,eval e X.env)::starEach es X.env:=by rfl) (hpl:(backTo pos (starEach es X.env)).any (·.1)=false:=by rfl):JE X C (.Call (.Name x p) (e::es) [] pos) (dFn g fa) :=
 PE.weak (zgD hc hg hm hv ha hn hdb hs hpl) λY H Q t=>zqL h he t
theorem zs2{g:List Dt->R Dt}(h:FnR X.K r g)(he:zoL g)(hc:zek X (.type T) r)(hg:Gl X x)(hm:X.mg x=none)(hv:bootBuiltins x=some (.type T))(ha:JA X C (e::es) fa)(hn:x≠"__name__":=by decide)(hdb:(x == ("__debug__" : Str))=false:=by decide)
  (hs:starEach (e::es) X.env=(false,eval e X.env)::starEach es X.env:=by rfl) (hpl:(backTo pos (starEach es X.env)).any (·.1)=false:=by rfl):JE X C (.Call (.Name x p) (e::es) [] pos) (dFn g fa) :=
 PE.weak (ziu hc hg hm hv ha hn hdb hs hpl) λY H Q t=>zqL h he t
theorem zoz{g:List Dt->R (List Dt)}(h:FnN X.K r g)(he:zoL g)(hc:zek X (.builtin id) r)(hg:Gl X x)(hm:X.mg x=none)(hv:bootBuiltins x=some (.builtin id))(ha:JA X C (e::es) fa)(hn:x≠"__name__":=by decide)(hdb:(x == ("__debug__" : Str))=false:=by decide)
  (hs:starEach (e::es) X.env=(false,eval e X.env)::starEach es X.env:=by rfl) (hpl:(backTo pos (starEach es X.env)).any (·.1)=false:=by rfl):JN X C (.Call (.Name x p) (e::es) [] pos) (zem g fa) :=
 PE.weak (zgD hc hg hm hv ha hn hdb hs hpl) λY H Q t=>zor h he t
theorem zs7{g:List Dt->R (List Dt)}(h:FnN X.K r g)(he:zoL g)(hc:zek X (.type T) r)(hg:Gl X x)(hm:X.mg x=none)(hv:bootBuiltins x=some (.type T))(ha:JA X C (e::es) fa)(hn:x≠"__name__":=by decide)(hdb:(x == ("__debug__" : Str))=false:=by decide)
  (hs:starEach (e::es) X.env=(false,eval e X.env)::starEach es X.env:=by rfl) (hpl:(backTo pos (starEach es X.env)).any (·.1)=false:=by rfl):JN X C (.Call (.Name x p) (e::es) [] pos) (zem g fa) :=
 PE.weak (ziu hc hg hm hv ha hn hdb hs hpl) λY H Q t=>zor h he t
end
def zcb:List Dt->R Dt
 |[.lst l]=>.ok (.int l.length)
 |[.tup l]=>.ok (.int l.length)
 |[.scr l]=>.ok (.int l.length)
 |[.str x]=>if x.length<=16777216 then .ok (.int x.length) else .no
 |_=>.no
def rLen(K:W.Frag):List V->Hp->VK->Prop:=λxs H Q=>(∃ p ys,xs=[.ref p]/\(SqL K H p ys\/SqT K H p ys)/\Q (.int ys.length) H)\/∃ z,xs=[.str z]/\z.length<=sizeLine/\Q (.int z.length) H
theorem zht{K:W.Frag}{G:Hp}{d:Dt}{vs:List V}(h:zaJ K G [d] vs):∃ v,vs=[v]/\Rep K G d v:=by obtain ⟨v,r,rfl,h1,h2⟩:=h.cons_inv;rw[h2.nil_inv];exact ⟨v,rfl,h1⟩
theorem zyo{K:W.Frag}{G:Hp}{d e:Dt}{vs:List V}(h:zaJ K G [d,e] vs):∃ v u,vs=[v,u]/\Rep K G d v/\Rep K G e u:=by obtain ⟨v,r,rfl,h1,h2⟩:=h.cons_inv;obtain ⟨u,rfl,h3⟩:=zht h2;exact ⟨v,u,rfl,h1,h3⟩
theorem znR{K:W.Frag}{G:Hp}{l:List Int}{v:V}(h:Rep K G (.scr l) v):∃ a,v=.ref a/\SqL K G a (l.map V.int):=by unfold Rep at h;exact h
section
variable{K:W.Frag}
theorem zxM:FnR K (rLen K) zcb:=λG H vs ds z Q gh hr e k=>by
 unfold zcb at e;split at e
 ·obtain ⟨v,rfl,h1⟩:=zht hr;obtain ⟨a,us,rfl,h2,h3⟩:=zbg h1;cases e;exact .inl ⟨a,us,rfl,.inl (SqL.of (gh _ _ h2)),by rw[<- h3.length];exact k _ G H (.refl gh) (zaN _)⟩
 ·obtain ⟨v,rfl,h1⟩:=zht hr;obtain ⟨a,us,rfl,h2,h3⟩:=zcr h1;cases e;exact .inl ⟨a,us,rfl,.inr (zbi gh h2),by rw[<- h3.length];exact k _ G H (.refl gh) (zaN _)⟩
 ·obtain ⟨v,rfl,h1⟩:=zht hr;obtain ⟨a,rfl,h2⟩:=znR h1;cases e;exact .inl ⟨a,_,rfl,.inl (gh.seq h2),by rw[List.length_map];exact k _ G H (.refl gh) (zaN _)⟩
 ·split at e
  ·rename_i hx;obtain ⟨v,rfl,h1⟩:=zht hr;cases e;exact .inr ⟨_,by rw[zhy h1],by rw[show sizeLine=16777216 from by decide];exact hx,k _ G H (.refl gh) (zaN _)⟩
  ·cases e
 ·cases e
theorem zwV:zoL zcb:=λx n h=>by unfold zcb at h;split at h <;> first|cases h|(split at h <;> cases h)
def zjB:List Dt->R (List Dt)
 |[.lst l]=>.ok l
 |[.tup l]=>.ok l
 |_=>.no
theorem zvB:FnN K (λxs H Q=>∃ p ys,xs=[.ref p]/\(SqL K H p ys\/SqT K H p ys)/\∀ l,H l=none->Q (.ref l) (upd H l (.lst ys))) zjB:=λG H vs ds z Q gh hr e k=>by
 unfold zjB at e;split at e
 ·obtain ⟨v,rfl,h1⟩:=zht hr;obtain ⟨a,us,rfl,h2,h3⟩:=zbg h1;cases e;exact ⟨a,us,rfl,.inl (SqL.of (gh _ _ h2)),λl hl=>k l us hl h3⟩
 ·obtain ⟨v,rfl,h1⟩:=zht hr;obtain ⟨a,us,rfl,h2,h3⟩:=zcr h1;cases e;exact ⟨a,us,rfl,.inr (zbi gh h2),λl hl=>k l us hl h3⟩
 ·cases e
theorem zwz:zoL zjB:=λx n h=>by unfold zjB at h;split at h <;> cases h
def zbI:List Dt->R Dt
 |[.lst l]=>.ok (.tup l)
 |[.tup l]=>.ok (.tup l)
 |_=>.no
theorem ztq:FnR K (λxs H Q=>∃ p ys,xs=[.ref p]/\((SqL K H p ys/\∀ l,H l=none->Q (.ref l) (upd H l (.tup ys)))\/(SqT K H p ys/\Q (.ref p) H))) zbI:=λG H vs ds z Q gh hr e k=>by
 unfold zbI at e;split at e
 ·obtain ⟨v,rfl,h1⟩:=zht hr;obtain ⟨a,us,rfl,h2,h3⟩:=zbg h1;cases e;refine ⟨a,us,rfl,.inl ⟨SqL.of (gh _ _ h2),λl hl=>?_⟩⟩;have gr:zfS G H (upd G l (.tup us)) (upd H l (.tup us)):=.new gh hl;exact k _ _ _ gr (by unfold Rep;exact ⟨l,us,rfl,zne.of za5,h3.same gr.g⟩)
 ·obtain ⟨v,rfl,h1⟩:=zht hr;obtain ⟨a,us,rfl,h2,h3⟩:=zfR h1;cases e;exact ⟨a,us,rfl,.inr ⟨zbi gh h2.sq,k _ G H (.refl gh) (by unfold Rep;exact ⟨a,us,rfl,h2,h3⟩)⟩⟩
 ·cases e
theorem ztF:zoL zbI:=λx n h=>by unfold zbI at h;split at h <;> cases h
def zk2:List Dt->R Dt
 |[.int i,.int j]=>.ok (.int (if j > i then j else i))
 |_=>.no
def zk9:List Dt->R Dt
 |[.int i,.int j]=>.ok (.int (if j<i then j else i))
 |_=>.no
theorem zw7:FnR K (λxs H Q=>∃ i j,xs=[.int i,.int j]/\Q (.int (if j > i then j else i)) H) zk2:=λG H vs ds z Q gh hr e k=>by
 unfold zk2 at e;split at e
 ·obtain ⟨v,u,rfl,h1,h2⟩:=zyo hr;cases e;exact ⟨_,_,by rw[zaF h1,zaF h2],k _ G H (.refl gh) (zaN _)⟩
 ·cases e
theorem zvi:FnR K (λxs H Q=>∃ i j,xs=[.int i,.int j]/\Q (.int (if j<i then j else i)) H) zk9:=λG H vs ds z Q gh hr e k=>by
 unfold zk9 at e;split at e
 ·obtain ⟨v,u,rfl,h1,h2⟩:=zyo hr;cases e;exact ⟨_,_,by rw[zaF h1,zaF h2],k _ G H (.refl gh) (zaN _)⟩
 ·cases e
theorem zvc:zoL zk2:=λx n h=>by unfold zk2 at h;split at h <;> cases h
theorem zw9:zoL zk9:=λx n h=>by unfold zk9 at h;split at h <;> cases h
end
section
variable{X:Cx}
theorem zkZ{α:Type}{f:α->V}{g:α->Value->Prop}(h:∀ a u,zc9 (f a) u->g a u):∀{as:List α}{us:List Value}{i:Nat}{u:Value},zbs (as.map f) us->us[i]? = some u->∃ a,as[i]? = some a/\g a u
 |[],_,_,_,r,e=>by cases r;simp at e
 |a::as,_,0,u,.cons r t,e=>by simp at e;subst e;exact ⟨a,rfl,h a _ r⟩
 |a::as,_,i+1,u,.cons r t,e=>by obtain ⟨b,h1,h2⟩:=zkZ h (i:=i) t (by simpa using e);exact ⟨b,by simpa using h1,h2⟩
def ztU:List Dt->Option (List Bool)
 |[]=>some []
 |.bl b::r=>(ztU r).map (b::·)
 |_=>none
def zmV:List Dt->Option (List Int)
 |[]=>some []
 |.int b::r=>(zmV r).map (b::·)
 |_=>none
theorem zlz{K:W.Frag}{G:Hp}:∀{ds:List Dt}{vs:List V}{bs:List Int},zaJ K G ds vs->zmV ds=some bs->vs=bs.map V.int
 |[],_,_,h,e=>by rw[h.nil_inv];simp[zmV] at e;subst e;rfl
 |.int b::r,_,bs,h,e=>by obtain ⟨v,t,rfl,h1,h2⟩:=h.cons_inv;simp only[zmV,Option.map_eq_some_iff] at e;obtain ⟨bs',e1,rfl⟩:=e;rw[zaF h1,zlz h2 e1];rfl
 |.non::_,_,_,_,e=>by simp[zmV] at e
 |.bl _::_,_,_,_,e=>by simp[zmV] at e
 |.str _::_,_,_,_,e=>by simp[zmV] at e
 |.tup _::_,_,_,_,e=>by simp[zmV] at e
 |.lst _::_,_,_,_,e=>by simp[zmV] at e
 |.dct _::_,_,_,_,e=>by simp[zmV] at e
 |.scr _::_,_,_,_,e=>by simp[zmV] at e
theorem zsG(ns:List Int):zmV (ns.map .int)=some ns:=by
 induction ns with
 |nil=>rfl
 |cons n r ih=>simp[zmV,ih]
def zqk:List Int->Int
 |[]=>0
 |[a]=>a
 |a::b::r=>let m:=zqk (b::r);if m<a then m else a
theorem zmU:∀(l:List Int),l≠[]->zqk l∈l/\∀ a∈l,zqk l<=a
 |[],h=>absurd rfl h
 |[a],_=>by simp[zqk]
 |a::b::r,_=>by
  obtain ⟨h1,h2⟩:=zmU (b::r) xws;simp only[zqk];split
  ·rename_i h;refine ⟨wah _ h1,λx hx=>?_⟩;rcases wap.mp hx with rfl|hx
   ·lia
   ·exact h2 x hx
  ·rename_i h;refine ⟨wau,λx hx=>?_⟩;rcases wap.mp hx with rfl|hx
   ·lia
   ·have:=h2 x hx;lia
theorem zuI{l:List Int}{m:Int}(h1:m∈l)(h2:∀ a∈l,m<=a):m=zqk l:=by obtain ⟨h3,h4⟩:=zmU l (by intro z;subst z;cases h1);have:=h2 _ h3;have:=h4 _ h1;lia
end
section
variable{X:Cx}
theorem zs0(hc:X.calm=true):zek X (.builtin "min") (λxs H Q=>∃(p:Addr)(ns:List Int),xs=[.ref p]/\SqL X.K H p (ns.map V.int)/\ns≠[]/\Q (.int (zqk ns)) H):=by
 intro pS s Y H xs us Q I r h;obtain ⟨p,ns,rfl,hq,hne,q⟩:=h;obtain ⟨u,rfl,ru⟩:=zgF r;cases ru;obtain ⟨its,rv,pl,hz⟩:=I.list hq;have hlt:p≠s.heap.objs.size:=by obtain ⟨o,n,e,_⟩:=id pl;exact waM (wai e)
 have hlen:its.length=ns.length:=by rw[<- rv.length];simp
 have hpos:0<ns.length:=by cases ns with|nil=>exact absurd rfl hne|cons a r=>simp
 refine call_min_walk (wpAny_pyIter_list pl.isList ?_);refine ⟨s.heap.objs.size,_,_,_,_,_,_,rfl,Walks.list (A:=X.A.in1) (I.ok.hd hc) s.heap.objs.size p hlt its.toArray,⟨⟨_,waj _ rfl,rfl,rfl⟩,?_⟩,?_,(by rw[List.size_toArray,hlen];exact hpos),CmpOf.ints_lt (λi=>(ns[i]?).getD 0) (λi v hP=>?_),λv h' tk hP hk=>?_⟩
 ·obtain ⟨o,ho,hc',n,hd⟩:=pl.isList;exact ⟨o,waa _ ho,hc',n,hd⟩
 ·intro b hb;rw[Heap.size_push];obtain ⟨o,n,e,_⟩:=id pl;rcases wap.mp hb with rfl|hb
  ·exact Nat.lt_succ_self _
  ·simp at hb;subst hb;exact Nat.lt_succ_of_lt (wai e)
 ·obtain ⟨a,h1,h2⟩:=zkZ (f:=V.int) (g:=λa u=>∃ t,u=Value.int a t) (λa u z=>z) rv (i:=i) (u:=v) (by simpa using hP);simp only[h1,Option.getD_some];exact h2
 ·have hP:its.toArray[argBest (λi j=>decide (((ns[i]?).getD 0)<((ns[j]?).getD 0))) (its.toArray.size-1)]? = some v:=hP;obtain ⟨a,h1,t,rfl⟩:=zkZ (f:=V.int) (g:=λa u=>∃ t,u=Value.int a t) (λa u z=>z) rv (u:=v) (by simpa using hP);obtain ⟨k1,k2⟩:=argBest_lt (λi=>(ns[i]?).getD 0) (its.toArray.size-1);have ea:a=zqk ns:=by refine zuI (waH h1) λb hb=>?_;obtain ⟨j,hj,rfl⟩:=List.mem_iff_getElem.mp hb;have:=k2 j (by rw[List.size_toArray,hlen];lia);rw[show its.toArray.size-1=its.length-1 from by rw[List.size_toArray]] at this;simp only[h1,wac hj,Option.getD_some] at this;exact this
  subst ea;refine ⟨.int (zqk ns),H,I.kept (t':=tk) λb o e=>hk b o (λz=>?_) (waa _ e),⟨t,rfl⟩,q⟩;simp at z;exact absurd (z ▸ wai e) (waL _)
def zk6:List Dt->R Dt
 |[.lst l]=>match zmV l with
  |some (a::r)=>.ok (.int (zqk (a::r)))
  |_=>.no
 |_=>.no
theorem zw6{K:W.Frag}:FnR K (λxs H Q=>∃(p:Addr)(ns:List Int),xs=[.ref p]/\SqL K H p (ns.map V.int)/\ns≠[]/\Q (.int (zqk ns)) H) zk6:=λG H vs ds z Q gh hr e k=>by
 unfold zk6 at e;split at e
 ·split at e
  ·rename_i a r eb;obtain ⟨v,rfl,h1⟩:=zht hr;obtain ⟨ad,us,rfl,h2,h3⟩:=zbg h1;cases e;rw[zlz h3 eb] at h2;exact ⟨ad,_,rfl,SqL.of (gh _ _ h2),xws,k _ G H (.refl gh) (zaN _)⟩
  ·cases e
 ·cases e
theorem zwd:zoL zk6:=λx n h=>by unfold zk6 at h;split at h <;> first|cases h|(split at h <;> cases h)
end
def tyD:Dt->String
 |.non=>"NoneType"
 |.bl _=>"bool"
 |.int _=>"int"
 |.str _=>"str"
 |.tup _=>"tuple"
 |.lst _=>"list"
 |.dct _=>"dict"
 |.scr _=>"list"
def zyZ(t T:String):Bool:=(t == T) || (t == "bool" && T == "int")
section
variable{X:Cx}{pS:List (Addr×Obj)}{Y:L2.St}{H:Hp}{s:Shared}
theorem zxe(I:L2.Inv X pS Y H s):∀{d:Dt}{v:V}{u:Value},Rep X.K H d v->zc9 v u->∃ P:Heap->Prop,W.KitX X.K u (.type (tyD d)) P/\P s.heap/\u≠.builtin "__main__.__loader__#opaque"
 |.non,v,u,h,r=>by rw[ziw h] at r;cases r;exact ⟨_,W.kitx_none,True.intro,xws⟩
 |.bl b,v,u,h,r=>by rw[zfW h] at r;cases r;exact ⟨_,W.kitx_bool,True.intro,xws⟩
 |.int b,v,u,h,r=>by rw[zaF h] at r;obtain ⟨t,rfl⟩:=r;exact ⟨_,W.kitx_int,True.intro,xws⟩
 |.str b,v,u,h,r=>by rw[zhy h] at r;obtain ⟨t,rfl⟩:=r;exact ⟨_,W.kitx_str,True.intro,xws⟩
 |.tup l,v,u,h,r=>by obtain ⟨a,vs,rfl,h1,h2⟩:=zcr h;cases r;obtain ⟨its,rv,⟨o,e,c,k,dd⟩,_⟩:=I.tuple h1;exact ⟨_,W.kitx_tuple,⟨o,e,c⟩,xws⟩
 |.lst l,v,u,h,r=>by obtain ⟨a,vs,rfl,h1,h2⟩:=zbg h;cases r;obtain ⟨its,rv,⟨o,k,e,c,_,dd⟩,_⟩:=I.list (SqL.of h1);exact ⟨_,W.kitx_list,⟨o,e,c⟩,xws⟩
 |.dct _,v,u,h,r=>by
  unfold Rep at h;obtain ⟨a,rfl,h1⟩:=h;cases r;obtain ⟨_,_,vs,_,o,es,ep,e1,e2,_⟩:=(show zeN X.prog X.w H s.heap a (.dK _) from I.hok a _ h1)
  exact ⟨_,W.kitx_dict,⟨o,e1,e2.1⟩,xws⟩
 |.scr l,v,u,h,r=>by obtain ⟨a,rfl,h1⟩:=znR h;cases r;obtain ⟨its,rv,⟨o,k,e,c,_,dd⟩,_⟩:=I.list h1;exact ⟨_,W.kitx_list,⟨o,e,c⟩,xws⟩
end
def znT(T:String):Prop:=∀(K:W.Frag)(t:String),t∈["NoneType","bool","int","str","tuple","list","dict"]->W.kitOne K (.type t) (.type T)=some (zyZ t T)
theorem zvy(d:Dt):tyD d∈["NoneType","bool","int","str","tuple","list","dict"]:=by cases d <;> simp[tyD]
theorem zhu:znT "int":=λK t h=>by simp only[wap,wak,or_false] at h;rcases h with rfl|rfl|rfl|rfl|rfl|rfl|rfl <;> rfl
theorem zoZ:znT "bool":=λK t h=>by simp only[wap,wak,or_false] at h;rcases h with rfl|rfl|rfl|rfl|rfl|rfl|rfl <;> rfl
theorem zwH:znT "str":=λK t h=>by simp only[wap,wak,or_false] at h;rcases h with rfl|rfl|rfl|rfl|rfl|rfl|rfl <;> rfl
theorem zgQ:znT "tuple":=λK t h=>by simp only[wap,wak,or_false] at h;rcases h with rfl|rfl|rfl|rfl|rfl|rfl|rfl <;> rfl
theorem ztS:znT "list":=λK t h=>by simp only[wap,wak,or_false] at h;rcases h with rfl|rfl|rfl|rfl|rfl|rfl|rfl <;> rfl
def zhw(T:String)(fa:De):De:=λZ=>(fa Z).bind λa=>.ok (.bl (zyZ (tyD a.1) T),a.2)
section
variable{X:Cx}{C:Cn}{e:Expr}{fa:De}{p p2 pos:Pos}
theorem ztW{T:String}(ok:znT T):zek X (.builtin "isinstance") (λxs H Q=>∃ d v,xs=[v,.ty T]/\Rep X.K H d v/\Q (.bl (zyZ (tyD d) T)) H):=by intro pS s Y H xs us Q I r h;obtain ⟨d,v,rfl,h1,q⟩:=h;obtain ⟨u,w',rfl,r1,r2⟩:=ztT r;cases r2;obtain ⟨P,Zq,hp,hx⟩:=zxe I h1 r1;exact W.kia_one Zq I.kIn hp (ok X.K (tyD d) (zvy d)) hx λtk=>⟨.bl _,H,I.tok tk,rfl,q⟩
theorem zdO{T:String}{x2:Str}(ok:znT T)(hg:Gl X "isinstance")(hm:X.mg "isinstance"=none)(hv:bootBuiltins "isinstance"=some (.builtin "isinstance"))(hg2:Gl X x2)(hm2:X.mg x2=none)(hv2:bootBuiltins x2=some (.type T))(ha:JE X C e fa)
  (hn:("isinstance" : Str)≠"__name__":=by decide) (hdb:(("isinstance" : Str) == ("__debug__" : Str))=false:=by decide) (hn2:x2≠"__name__":=by decide) (hdb2:(x2 == ("__debug__" : Str))=false:=by decide)
  (hs:starEach [e,.Name x2 p2] X.env=(false,eval e X.env)::starEach [.Name x2 p2] X.env:=by rfl) (hs2:starEach [.Name x2 p2] X.env=(false,eval (.Name x2 p2) X.env)::starEach [] X.env:=by rfl) (hpl:(backTo pos (starEach [.Name x2 p2] X.env)).any (·.1)=false:=by rfl) :
  JE X C (.Call (.Name "isinstance" p) [e,.Name x2 p2] [] pos) (zhw T fa) :=
 PE.weak (zgD (ztW ok) hg hm hv (zbY ha (zbY (zw1 (v:=.ty T) hg2 hm2 hv2 rfl hn2 hdb2) zeW hs2) hs) hn hdb hs hpl) λY H Q ⟨G,w,Z,r,p⟩=>by refine zeC (κ:=λG H w=>kE X.K C Y Q G H w) zcF r p λd Z1 v G1 H1 w1 r1 s1 q1 p1=>?_;exact ⟨d,v,rfl,q1.same r1.gh,p1 _ G1 H1 w1 (.refl _ _ _) r1 (zgS _)⟩
def gIx:Dt->Dt->R Dt
 |.lst l,.int i=>match atI l i with
  |some d=>.ok d
  |none=>.no
 |.tup l,.int i=>match atI l i with
  |some d=>.ok d
  |none=>.no
 |.scr l,.int i=>match atI l i with
  |some d=>.ok (.int d)
  |none=>.no
 |_,_=>.no
theorem zvH{α β:Type}{f:α->β}{l:List α}{i:Int}{d:α}(ed:atI l i=some d):atI (l.map f) i=some (f d):=by
 unfold atI at ed ⊢;rw[List.length_map];cases q:ixN l.length i with
 |none=>rw[q] at ed;cases ed
 |some j =>
  rw[q] at ed;simp only[Option.bind_some] at ed ⊢;rw[List.getElem?_map,ed];rfl
theorem zy8{K:W.Frag}:Op2 K (λx y H Q=>rIxL K x y H Q\/rIxT K x y H Q) gIx:=λG H x y dx dy z Q gh hx hy e k=>by
 unfold gIx at e;split at e
 ·split at e
  ·rename_i d ed;cases e;obtain ⟨a,vs,rfl,h1,h2⟩:=zbg hx;obtain ⟨v,e1,e2⟩:=zlh h2 ed;exact .inl ⟨a,vs,_,v,rfl,zaF hy,SqL.of (gh _ _ h1),e1,k v G H (.refl gh) e2⟩
  ·cases e
 ·split at e
  ·rename_i d ed;cases e;obtain ⟨a,vs,rfl,h1,h2⟩:=zcr hx;obtain ⟨v,e1,e2⟩:=zlh h2 ed;exact .inr ⟨a,vs,_,v,rfl,zaF hy,zbi gh h1,e1,k v G H (.refl gh) e2⟩
  ·cases e
 ·split at e
  ·rename_i d ed;cases e;obtain ⟨a,rfl,h1⟩:=znR hx;exact .inl ⟨a,_,_,.int d,rfl,zaF hy,gh.seq h1,zvH ed,k _ G H (.refl gh) (zaN _)⟩
  ·cases e
 ·cases e
theorem zw2:znk gIx:=λx y n h=>by unfold gIx at h;split at h <;> first|cases h|(split at h <;> cases h)
theorem zaV{a b:Expr}{fa fb:De}(ha:JE X C a fa)(hb:JE X C b fb)(hs:zlu b:=by exact λ_ _=>rfl):JE X C (.Subscript a b pos) (dOp gIx fa fb) :=
 PE.weak (zwe (zog.or zxx) ha hb hs) λY H Q h=>zln zy8 zw2 h
theorem zyk{a:Expr}{fa:De}{j pos'}(ha:JE X C a fa):JE X C (.Compare a [.Is] [.Constant .none j pos'] pos) (λZ=>(fa Z).bind λd=>.ok (.bl (match d.1 with|.non=>true|_=>false),d.2)) :=
 PE.weak (zxA (zuP ha)) λY H Q ⟨G,w,Z,r,p⟩=>by
  refine zeC (κ:=λG H w=>kE X.K C Y Q G H w) zcF r p λd Z1 v G1 H1 w1 r1 s1 q1 p1=>?_;refine p1 _ G1 H1 w1 (.refl _ _ _) r1 ?_;unfold Rep;cases d <;> (unfold Rep at q1) <;> first
   | (rw[q1];rfl)
   | (obtain ⟨a,vs,z,_⟩:=q1;rw[z];rfl)
   | (obtain ⟨a,z,_⟩:=q1;rw[z];rfl)
end
theorem Rel.mutate{K:W.Frag}{C:Cn}{Y:L2.St}{G H:Hp}{w:Wn}{Z:Ev}{i:Nat}{ds ds':List Dt}{a:Addr}{vs':List V}(r:Rel K C G w Z Y H)(hi:Z[i]? = some (some (.own ds)))(hv:Y[i]? = some (some (.ref a)))(hw:w a=some i)(h':zaJ K G ds' vs') :
  Rel K C G w (Z.set i (some (.own ds'))) Y (upd H a (.lst vs'))/\zbK G H w G (upd H a (.lst vs')) w:=by
 have ga:G a=none:=r.wg a (by rw[hw];simp);have st:zbK G H w G (upd H a (.lst vs')) w:=by
  refine ⟨.refl _,λb o e=>.inl (by rw[e];simp),λb o e z=>?_,λ_ e=>.inl e,λb e=>?_⟩
  ·have:b≠a:=λq=>by subst q;rw[hw] at z;cases z
   rw[za1 this];exact e
  ·by_cases hb:b=a
   ·subst hb;rw[za5] at e;cases e
   ·rw[za1 hb] at e;exact e
 refine ⟨⟨λb o e=>?_,r.wg,λb e=>?_,by simpa using r.len,λj b e=>?_,r.en.trans st,r.pin⟩,st⟩
 ·rw[za1 (zay e ga)];exact r.gh b o e
 ·by_cases hb:b=a
  ·subst hb;rw[za5];simp
  ·rw[za1 hb];exact r.wh b e
 ·by_cases hj:j=i
  ·subst hj;rw[List.getElem?_set_self (List.getElem?_eq_some_iff.mp hi).1] at e;cases e;exact ⟨_,hv,a,vs',rfl,hw,za5,h'⟩
  ·rw[List.getElem?_set_ne (Ne.symm hj)] at e;obtain ⟨v',h1,h2⟩:=r.sl j b e;refine ⟨v',h1,h2.grow (.refl _) λb' o e1 e2=>⟨?_,e1⟩⟩;have:b'≠a:=λz=>by subst z;rw[hw] at e1;exact hj (waA e1).symm
   rw[za1 this];exact e2
section
variable{X:Cx}{C:Cn}{e:Expr}{fa:De}{pos ps apos:Pos}{x:Str}
theorem zdq{K:W.Frag}{Y:L2.St}{G H:Hp}{w:Wn}{Z:Ev}{i:Nat}{ds:List Dt}(r:Rel K C G w Z Y H)(e:Z[i]? = some (some (.own ds))):∃ a vs,Y[i]? = some (some (.ref a))/\w a=some i/\H a=some (.lst vs)/\zaJ K G ds vs:=by obtain ⟨v,h1,a,vs,rfl,h2,h3,h4⟩:=r.sl i _ e;exact ⟨a,vs,h1,h2,h3,h4⟩
def zew(i:Nat)(fa:De):De:=λZ=>match Z[i]? with
 |some (some (.own _))=>(fa Z).bind λa=>match a.2[i]? with
  |some (some (.own ds))=>if ds.length<16777216 then .ok (.non,a.2.set i (some (.own (ds++[a.1])))) else .no
  |_=>.no
 |_=>.no
theorem zdK:sizeLine=16777216:=by decide
theorem zja(i:Nat)(ha:JE X C e fa)(hN:X.N[i]? = some x:=by rfl)(hv:Vis X.env.scope x:=by exact xwV)(hd:(x == ("__debug__" : Str))=false:=by decide)(hcd:(x == ("__classdict__" : Str))=false:=by decide)
  (hbase:attributeBase (.Name x ps) "append" X.env (eval (.Name x ps) X.env)=eval (.Name x ps) X.env:=by rfl)
  (hfew:((backTo pos (starEach [e] X.env)).all (λx=>!x.1) && (backToKw pos (keywordEach [] X.env)).all (λx=>x.1.isSome) && decide ([e].length+([]:List Keyword).length+(if ([]:List Keyword).isEmpty then 0 else 1)<30))=true:=by rfl)
  (hline:(apos.endLine == pos.line)=true:=by rfl) (hs:starEach [e] X.env=(false,eval e X.env)::starEach [] X.env:=by rfl) (hplain:(backTo pos (starEach [] X.env)).any (·.1)=false:=by rfl) :
  JE X C (.Call (.Attribute (.Name x ps) "append" apos) [e] [] pos) (zew i fa) :=
 PE.weak (zq0 PySem.F.plainAttrs_list PySem.F.slot_list_append PySem.F.type_list_append zjh (zd9 hN hv hd hcd) (zbY ha zeW hs) hbase hfew hline hs hplain) λY H Q ⟨G,w,Z,r,p⟩=>by
  unfold zew at p;split at p
  ·rename_i ds0 e0;obtain ⟨a,vs,h1,h2,h3,h4⟩:=zdq r e0;refine ⟨.ref a,h1,.inl ⟨rfl,vs,SqL.of h3⟩,?_⟩;refine zeC (κ:=λG H w=>kE X.K C Y Q G H w) zcF r p λd Z1 v G1 H1 w1 r1 s1 q1 p1=>?_;dsimp only at p1;split at p1
   ·rename_i ds e1;obtain ⟨a',vs',k1,k2,k3,k4⟩:=zdq r1 e1;rw[h1] at k1;cases k1;split at p1
    ·rename_i hl;obtain ⟨r',s'⟩:=r1.mutate e1 h1 k2 (k4.append (zaJ.cons q1 zaJ.nil));exact ⟨a,vs',v,rfl,rfl,k3,by rw[<- k4.length,zdK];exact hl,p1 _ _ _ _ s' r' (by unfold Rep;rfl)⟩
    ·exact p1.elim
   ·exact p1.elim
  ·exact p.elim
def zts(ds:List Dt)(k:Int):Option (Dt×List Dt):=if zdx k=true then match ixN ds.length k with
  |some j=>match ds[j]? with
   |some d=>some (d,ds.eraseIdx j)
   |none=>none
  |none=>none
 else none
def zjS(i:Nat)(fa:De):De:=λZ=>match Z[i]? with
 |some (some (.own _))=>(fa Z).bind λa=>match a.2[i]?,a.1 with
  |some (some (.own ds)),.int k=>match zts ds k with
   |some z=>.ok (z.1,a.2.set i (some (.own z.2)))
   |none=>.no
  |_,_=>.no
 |_=>.no
theorem zsN(i:Nat)(ha:JE X C e fa)(hN:X.N[i]? = some x:=by rfl)(hv:Vis X.env.scope x:=by exact xwV)(hd:(x == ("__debug__" : Str))=false:=by decide)(hcd:(x == ("__classdict__" : Str))=false:=by decide)
  (hbase:attributeBase (.Name x ps) "pop" X.env (eval (.Name x ps) X.env)=eval (.Name x ps) X.env:=by rfl)
  (hfew:((backTo pos (starEach [e] X.env)).all (λx=>!x.1) && (backToKw pos (keywordEach [] X.env)).all (λx=>x.1.isSome) && decide ([e].length+([]:List Keyword).length+(if ([]:List Keyword).isEmpty then 0 else 1)<30))=true:=by rfl)
  (hline:(apos.endLine == pos.line)=true:=by rfl) (hs:starEach [e] X.env=(false,eval e X.env)::starEach [] X.env:=by rfl) (hplain:(backTo pos (starEach [] X.env)).any (·.1)=false:=by rfl) :
  JE X C (.Call (.Attribute (.Name x ps) "pop" apos) [e] [] pos) (zjS i fa) :=
 PE.weak (zq0 PySem.F.plainAttrs_list PySem.F.slot_list_pop PySem.F.type_list_pop zsT (zd9 hN hv hd hcd) (zbY ha zeW hs) hbase hfew hline hs hplain) λY H Q ⟨G,w,Z,r,p⟩=>by
  unfold zjS at p;split at p
  ·rename_i ds0 e0;obtain ⟨a,vs,h1,h2,h3,h4⟩:=zdq r e0;refine ⟨.ref a,h1,.inl ⟨rfl,vs,SqL.of h3⟩,?_⟩;refine zeC (κ:=λG H w=>kE X.K C Y Q G H w) zcF r p λd Z1 v G1 H1 w1 r1 s1 q1 p1=>?_;dsimp only at p1;split at p1
   ·rename_i ds k e1;obtain ⟨a',vs',k1,k2,k3,k4⟩:=zdq r1 e1;rw[h1] at k1;cases k1;split at p1
    ·rename_i z ez;unfold zts at ez;split at ez
     ·rename_i hb;split at ez
      ·rename_i j ej;split at ez
       ·rename_i d ed;cases ez;obtain ⟨j1,j2,j3,j4⟩:=zn0 ej;obtain ⟨y,y1,y2⟩:=k4.get ed;obtain ⟨r',s'⟩:=r1.mutate e1 h1 k2 (k4.eraseIdx j);have hl:=k4.length;obtain ⟨b1,b2⟩:=zdV hb;exact ⟨a,vs',k,j,y,rfl,by rw[zaF q1],k3,xwl,xwl,by rw[<- hl];exact j1,y1,p1 _ _ _ _ s' r' y2⟩
       ·cases ez
      ·cases ez
     ·cases ez
    ·exact p1.elim
   ·exact p1.elim
  ·exact p.elim
end
theorem zww{X:Cx}{pS:List (Addr×Obj)}{Y:L2.St}{H:Hp}{s:Shared}{a:Addr}{xs:List V}(I:L2.Inv X pS Y H s)(h:zne X.K H a xs):∃(its:List Value)(n:Nat),zbs xs its/\s.heap.get? a=some { cls:=.type "tuple",data:=.seq its.toArray n }/\xs.length<=sizeLine:=by
 rcases h with h|⟨its,n,h1,h2,h3⟩
 ·obtain ⟨z,its,r,n,e⟩:=(show zeN X.prog X.w H s.heap a (.tup xs) from I.hok a _ h)
  exact ⟨its,n,r,e,z⟩
 ·refine ⟨its.toList,n,h3,by simpa using I.kIn a _ h1,?_⟩;have:=h3.length;simp only[Array.length_toList] at this;lia
def zwQ(K:W.Frag):V->List V->Hp->VK->Prop:=λx vs H Q=>∃ l b xs zs,x=.ref l/\vs=[.ref b]/\H l=some (.lst xs)/\zne K H b zs/\xs.length+zs.length<=sizeLine/\Q .non (upd H l (.lst (xs++zs)))
section
variable{X:Cx}
theorem zpV:MtM X "list.extend" (zwQ X.K):=by
 intro pS s Y H x vs v us Q I rx rv h;obtain ⟨l,b,xs,zs,rfl,rfl,hH,hB,hz,q⟩:=h;cases rx;obtain ⟨u,rfl,ru⟩:=zbs.one rv;cases ru;obtain ⟨z,its,n,r,hl,e⟩:=I.lstM hH;obtain ⟨its2,n2,r2,e2,z2⟩:=zww I hB;have hl2:=r2.length;have hsz:its.toArray.size+its2.toArray.size<=sizeLine:=by rw[List.size_toArray,List.size_toArray];lia
 have hlong:¬ (!its.toArray.isEmpty && Builtin.List.listTooLong (its.toArray.size+its2.toArray.size))=true:=by rw[zkR hsz,Bool.and_false];exact Bool.false_ne_true
 refine PySem.call_meets F.slot_list_extend ⟨_,e,rfl⟩ F.entry_list_extend (F.args_list_extend_2 _ _)
  (AutoSeq1.list_extend_list_tuple_0 l its.toArray n b its2.toArray n2 hlong (by rw[List.size_toArray];lia) xwl) ⟨e,e2,?_⟩
 refine ⟨.non,_,I.lset (its':=its++its2) hH e xws (r.append r2) ?_,rfl,q⟩;rw[List.length_append];lia
theorem MtM.or{id:String}{r r':V->List V->Hp->VK->Prop}(h:MtM X id r)(h':MtM X id r'):MtM X id (λx xs H Q=>r x xs H Q\/r' x xs H Q):=by
 intro pS s Y H x xs v us Q I rx rs q;rcases q with q|q
 ·exact h pS s Y H x xs v us Q I rx rs q
 ·exact h' pS s Y H x xs v us Q I rx rs q
variable{C:Cn}{e:Expr}{fa fb:De}{pos ps apos:Pos}{x:Str}
def ziE:Dt->Option (List Dt)
 |.lst l=>some l
 |.tup l=>some l
 |_=>none
def zg7(i:Nat)(fa:De):De:=λZ=>match Z[i]? with
 |some (some (.own _))=>(fa Z).bind λa=>match a.2[i]?,ziE a.1 with
  |some (some (.own ds)),some l=>if ds.length+l.length<=16777216 then .ok (.non,a.2.set i (some (.own (ds++l)))) else .no
  |_,_=>.no
 |_=>.no
theorem zkI(i:Nat)(ha:JE X C e fa)(hN:X.N[i]? = some x:=by rfl)(hv:Vis X.env.scope x:=by exact xwV)(hd:(x == ("__debug__" : Str))=false:=by decide)(hcd:(x == ("__classdict__" : Str))=false:=by decide)
  (hbase:attributeBase (.Name x ps) "extend" X.env (eval (.Name x ps) X.env)=eval (.Name x ps) X.env:=by rfl)
  (hfew:((backTo pos (starEach [e] X.env)).all (λx=>!x.1) && (backToKw pos (keywordEach [] X.env)).all (λx=>x.1.isSome) && decide ([e].length+([]:List Keyword).length+(if ([]:List Keyword).isEmpty then 0 else 1)<30))=true:=by rfl)
  (hline:(apos.endLine == pos.line)=true:=by rfl) (hs:starEach [e] X.env=(false,eval e X.env)::starEach [] X.env:=by rfl) (hplain:(backTo pos (starEach [] X.env)).any (·.1)=false:=by rfl) :
  JE X C (.Call (.Attribute (.Name x ps) "extend" apos) [e] [] pos) (zg7 i fa) :=
 PE.weak (zq0 PySem.F.plainAttrs_list PySem.F.slot_list_extend PySem.F.type_list_extend (MtM.or zr7 zpV) (zd9 hN hv hd hcd) (zbY ha zeW hs) hbase hfew hline hs hplain) λY H Q ⟨G,w,Z,r,p⟩=>by
  unfold zg7 at p;split at p
  ·rename_i ds0 e0;obtain ⟨a,vs,h1,h2,h3,h4⟩:=zdq r e0;refine ⟨.ref a,h1,.inl ⟨rfl,vs,SqL.of h3⟩,?_⟩;refine zeC (κ:=λG H w=>kE X.K C Y Q G H w) zcF r p λd Z1 v G1 H1 w1 r1 s1 q1 p1=>?_;dsimp only at p1;split at p1
   ·rename_i ds l e1 el;obtain ⟨a',vs',k1,k2,k3,k4⟩:=zdq r1 e1;rw[h1] at k1;cases k1;split at p1
    ·rename_i hl;cases d with
     |lst l' =>
      cases el;obtain ⟨b,us,rfl,b1,b2⟩:=zbg q1;obtain ⟨r',s'⟩:=r1.mutate e1 h1 k2 (k4.append b2);exact .inl ⟨a,b,vs',us,rfl,rfl,k3,r1.gh _ _ b1,by rw[<- k4.length,<- b2.length,zdK];exact hl,p1 _ _ _ _ s' r' (by unfold Rep;rfl)⟩
     |tup l' =>
      cases el;obtain ⟨b,us,rfl,b1,b2⟩:=zfR q1;obtain ⟨r',s'⟩:=r1.mutate e1 h1 k2 (k4.append b2);exact .inr ⟨a,b,vs',us,rfl,rfl,k3,b1.same r1.gh,by rw[<- k4.length,<- b2.length,zdK];exact hl,p1 _ _ _ _ s' r' (by unfold Rep;rfl)⟩
     |_=>cases el
    ·exact p1.elim
   ·exact p1.elim
  ·exact p.elim
def zpN(i:Nat):De:=λZ=>match Z[i]? with
 |some (some (.own ds))=>.ok (.int ds.length,Z)
 |_=>.no
theorem zvg(i:Nat){p:Pos}(hg:Gl X "len")(hm:X.mg "len"=none)(hN:X.N[i]? = some x:=by rfl)(hv:Vis X.env.scope x:=by exact xwV)(hd:(x == ("__debug__" : Str))=false:=by decide)(hcd:(x == ("__classdict__" : Str))=false:=by decide)
  (hs:starEach [.Name x ps] X.env=(false,eval (.Name x ps) X.env)::starEach [] X.env:=by rfl) (hpl:(backTo pos (starEach [] X.env)).any (·.1)=false:=by rfl):JE X C (.Call (.Name "len" p) [.Name x ps] [] pos) (zpN i) :=
 PE.weak (zgD zfq hg hm PySem.boot_len (zbY (zd9 hN hv hd hcd) zeW hs) xwd xwd hs hpl) λY H Q ⟨G,w,Z,r,p⟩=>by
  unfold zpN at p;split at p
  ·rename_i ds e0;obtain ⟨a,vs,h1,h2,h3,h4⟩:=zdq r e0;exact ⟨.ref a,h1,a,vs,rfl,.inl (SqL.of h3),by rw[<- h4.length];exact p _ G H w (.refl _ _ _) r (zaN _)⟩
  ·exact p.elim
def zwP(neg:Bool)(i:Nat)(fb:De):De:=λZ=>match Z[i]? with
 |some (some (.own _))=>(fb Z).bind λb=>match b.2[i]? with
  |some (some (.own ds))=>(gEq neg (.lst ds) b.1).bind λz=>.ok (z,b.2)
  |_=>.no
 |_=>.no
theorem ztx{neg:Bool}{i:Nat}{Y:L2.St}{H:Hp}{Q:VK}(h:tE X.K C (zwP neg i fb) Y H Q):tOp (zyR X.K neg) (zz6 i) (tE X.K C fb) Y H Q:=by
 obtain ⟨G,w,Z,r,p⟩:=h;unfold zwP at p;split at p
 ·rename_i ds0 e0;obtain ⟨a,vs,h1,h2,h3,h4⟩:=zdq r e0;refine ⟨.ref a,h1,?_⟩;refine zeC (κ:=λG H w=>kE X.K C Y Q G H w) zcF r p λd Z1 v G1 H1 w1 r1 s1 q1 p1=>?_;dsimp only at p1;split at p1
  ·rename_i ds e1;obtain ⟨a',vs',k1,k2,k3,k4⟩:=zdq r1 e1;rw[h1] at k1;cases k1;unfold gEq at p1;split at p1
   ·rename_i hk;rw[Bool.and_eq_true] at hk;exact ⟨.lst ds,d,by unfold Rep;exact ⟨a,vs',rfl,k3,k4.same r1.gh⟩,q1.same r1.gh,hk.1,hk.2,p1 _ G1 H1 w1 (.refl _ _ _) r1 (zgS _)⟩
   ·exact p1.elim
  ·exact p1.elim
 ·exact p.elim
variable{b:Expr}
theorem zwS(i:Nat)(hu:X.A.units+64<cLine)(hb:JE X C b fb)(hN:X.N[i]? = some x:=by rfl)(hv:Vis X.env.scope x:=by exact xwV)(hd:(x == ("__debug__" : Str))=false:=by decide)(hcd:(x == ("__classdict__" : Str))=false:=by decide) :
  JT X C (.Compare (.Name x ps) [.NotEq] [b] pos) (dTB (zwP true i fb)):=PT.weak (zoh (zuG hu) (zd9 hN hv hd hcd) hb (zfZ _)) λY H Q h=>ztx (zli h)
def zqj(neg:Bool)(i:Nat)(fa:De):De:=λZ=>(fa Z).bind λa=>match a.2[i]? with
 |some (some (.own ds))=>(gIn neg a.1 (.lst ds)).bind λz=>.ok (z,a.2)
 |_=>.no
theorem zsR{neg:Bool}{i:Nat}{Y:L2.St}{H:Hp}{Q:VK}(h:tE X.K C (zqj neg i fa) Y H Q):tOp (zza X.K neg) (tE X.K C fa) (zz6 i) Y H Q:=by
 obtain ⟨G,w,Z,r,p⟩:=h;refine zeC (κ:=λG H w=>kE X.K C Y Q G H w) zcF r p λd Z1 v G1 H1 w1 r1 s1 q1 p1=>?_;dsimp only at p1;split at p1
 ·rename_i ds e1;obtain ⟨a,vs,k1,k2,k3,k4⟩:=zdq r1 e1;refine ⟨.ref a,k1,?_⟩;unfold gIn at p1;dsimp only at p1;by_cases hk:(okN 60 d && ds.all (okN 60))=true
  ·rw[if_pos hk] at p1;rw[Bool.and_eq_true] at hk;exact ⟨d,ds,q1.same r1.gh,.inl (by unfold Rep;exact ⟨a,vs,rfl,k3,k4.same r1.gh⟩),hk.1,hk.2,p1 _ G1 H1 w1 (.refl _ _ _) r1 (zgS _)⟩
  ·rw[if_neg hk] at p1;exact waO p1
 ·exact waO p1
theorem zuU(i:Nat)(hu:X.A.units+65<cLine)(ha:JE X C e fa)(hN:X.N[i]? = some x:=by rfl)(hv:Vis X.env.scope x:=by exact xwV)(hd:(x == ("__debug__" : Str))=false:=by decide)(hcd:(x == ("__classdict__" : Str))=false:=by decide)(hm:behindInMarks .In (.Name x ps)=false:=by rfl) :
  JT X C (.Compare e [.In] [.Name x ps] pos) (dTB (zqj false i fa)):=PT.weak (zoh (zq4 hu) ha (zd9 hN hv hd hcd) hm) λY H Q h=>zsR (zli h)
def zsx(i:Nat)(fv fk:De):DS:=λZ=>(fv Z).bind λv=>match v.2[i]? with
 |some (some (.own _))=>(fk v.2).bind λk=>match k.2[i]?,k.1 with
  |some (some (.own ds)),.int n=>match ixN ds.length n with
   |some j=>.ok (.nx,k.2.set i (some (.own (ds.set j v.1))))
   |none=>.no
  |_,_=>.no
 |_=>.no
theorem zsf(i:Nat){k:Expr}{fk:De}{tp:Pos}(hv:JE X C e fa)(hk:JE X C k fk)(hN:X.N[i]? = some x:=by rfl)(hvi:Vis X.env.scope x:=by exact xwV)(hd:(x == ("__debug__" : Str))=false:=by decide)(hcd:(x == ("__classdict__" : Str))=false:=by decide)
  (ha:∀ v,assign (.Subscript (.Name x ps) k tp) X.env v=(do
   let ov <- holding [v] (eval (.Name x ps) X.env);let iv <- holding [v,ov] (eval k X.env)
   standAt tp
   holding [v,ov,iv] (setItem ov iv v)
   release [v,ov,iv] []):=by intro _;rfl)
  (hs:swapsWithSole [.Subscript (.Name x ps) k tp] e pos.line X.env=pure false:=by rfl) (hw:swappedStores [.Subscript (.Name x ps) k tp] e X.env=pure none:=by rfl)
  (h1:(assignEach [.Subscript (.Name x ps) k tp] X.env).map (·.2)=[assign (.Subscript (.Name x ps) k tp) X.env]:=by rfl):JS X C (.Assign [.Subscript (.Name x ps) k tp] e pos) (zsx i fa fk) :=
 PS.weak (zuM hv (zwR (zd9 hN hvi hd hcd) hk zsV ha) hs hw h1) λD Y H ⟨G,w,Z,r,p⟩=>by
  refine zeC (κ:=λG H w=>kS X.K C D G H w) zfn r p λd Z1 v G1 H1 w1 r1 s1 q1 p1=>?_;dsimp only at p1;split at p1
  ·rename_i ds0 e0;obtain ⟨a,vs,k1,k2,k3,k4⟩:=zdq r1 e0;refine ⟨.ref a,k1,?_⟩;refine zeC (κ:=λG H w=>kS X.K C D G H w) zfn r1 p1 λd2 Z2 v2 G2 H2 w2 r2 s2 q2 p2=>?_;dsimp only at p2;split at p2
   ·rename_i ds n e2;obtain ⟨a',vs',m1,m2,m3,m4⟩:=zdq r2 e2;rw[k1] at m1;cases m1;split at p2
    ·rename_i j ej;obtain ⟨r',s'⟩:=r2.mutate e2 k1 m2 (zaJ.set (q1.same s2.g) j m4);exact ⟨a,vs',n,j,rfl,zaF q2,m3,by rw[<- m4.length];exact ej,p2 _ _ _ _ s' r'⟩
    ·exact waO p2
   ·exact waO p2
  ·exact waO p1
end
theorem zft{env:Env}:∀(names:List (Str×NameKind))(cs:List (Str×Addr)),(∀ y∈names,y.2=.free->∃ c,env.cells.lookup y.1=some c)->(∀ x c,cs.lookup x=some c->env.cells.lookup x=some c) ->
  ∃ cl,(forIn names cs λ(y:Str×NameKind) (r:List (Str×Addr))=>(if (y.2 == NameKind.free)=true then do let a <- cellOf env y.1;pure (ForInStep.yield ((y.1,a)::r)) else pure (ForInStep.yield r):Sem (ForInStep (List (Str×Addr)))))=pure cl /\
   (∀ x c,cl.lookup x=some c->env.cells.lookup x=some c)/\(∀ x c,cs.lookup x=some c->∃ c',cl.lookup x=some c')/\∀ y∈names,y.2=.free->∃ c,cl.lookup y.1=some c
 |[],cs,_,h2=>⟨cs,rfl,h2,λx c e=>⟨c,e⟩,λy hy=>by cases hy⟩
 | (n,k)::r,cs,h1,h2=>by
  rw[List.forIn_cons];by_cases hk:k=.free
  ·subst hk;obtain ⟨c,hc⟩:=h1 (n,.free) wau rfl;obtain ⟨cl,e1,e2,e3,e4⟩:=zft r ((n,c)::cs) (λy hy=>h1 y (wah _ hy)) (λx c' e=>by
    rw[List.lookup_cons] at e;cases hx:x == n with
    |true=>rw[hx] at e;simp only[Option.some.injEq] at e;subst e;rw[beq_iff_eq.mp hx];exact hc
    |false=>rw[hx] at e;exact h2 x c' e)
   refine ⟨cl,?_,e2,λx c' e=>?_,λy hy hf=>?_⟩
   ·simp only[beq_self_eq_true,if_true];have:cellOf env n=pure c:=by unfold cellOf;rw[hc]
    rw[this];exact e1
   ·refine (e3 x (if x == n then c else c') ?_);rw[List.lookup_cons];cases hx:x == n with
    |true=>rfl
    |false=>exact e
   ·rcases wap.mp hy with rfl|hy
    ·exact e3 n c (by simp[List.lookup_cons])
    ·exact e4 y hy hf
  ·obtain ⟨cl,e1,e2,e3,e4⟩:=zft r cs (λy hy=>h1 y (wah _ hy)) h2;refine ⟨cl,?_,e2,e3,λy hy hf=>?_⟩
   ·have:(k == NameKind.free)=false:=by simpa using hk
    simp only[this,Bool.false_eq_true,if_false];exact e1
   ·rcases wap.mp hy with rfl|hy
    ·exact absurd hf hk
    ·exact e4 y hy hf
theorem zhm{scope:Scope}{env:Env}(h:∀ y∈scope.names,y.2=.free->∃ c,env.cells.lookup y.1=some c):∃ cl,closureFor scope env=pure cl/\(∀ x c,cl.lookup x=some c->env.cells.lookup x=some c)/\∀ y∈scope.names,y.2=.free->∃ c,cl.lookup y.1=some c:=by obtain ⟨cl,e1,e2,_,e4⟩:=zft (env:=env) scope.names [] h (λx c e=>by simp at e);refine ⟨cl,?_,e2,e4⟩;unfold closureFor;exact (congrArg (λz:Sem (List (Str×Addr))=>z >>= λcs=>pure cs) e1).trans rfl
section
variable{prog:Program}{w:World}{A:Around}{R:Result->Shared->Prop}{s:Shared}
theorem zlB{elt target iter:Expr}{ifs:List Expr}{scope:Scope}{pos:Pos}{it acc:Value}{env:Env}(I:Nat->Shared->Prop)
  (turn:∀ n s,I n s->wpAny (model prog w) A (pyNext it) (λr s₁=>match r with
   |none=>R (.ok .next) s₁
   |some v=>wpAny (model prog w) A (letOwnedTupleGo target it v) (λ_ s₁'=>wpAny (model prog w) A (assign target env v) (λ_ s₂ =>
     wpAny (model prog w) A (forIn ifs true λc r=>if r=true then do let ok <- isTrue c env (eval c env);pure (ForInStep.yield ok) else pure (ForInStep.yield r)) (λok s₃ =>
      if ok=true then wpAny (model prog w) A (eval elt env) (λx s₄ =>
       wpAny (model prog w) A (call (.builtin "list.append") [acc,x]) (λ_ s₅=>∃ m,m<n/\I m s₅) (λ_ _=>False) s₄) (λ_ _=>False) s₃
      else ∃ m,m<n/\I m s₃) (λ_ _=>False) s₂) (λ_ _=>False) s₁') (λ_ _=>False) s₁) (λ_ _=>False) s)
  (n:Nat) (h:I n s) :
  codeAny (model prog w) A (.compLoop (.ListComp elt [⟨target,iter,ifs,0⟩] scope pos) 0 it acc env) R s:=by
 refine codeAny_loop rfl I (λn s hI=>?_) n h;show wpAny _ A ((compTurn (.ListComp elt [⟨target,iter,ifs,0⟩] scope pos) 0 it acc env).onRaise (λx=>do noteFrame x env;theTreesLotGoes x)) _ _ s;refine wpAny_noted ?_;rw[compTurn_list];refine wab (wpAny_standAt (wab (wpAny_mono (turn n s hI) (λr s₁ h₁=>?_) λ_ _ h'=>h'.elim)));cases r with
 |none=>exact wad h₁
 |some v =>
  refine wab (wpAny_mono h₁ (λ_ s₁' h₁'=>?_) λ_ _ h'=>h'.elim);refine wab (wpAny_mono h₁' (λ_ s₂ h₂=>wab (wpAny_mono h₂ (λok s₃ h₃=>?_) λ_ _ h'=>h'.elim)) λ_ _ h'=>h'.elim);cases ok with
  |false=>exact wad ⟨rfl,h₃⟩
  |true =>
   exact wab (wab (wpAny_mono h₃ (λx s₄ h₄=>wab (wpAny_mono h₄ (λ_ s₅ h₅=>wad (wad ⟨rfl,h₅⟩)) λ_ _ h'=>h'.elim)) λ_ _ h'=>h'.elim))
end
def zfT(X:Cx)(N':List Str)(scope:Scope)(cl:List (Str×Addr))(L:Addr)(s:Shared)(H:Hp)(fp:List Addr):Cx where
 prog:=X.prog
 w:=X.w
 K:=X.K
 mg:=X.mg
 base:=X.base
 A:=X.A
 N:=N'
 s₀:=s
 H₀:=H
 env:=compEnvC scope cl L X.env
 outer:=X.stack
 stack:=X.stack
 ex:=fp
 fn:=λx=>scope.names.lookup x == some .cell
 calm:=X.calm
 pn:=[]
 xe:=λ_ _=>False
def zhJ(C:Cn)(n:Nat)(G H:Hp)(w:Wn)(Y:L2.St):Cn:=⟨G,H,w,List.range n,Y,λ_=>False,C.xv,false⟩
def zhH(N N':List Str)(names:List (Str×NameKind))(m:Nat):Bool:=decide (N'.length=N.length+m) && (List.range N.length).all λi=>match N'[i]? with
 |some x=>match names.lookup x with
  |some .free=>N[i]? == some x
  |some .local=>false
  |some .cell=>false
  |_=>true
 |none=>false
theorem zcQ{env:Env}{x:Str}:∀{names:List (Str×NameKind)},(names.map λ(n,k)=>if (k == NameKind.free && env.scope.kind == .function && env.kindOf n == some .cell) then (n,NameKind.cell) else (n,k)).lookup x=(names.lookup x).map λk=>if (k == NameKind.free && env.scope.kind == .function && env.kindOf x == some .cell)=true then .cell else k
 |[]=>rfl
 | (n,k)::r=>by
  have ih:=zcQ (env:=env) (x:=x) (names:=r);show List.lookup x ((if (k == NameKind.free && env.scope.kind == .function && env.kindOf n == some .cell)=true then (n,NameKind.cell) else (n,k))::_)=_;cases hx:x == n with
  |true =>
   have e:=beq_iff_eq.mp hx;subst e;simp only[List.lookup_cons,beq_self_eq_true,Option.map_some];split <;> simp[List.lookup_cons]
  |false =>
   simp only[List.lookup_cons,hx];split
   ·simp only[List.lookup_cons,hx];exact ih
   ·simp only[List.lookup_cons,hx];exact ih
theorem zcK{α β:Type} [BEq α] [LawfulBEq α] {x:α} {b:β}:∀{l:List (α×β)},l.lookup x=some b->(x,b)∈l
 |[],h=>by simp at h
 | (n,k)::r,h=>by
  rw[List.lookup_cons] at h;cases hx:x == n with
  |true=>rw[hx] at h;simp at h;subst h;rw[beq_iff_eq.mp hx];exact wau
  |false=>rw[hx] at h;exact wah _ (zcK h)
theorem ziS{scope:Scope}{env:Env}{x:Str}(h:Vis (relabel scope env) x):scope.names.lookup x=some .local\/scope.names.lookup x=some .cell\/scope.names.lookup x=some .free:=by
 have e:(relabel scope env).names.lookup x=_:=zcQ (env:=env) (x:=x) (names:=scope.names);unfold Vis at h;rw[e] at h;cases q:scope.names.lookup x with
 |none=>rw[q] at h;simp at h
 |some k =>
  rw[q] at h;cases k <;> simp_all
abbrev Hcu(scope:Scope):Prop:=∀ y∈scope.names,y.2=.cell->scope.names.lookup y.1=some .cell
theorem zla{x:Str}{c:Addr}:∀(names:List (Str×NameKind))(n:Nat)(acc:List (Str×Addr)),(cellsFrom n names acc).lookup x=some c->(acc.lookup x=some c/\(x,NameKind.cell)∉names)\/((x,NameKind.cell)∈names/\n<=c)
 |[],n,acc,h=>.inl ⟨h,xws⟩
 | (y,k)::r,n,acc,h=>by
  unfold cellsFrom at h;by_cases hk:(k == NameKind.cell)=true
  ·rw[if_pos hk] at h;have hk':=eq_of_beq hk;subst hk';rcases zla r (n+1) _ h with ⟨h1,h2⟩|⟨h1,h2⟩
   ·rw[List.lookup_cons] at h1;by_cases hx:(x == y)=true
    ·rw[hx] at h1;cases h1;rw[beq_iff_eq.mp hx];exact .inr ⟨wau,wal _⟩
    ·simp only[hx] at h1;refine .inl ⟨h1,λz=>?_⟩;rcases wap.mp z with z|z
     ·cases z;exact hx xws
     ·exact h2 z
   ·exact .inr ⟨wah _ h1,xwo⟩
  ·rw[if_neg hk] at h;rcases zla r n _ h with ⟨h1,h2⟩|⟨h1,h2⟩
   ·refine .inl ⟨h1,λz=>?_⟩;rcases wap.mp z with z|z
    ·cases z;exact hk xws
    ·exact h2 z
   ·exact .inr ⟨wah _ h1,h2⟩
theorem zqH{x:Str}:∀(names:List (Str×NameKind))(n:Nat)(acc:List (Str×Addr)),(x,NameKind.cell)∉names->(cellsFrom n names acc).lookup x=acc.lookup x
 |[],n,acc,_=>rfl
 | (y,k)::r,n,acc,h=>by
  unfold cellsFrom;have hr:(x,NameKind.cell)∉r:=λz=>h (wah _ z);by_cases hk:(k == NameKind.cell)=true
  ·rw[if_pos hk,zqH r _ _ hr,List.lookup_cons];have hk':=eq_of_beq hk;subst hk';have:(x == y)=false:=by
    cases hx:x == y with
    |false=>rfl
    |true=>rw[beq_iff_eq.mp hx] at h;exact absurd wau h
   rw[this]
  ·rw[if_neg hk];exact zqH r _ _ hr
theorem zqO:∀(names:List (Str×NameKind))(n:Nat)(acc:List (Str×Addr)),(∀ x c,acc.lookup x=some c->c<n)->(∀ x y c,acc.lookup x=some c->acc.lookup y=some c->x=y)->∀ x y c,(cellsFrom n names acc).lookup x=some c->(cellsFrom n names acc).lookup y=some c->x=y
 |[],n,acc,_,h=>h
 | (z,k)::r,n,acc,hl,hi=>by
  unfold cellsFrom;by_cases hk:(k == NameKind.cell)=true
  ·rw[if_pos hk];have one:∀ x c,((z,n)::acc).lookup x=some c->(x=z/\c=n)\/(acc.lookup x=some c/\c<n):=λx c e=>by
    rw[List.lookup_cons] at e;by_cases hx:(x == z)=true
    ·rw[hx] at e;cases e;exact .inl ⟨beq_iff_eq.mp hx,rfl⟩
    ·simp only[hx] at e;exact .inr ⟨e,hl x c e⟩
   refine zqO r (n+1) _ (λx c e=>?_) λx y c e1 e2=>?_
   ·rcases one x c e with ⟨_,h⟩|⟨_,h⟩
    ·rw[h];exact Nat.lt_succ_self _
    ·exact Nat.lt_succ_of_lt h
   ·rcases one x c e1 with ⟨rfl,h1⟩|⟨h1,h1'⟩ <;> rcases one y c e2 with ⟨rfl,h2⟩|⟨h2,h2'⟩
    ·rfl
    ·exact absurd h2' (by rw[h1];exact waL _)
    ·exact absurd h1' (by rw[h2];exact waL _)
    ·exact hi x y c h1 h2
  ·rw[if_neg hk];exact zqO r n acc hl hi
theorem zok{x:Str}{c:Addr}:∀(names:List (Str×NameKind))(h:Heap)(acc:List (Str×Addr)),(cellsFrom h.objs.size names acc).lookup x=some c->acc.lookup x=some c\/(pushCells h names).IsCell c none
 |[],h,acc,e=>.inl e
 | (y,k)::r,h,acc,e=>by
  unfold cellsFrom at e;unfold pushCells;by_cases hk:(k == NameKind.cell)=true
  ·rw[if_pos hk] at e ⊢;have ez:h.objs.size+1=(h.push { cls:=.type "cell",data:=.cell none }).objs.size:=(Heap.size_push ..).symm;rw[ez] at e;rcases zok r _ _ e with z|z
   ·rw[List.lookup_cons] at z;by_cases hx:(x == y)=true
    ·rw[hx] at z;cases z;exact .inr ⟨_,pushCells_keeps _ _ _ _ (waj _ rfl),rfl⟩
    ·simp only[hx] at z;exact .inl z
   ·exact .inr z
  ·rw[if_neg hk] at e ⊢;exact zok r h acc e
section
variable{X:Cx}{C:Cn}
theorem zqr{pS:List (Addr×Obj)}{Y:L2.St}{H:Hp}{s:Shared}{N':List Str}{scope:Scope}{cl:List (Str×Addr)}{m:Nat}{fp:List Addr}{h₁:Heap}{tk:Nat}{mm:Str->Option Value}(I:L2.Inv X pS Y H s)(hf:∀ b∈fp,zgP X pS H b)(ho:∀ b∈fp,∃ o,s.heap.get? b=some o)
  (hb:zhH X.N N' scope.names m=true) (hkind:scope.kind=.function) (hcell:Hcu scope) (hfr:∀ y∈scope.names,y.2=.free->X.env.kindOf y.1=some .cell\/X.env.kindOf y.1=some .free)
  (hcl:∀ x c,cl.lookup x=some c->X.env.cells.lookup x=some c) (hcf:∀ y∈scope.names,y.2=.free->∃ c,cl.lookup y.1=some c)
  (hce:∀ x c,(cellsFrom (s.heap.objs.size+1) scope.names cl).lookup x=some c->cl.lookup x=some c\/h₁.IsCell c none) (hns:h₁.Ns s.heap.objs.size mm) (hk:∀ b o,s.heap.get? b=some o->h₁.get? b=some o) :
  L2.Inv (zfT X N' scope (cellsFrom (s.heap.objs.size+1) scope.names cl) s.heap.objs.size s H fp) [] (Y++List.replicate m none) H { s with heap:=h₁,toks:=tk }:=by
 have hb1:N'.length=X.N.length+m:=by unfold zhH at hb;rw[Bool.and_eq_true] at hb;exact of_decide_eq_true hb.1
 have hb2:∀ i x,i<X.N.length->N'[i]? = some x->Vis (relabel scope X.env) x->X.N[i]? = some x/\scope.names.lookup x=some .free:=λi x hi e v=>by
  unfold zhH at hb;rw[Bool.and_eq_true,List.all_eq_true] at hb;have q:=hb.2 i (List.mem_range.mpr hi);simp only[e] at q;rcases ziS v with z|z|z
  ·simp[z] at q
  ·simp[z] at q
  ·simp[z] at q;exact ⟨q,z⟩
 have cellK:∀ c v,s.heap.IsCell c v->h₁.IsCell c v:=λc v ⟨o,e1,e2⟩=>⟨o,hk c o e1,e2⟩
 have lt:∀ x c,cl.lookup x=some c->c<s.heap.objs.size:=λx c e=>by obtain ⟨v,ic⟩:=I.cell x c (hcl x c e);exact ic.lt
 have inj:=zqO scope.names (s.heap.objs.size+1) cl (λx c e=>Nat.lt_succ_of_lt (lt x c e)) λx y c h1 h2=>I.ok.inj x y c (hcl x c h1) (hcl y c h2);have look:∀ x c,(cellsFrom (s.heap.objs.size+1) scope.names cl).lookup x=some c->cl.lookup x=some c\/s.heap.objs.size+1<=c:=λx c e=>(zla _ _ _ e).imp (λz=>z.1) λz=>z.2;refine ⟨⟨I.ok.mod,hkind,I.ok.glob,I.ok.blt,wal _,inj,λx hx=>?_,λx c h e=>?_,I.ok.hd,I.ok.frames,.inl rfl,λb hb=>⟨?_,λx c e=>?_⟩,I.bs,waN I.ok.bsz I.sz,λb o e hb=>?_,λb hb z=>?_,I.stack,I.stkFree⟩,
  rfl,I.bare,Un.kept hk,⟨mm,hns,λi x v e1 e2 e3=>?_⟩,λx c e=>?_,I.hok.fresh (wal _),λx c e=>?_,λp hp=>absurd hp (by simp[zfT]),I.hok.kept hk,?_⟩
 ·
  have e:(relabel scope X.env).names.lookup x=_:=zcQ (env:=X.env) (x:=x) (names:=scope.names);have hx':Vis (relabel scope X.env) x:=hx.elim (λz=>.inr (.inl z)) λz=>.inr (.inr z);rcases ziS hx' with z|z|z
  ·rw[z] at e;have hx2:(relabel scope X.env).names.lookup x=some .cell\/(relabel scope X.env).names.lookup x=some .free:=hx;rw[e] at hx2;simp at hx2
  ·exact Option.isSome_iff_exists.mp (W.cellsFrom_some _ _ _ (.inl z))
  ·exact Option.isSome_iff_exists.mp (W.cellsFrom_some _ _ _ (.inr (Option.isSome_iff_exists.mpr (hcf _ (zcK z) rfl))))
 ·have h':scope.names.lookup x=some .cell:=eq_of_beq h;rcases zla _ _ _ e with z|z
  ·exact absurd (zcK h') z.2
  ·exact Nat.le_of_succ_le z.2
 ·intro z;obtain ⟨o,e⟩:=ho b hb;exact absurd (wai e) (by rw[z];exact waL _)
 ·rcases look x c e with z|z
  ·exact (hf b hb).2.2.2.2.1 x c (hcl x c z)
  ·intro q;obtain ⟨o,e'⟩:=ho b hb;have:=wai e';rw[<- q] at this;exact absurd this (Nat.not_lt.mpr (Nat.le_of_succ_le z))
 ·rcases (hf b hb).2.2.2.1 with z|z
  ·exact I.ok.noex b o e z
  ·exact absurd (was (wai e) (waN I.ok.bsz z)) (waL _)
 ·rcases wap.mp (I.stkSub b z) with z|z
  ·exact (hf b hb).2.1 z
  ·exact (hf b hb).2.2.1 z
 ·have hi:i<X.N.length:=by
   by_cases hi:i<X.N.length
   ·exact hi
   ·rw[List.getElem?_append_right (by rw[I.len];lia),List.getElem?_replicate] at e2;split at e2 <;> cases e2
  rw[List.getElem?_append_left (by rw[I.len];exact hi)] at e2;obtain ⟨q1,q2⟩:=hb2 i x hi e1 e3;have hm:=zcK q2;obtain ⟨m0,hn0,hl0⟩:=I.loc;have kc:=hfr _ hm rfl;obtain ⟨u,ru,lk⟩:=hl0 i x v q1 e2 (kc.elim (λz=>.inr (.inl z)) λz=>.inr (.inr z));refine ⟨u,ru,.inr ⟨?_,?_⟩⟩
  ·have e:(relabel scope X.env).names.lookup x=_:=zcQ (env:=X.env) (x:=x) (names:=scope.names);show (relabel scope X.env).names.lookup x=some .cell\/(relabel scope X.env).names.lookup x=some .free;rw[e,q2];simp only[Option.map_some];split
   ·exact .inl rfl
   ·exact .inr rfl
  ·obtain ⟨c,hc⟩:=hcf _ hm rfl;have hno:(x,NameKind.cell)∉scope.names:=λz=>by have:=hcell _ z rfl;rw[q2] at this;cases this
   refine ⟨c,(zqH _ _ _ hno).trans hc,?_⟩;rcases lk with ⟨z,_⟩|⟨_,c',e',ic⟩
   ·rcases kc with y|y <;> (rw[y] at z;cases z)
   ·rw[hcl _ _ hc] at e';cases e';exact cellK _ _ ic
 ·rcases hce x c e with z|z
  ·obtain ⟨v,ic⟩:=I.cell x c (hcl x c z);exact ⟨v,cellK _ _ ic⟩
  ·exact ⟨none,z⟩
 ·rcases look x c e with z|z
  ·exact I.freeC x c (hcl x c z)
  ·exact I.hok.fresh xwo
 ·show _=N'.length;rw[List.length_append,List.length_replicate,I.len,hb1]
theorem zwk{pS:List (Addr×Obj)}{Y Y':L2.St}{H H':Hp}{s s':Shared}{N':List Str}{scope:Scope}{cl:List (Str×Addr)}{fp:List Addr}{L:Addr}{h':Heap}{ps:List (Addr×Obj)}(I:L2.Inv X pS Y H s)(hf:∀ b∈fp,zgP X pS H b)(hL:s.heap.objs.size<=L)
  (J:L2.Inv (zfT X N' scope cl L s H fp) ps Y' H' s') (hs:Heap.SameBut L s'.heap h'):L2.Inv X pS Y H' { s' with heap:=h' }:=by
 have hne:∀ b o,s.heap.get? b=some o->b≠L:=λb o e z=>by subst z;exact absurd (was (wai e) hL) (waL _)
 have hfree:H' L=none:=J.free;have un:Un (frs X.stack) fp H H' s.heap s'.heap:=J.base;refine I.call' (s':={ s' with heap:=h' }) (ch:=fp) J.os ⟨λb o e n h1 h2=>?_,λb o e n h1 h2=>?_,un.free,λb o e h2=>?_,un.tups,un.frzs,un.tbls⟩ (λb o e=>?_) J.bare λb hb=>⟨(hf b hb).2.2.2.1,(hf b hb).2.1,(hf b hb).2.2.2.2.1,(hf b hb).2.2.2.2.2⟩
 ·exact (hs.2 b (hne b o e)).trans (un.keep b o e n h1 h2)
 ·obtain ⟨sl,q⟩:=un.slot b o e n h1 h2;exact ⟨sl,(hs.2 b (hne b o e)).trans q⟩
 ·obtain ⟨o',q⟩:=un.there b o e h2;exact ⟨o',(hs.2 b (hne b o e)).trans q⟩
 ·refine (J.hok b o e).stay (λc v hc q=>(hs.2 c ?_).trans q) (λ_ q=>q) λ_ _ q=>q;intro z;subst z;rcases hc with z|z
  ·subst z;rw[hfree] at e;cases e
  ·rw[hfree] at z;cases z
end
def zc8(g:DG)(ft:DT)(fe:De):List Dt->Ev->R (List Dt×Ev)
 |[],Z=>.ok ([],Z)
 |d::r,Z=>(g d Z).bind λZ1=>(ft Z1).bind λt=>if t.1=true then (fe t.2).bind λy=>(zc8 g ft fe r y.2).bind λz=>.ok (y.1::z.1,z.2) else zc8 g ft fe r t.2
def zbh(fi:DA)(g:DG)(ft:DT)(fe:De)(m:Nat):DN:=λZ=>(fi Z).bind λa=>if zia a.1=true then match zc8 g ft fe a.1 (a.2++List.replicate m none) with
  |.ok z=>.ok (z.1,z.2.take a.2.length)
  |_=>.no
 else .no
theorem zdQ{α β:Type}{r:R α}{f:α->R β}{b:β}(h:r.bind f=.ok b):∃ a,r=.ok a/\f a=.ok b:=by
 cases r with
 |ok a=>exact ⟨a,rfl,h⟩
 |er n=>cases h
 |no=>cases h
def JTs(X:Cx)(C:Cn)(ifs:List Expr)(ft:DT):Prop :=
 ∀(pS:List (Addr×Obj))(s:Shared)(Y:L2.St)(H:Hp)(Q:Bool->Hp->Prop),L2.Inv X pS Y H s->tT X.K C ft Y H Q ->
  wpAny (model X.prog X.w) X.A (forIn ifs true λc r=>if r=true then do let ok <- isTrue c X.env (eval c X.env);pure (ForInStep.yield ok) else pure (ForInStep.yield r)) (TP X pS Y Q) X.xe s
def dTT:DT:=λZ=>.ok (true,Z)
abbrev Hce(scope:Scope):Prop:=Hcu scope
abbrev Hfr(X:Cx)(scope:Scope):Prop:=∀ y∈scope.names,y.2=.free->X.env.kindOf y.1=some .cell\/X.env.kindOf y.1=some .free
abbrev Hnm(scope:Scope):Prop:=∀ y∈scope.names,y.2=.local->scope.names.lookup y.1=some .local
abbrev Hbk(X:Cx)(C:Cn)(N':List Str)(scope:Scope)(tg:Expr)(ifs:List Expr)(elt:Expr)(g:DG)(ft:DT)(fe:De):Prop:=∀ cl L s H fp G H' w Y,JG (zfT X N' scope cl L s H fp) (zhJ C X.N.length G H' w Y) tg g/\JTs (zfT X N' scope cl L s H fp) (zhJ C X.N.length G H' w Y) ifs ft/\JE (zfT X N' scope cl L s H fp) (zhJ C X.N.length G H' w Y) elt fe
abbrev nL(s2:Shared):Heap:=s2.heap.push { cls:=.type "list",dict:=none,data:=.seq ([]:List Value).toArray }
def PTs(X:Cx)(ifs:List Expr)(t:TT):Prop :=
 ∀(pS:List (Addr×Obj))(s:Shared)(Y:L2.St)(H:Hp)(Q:Bool->Hp->Prop),L2.Inv X pS Y H s->t Y H Q ->
  wpAny (model X.prog X.w) X.A (forIn ifs true λc r=>if r=true then do let ok <- isTrue c X.env (eval c X.env);pure (ForInStep.yield ok) else pure (ForInStep.yield r)) (TP X pS Y Q) X.xe s
section
variable{X:Cx}{C:Cn}
theorem zfw:JTs X C [] dTT:=λpS s Y H Q I ⟨G,w,Z,r,p⟩=>wpAny_tests_nil ⟨H,I,p G H w (.refl _ _ _) r⟩
theorem zc4{c:Expr}{ft:DT}(h:JT X C c ft):JTs X C [c] ft:=λpS s Y H Q I t=>wpAny_tests_one (h pS s Y H Q I t)
theorem Rel.upd_new{K:W.Frag}{Y:L2.St}{G H:Hp}{w:Wn}{Z:Ev}{p:Addr}{o:HO}(r:Rel K C G w Z Y H)(hg:G p=none)(hw:w p=none)(h0:C.H₀ p=none):Rel K C G w Z Y (upd H p o):=by
 refine ⟨λb u e=>?_,r.wg,λb e=>?_,r.len,λi b e=>?_,⟨r.en.g,r.en.fr,λb u e z=>?_,r.en.w,λb e=>?_⟩,r.pin⟩
 ·rw[za1 (zay e hg)];exact r.gh b u e
 ·by_cases hb:b=p
  ·subst hb;rw[za5];simp
  ·rw[za1 hb];exact r.wh b e
 ·obtain ⟨v,h1,h2⟩:=r.sl i b e;refine ⟨v,h1,h2.grow (.refl _) λa u e1 e2=>⟨?_,e1⟩⟩;have:a≠p:=λz=>by subst z;rw[hw] at e1;cases e1
  rw[za1 this];exact e2
 ·rw[za1 (zay e h0)];exact r.en.h b u e z
 ·by_cases hb:b=p
  ·subst hb;exact h0
  ·rw[za1 hb] at e;exact r.en.k b e
theorem zbK.keep{G H G' H':Hp}{w w':Wn}{p:Addr}{o:HO}(s:zbK G H w G' H' w')(hg:G p=none)(hw:w p=none)(hp:H p=some o):G' p=none/\w' p=none/\H' p=some o:=by
 refine ⟨?_,?_,s.h p o hp hw⟩
 ·cases q:G' p with
  |none=>rfl
  |some u =>
   rcases s.fr p u q with z|z|z
   ·exact absurd hg z
   ·rw[hp] at z;cases z
   ·exact absurd hw z
 ·cases q:w' p with
  |none=>rfl
  |some k =>
   rcases s.w p (by rw[q];simp) with z|z
   ·exact absurd hw z
   ·rw[hp] at z;cases z
structure zs1(X:Cx)(pS:List (Addr×Obj))(H:Hp)(L:Addr)(s:Shared):Prop where
 fr:H L=none
 nl:L≠X.env.locals
 nw:L∈X.ex\/X.s₀.heap.objs.size<=L
 nc:∀ x c,X.env.cells.lookup x=some c->c≠L
 np:∀ p∈X.pn++pS,p.1≠L
 ns:∃ m,s.heap.Ns L m
theorem zlY{M:Model}{A:Around}{E:Value->Shared->Prop}{s:Shared}{scope:Scope}{globals b:Addr}{cl:List (Str×Addr)}{qual:Str}{env:Env}{Q:Env->Shared->Prop}
  (h:Q (newEnv scope s.heap.objs.size globals (cellsFrom (s.heap.objs.size+1) scope.names cl) qual none .none (some env) b) { s with heap:=pushCells (s.heap.push { cls:=.type "dict",data:=.dict #[] }) scope.names }) :
  wpAny M A (newFunctionEnv scope globals cl [] qual none .none (some env) b) Q E s:=by
 simp only[newFunctionEnv,Option.isSome_some,if_true];refine wab (wpAny_alloc ?_);refine wab (wpAny_layCells _ (λname kind cells=>by cases hkc:kind == NameKind.cell <;> simp[hkc]) _ _ _ _ ?_);rw[show ({ s with heap:=s.heap.push { cls:=.type "dict",data:=.dict #[] } }:Shared).heap.objs.size=s.heap.objs.size+1 from Heap.size_push ..];refine wab ?_;rw[List.forIn_nil];exact wad (wad h)
theorem zoN{tg iter elt:Expr}{ifs:List Expr}{scope:Scope}{pos:Pos}{N':List Str}{m n:Nat}{tgt:TG}{tts:TT}{te:TE}(hc:X.calm=true)(hb:zhH X.N N' scope.names m=true)
  (hkind:scope.kind=.function) (hcell:Hce scope) (hfr:Hfr X scope)
  {pS:List (Addr×Obj)} {Y:L2.St} {s2:Shared} {cl:List (Str×Addr)} {RR:Value->Addr->Result->Shared->Prop} {E:Value->Shared->Prop}
  (hblk:∀ L s H fp,L2.Inv X pS Y H s->(∀ b∈fp,zgP X pS H b)->s.heap.objs.size<=L->PG (zfT X N' scope (cellsFrom (L+1) scope.names cl) L s H fp) tg tgt/\PTs (zfT X N' scope (cellsFrom (L+1) scope.names cl) L s H fp) ifs tts/\PE (zfT X N' scope (cellsFrom (L+1) scope.names cl) L s H fp) elt te)
  (hcl:∀ x c,cl.lookup x=some c->X.env.cells.lookup x=some c) (hcf:∀ y∈scope.names,y.2=.free->∃ c,cl.lookup y.1=some c)
  {it:Addr} {fp:List Addr} {tn:Nat->Heap->Prop} {J:It} {H2:Hp} (I2:L2.Inv X pS Y H2 s2) (T:ztH X.prog X.w X.K tg J fp it tn) (st2:tn 0 s2.heap) (f2:∀ b∈fp,zgP X pS H2 b)
  (W:Addr->Nat->L2.St->Hp->List V->Prop) (w0:∀ D,H2 D=none->W D 0 (Y++List.replicate m none) (upd H2 D (.lst [])) [])
  (hstep:∀ D i Y' H' vs,H2 D=none->W D i Y' H' vs->H' D=some (.lst vs)->i<n->J.go i H'/\∀ x H7,J.yld i H' x H7->tgt x Y' H7 λY8 H8=>tts Y8 H8 λb H9=>if b=true then te Y8 H9 λv H10=>H10 D=some (.lst vs)/\vs.length<sizeLine/\W D (i+1) Y8 (upd H10 D (.lst (vs++[v]))) (vs++[v]) else H9 D=some (.lst vs)/\W D (i+1) Y8 H9 vs)
  (hstop:∀ D Y' H' vs,W D n Y' H' vs->J.stop n H')
  (fin:∀(D L:Addr)(s':Shared)(vs:List V)(Y':L2.St)(H':Hp),L2.Inv X pS Y H' s'->zs1 X pS H' L s'->H2 D=none->H' D=some (.lst vs)->Y'.length=X.N.length+m->W D n Y' H' vs->RR (.ref D) L (.ok .next) s') :
  wpAny (model X.prog X.w) X.A (newList []) (λacc s₃=>wpAny (model X.prog X.w) X.A (newFunctionEnv scope X.env.globals cl [] X.env.qual none .none (some X.env)) (λcenv s₄ =>
   codeAny (model X.prog X.w) X.A (.compStart (.ListComp elt [⟨tg,iter,ifs,0⟩] scope pos) 0 (.ref it) acc { cenv with scope:=relabel scope X.env }) (RR acc cenv.locals) s₄) E s₃) E s2:=by
 have hD:H2 s2.heap.objs.size=none:=I2.hok.fresh (wal _);refine wpAny_newObj_type (zlY ?_);generalize hh₁:pushCells ((nL s2).push { cls:=.type "dict",data:=.dict #[] }) scope.names=h₁;have hns₁:h₁.Ns (nL s2).objs.size λ_=>none:=by rw[<- hh₁];exact (Heap.Ns.new (nL s2) (.type "dict")).keeps (pushCells_keeps _ _)
 have I3:L2.Inv X pS Y (upd H2 s2.heap.objs.size (.lst [])) { s2 with heap:=nL s2 } :=
  I2.laid (t':=s2.toks) (λb u e=>waa _ e) (wal _) ⟨Nat.zero_le _,[],0,.nil,waj _ rfl⟩
 have hob:∀ b∈fp,∃ o,s2.heap.get? b=some o:=λb hb=>let ⟨o,e,_⟩:=T.obj 0 _ st2 b hb;⟨o,e⟩;have hbD:∀ b∈fp,b≠s2.heap.objs.size:=λb hb z=>by obtain ⟨o,e⟩:=hob b hb;exact absurd (wai e) (by rw[z];exact waL _)
 have f3:∀ b∈fp,zgP X pS (upd H2 s2.heap.objs.size (.lst [])) b:=λb hb=>⟨by rw[za1 (hbD b hb)];exact (f2 b hb).1,(f2 b hb).2⟩
 have hk3:∀ b o,(nL s2).get? b=some o->h₁.get? b=some o:=λb o e=>by rw[<- hh₁];exact pushCells_keeps _ _ b o (waa _ e)
 have hce:∀ x c,(cellsFrom ((nL s2).objs.size+1) scope.names cl).lookup x=some c->cl.lookup x=some c\/h₁.IsCell c none:=λx c e=>by have ez:(nL s2).objs.size+1=((nL s2).push { cls:=.type "dict",data:=.dict #[] }).objs.size:=(Heap.size_push ..).symm;rw[ez] at e;rw[<- hh₁];exact zok _ _ _ e
 have J4:=zqr (N':=N') (scope:=scope) (cl:=cl) (m:=m) (fp:=fp) (tk:=s2.toks) I3 f3 (λb hb=>by obtain ⟨o,e⟩:=hob b hb;exact ⟨o,waa _ e⟩) hb hkind hcell hfr hcl hcf hce hns₁ hk3;have st4:tn 0 h₁:=T.keep _ _ _ st2 λb hb o e=>hk3 b o (waa _ e);generalize hX':zfT X N' scope (cellsFrom ((nL s2).objs.size+1) scope.names cl) (nL s2).objs.size { s2 with heap:=nL s2 } (upd H2 s2.heap.objs.size (.lst [])) fp=X' at J4;have eP:X'.prog=X.prog:=by rw[<- hX'];rfl
 have eW:X'.w=X.w:=by rw[<- hX'];rfl
 have eK:X'.K=X.K:=by rw[<- hX'];rfl
 have eA:X'.A=X.A:=by rw[<- hX'];rfl
 have eC:X'.calm=true:=by rw[<- hX'];exact hc
 have eE:X'.xe=λ_ _=>False:=by rw[<- hX'];rfl
 have ePn:X'.pn=[]:=by rw[<- hX'];rfl
 have eN:X'.N.length=X.N.length+m:=by rw[<- hX'];show N'.length=_;unfold zhH at hb;rw[Bool.and_eq_true] at hb;exact of_decide_eq_true hb.1
 have eEx:X'.ex=fp:=by rw[<- hX'];rfl
 have hlenσ:Y.length=X.N.length:=I2.len;obtain ⟨hg,hts,he⟩:=hblk (nL s2).objs.size { s2 with heap:=nL s2 } (upd H2 s2.heap.objs.size (.lst [])) fp I3 f3 (wal _);rw[hX'] at hg hts he;have stat:∀{H':Hp},(∀ b∈fp,H' b=none)->∀ b∈fp,zgP X' [] H' b:=λhn b hb=>by have q:=J4.ok.exf b (by rw[eEx];exact hb);exact ⟨hn b hb,q.1,J4.ok.exfs b (by rw[eEx];exact hb),.inl (by rw[eEx];exact hb),q.2,λp hp=>by rw[ePn] at hp;simp at hp⟩
 have loop:∀ s₃:Shared,s₃={ s2 with heap:=h₁ } ->
   codeAny (model X.prog X.w) X.A (.compLoop (.ListComp elt [⟨tg,iter,ifs,0⟩] scope pos) 0 (.ref it) (.ref s2.heap.objs.size) X'.env) (RR (.ref s2.heap.objs.size) (nL s2).objs.size) s₃:=by
  rintro s₃ rfl;refine zlB (λk s'=>∃ i Y' H' vs,L2.Inv X' [] Y' H' s'/\tn i s'.heap/\(∀ b∈fp,H' b=none)/\k=n-i/\i<=n/\H' s2.heap.objs.size=some (.lst vs)/\W s2.heap.objs.size i Y' H' vs) ?_ n
   ⟨0,Y++List.replicate m none,_,[],J4,st4,λb hb=>(f3 b hb).1,xws,Nat.zero_le _,za5,w0 _ hD⟩
  rintro k s' ⟨i,Y',H',vs,J5,st5,fr5,rfl,hil,hd5,q5⟩;by_cases hlt:i<n
  ·obtain ⟨go,yl⟩:=hstep _ i Y' H' vs hD q5 hd5 hlt;have hIt:=T.item X' eP eW eK eC i [] s' Y' H' (λ_ _=>False) J5 (stat fr5) st5 go;rw[eA] at hIt;refine thn hIt λrr s6 ⟨u,hr,h6⟩=>?_;subst hr;refine thn h6 λ_ s7 ⟨x,H7,J7,rx7,y7,st7,fr7⟩=>?_;have q7:=yl x H7 y7;have J7':=J7.pinned (stat fr7) (T.obj _ _ st7);have hG:=hg ([]++zgA fp s7.heap) s7 Y' H7 x u _ J7' rx7 q7;rw[eP,eW,eA,eE] at hG;refine thn hG λ_ s8 ⟨Y8,H8,J8,q8⟩=>?_;have hT:=hts ([]++zgA fp s7.heap) s8 Y8 H8 _ J8 q8;rw[eP,eW,eA,eE] at hT;refine thn hT λok s9 ⟨H9,J9,q9⟩=>?_;have after:∀{σa:L2.St}{Ha:Hp}{sa:Shared},L2.Inv X' ([]++zgA fp s7.heap) σa Ha sa->tn (i+1) sa.heap/\∀ b∈fp,Ha b=none:=λ{σa Ha sa} Ja =>
    ⟨T.keep _ _ _ st7 λb hb o e=>(Ja.pin (b,o) (waz _ (waz _ (zfH hb e)))).1,λb hb=>by obtain ⟨o,e,_⟩:=T.obj _ _ st7 b hb;exact (Ja.pin (b,o) (waz _ (waz _ (zfH hb e)))).2.1⟩
   cases ok with
   |false =>
    rw[if_neg Bool.false_ne_true];rw[if_neg Bool.false_ne_true] at q9;obtain ⟨k1,k2⟩:=after J9;exact ⟨n-(i+1),xwl,i+1,Y8,H9,vs,J9.unpinned,k1,k2,rfl,hlt,q9.1,q9.2⟩
   |true =>
    rw[if_pos rfl];rw[if_pos rfl] at q9;have hEl:=he ([]++zgA fp s7.heap) s9 Y8 H9 _ J9 q9;rw[eP,eW,eA,eE] at hEl;refine thn hEl λxv s10 ⟨vy,H10,J10,ry,q10⟩=>?_;have hAp:=zjh (X:=X') ([]++zgA fp s7.heap) s10 Y8 H10 (.ref s2.heap.objs.size) [vy] (.ref s2.heap.objs.size) [xv] (λv H11=>H11=upd H10 s2.heap.objs.size (.lst (vs++[vy]))) J10 rfl (.cons ry .nil)
     ⟨s2.heap.objs.size,vs,vy,rfl,rfl,q10.1,q10.2.1,rfl⟩
    rw[eP,eW,eA,eE] at hAp;refine thn hAp λ_ s11 ⟨v11,H11,J11,_,e11⟩=>?_;subst e11;obtain ⟨k1,k2⟩:=after J11;exact ⟨n-(i+1),xwl,i+1,Y8,_,vs++[vy],J11.unpinned,k1,k2,rfl,hlt,za5,q10.2.2⟩
  ·have e:i=n:=by lia
   subst e;have hDn:=T.done X' eP eW eK eC i [] s' Y' H' (λ_ _=>False) J5 (stat fr5) st5 (hstop _ _ _ _ q5);rw[eA] at hDn;refine thn hDn λrr s6 ⟨hr,J6⟩=>?_;subst hr;have hl6:Y'.length=X.N.length+m:=by rw[J6.len,eN]
   obtain ⟨m6,hn6,_⟩:=id J6.loc;have eL:X'.env.locals=(nL s2).objs.size:=by rw[<- hX'];rfl
   rw[eL] at hn6;have frL:H' (nL s2).objs.size=none:=by rw[<- eL];exact J6.free
   rw[<- hX'] at J6;have IX:L2.Inv X pS Y H' s6:=zwk (h':=s6.heap) I3 f3 (wal _) J6 ⟨rfl,λ_ _=>rfl⟩;have hLs:∀ b o,(nL s2).get? b=some o->(nL s2).objs.size≠b:=λb o e z=>absurd (wai e) (by rw[z];exact waL _);have lo:zs1 X pS H' (nL s2).objs.size s6:=by
    refine ⟨frL,λz=>?_,.inr I3.sz,λx c e z=>?_,λp hp z=>?_,m6,hn6⟩
    ·exact absurd I3.lt (by rw[<- z];exact waL _)
    ·obtain ⟨v,q⟩:=I3.cell x c e;exact absurd q.lt (by rw[z];exact waL _)
    ·exact hLs p.1 p.2 (I3.pin p hp).1 z.symm
   exact fin _ _ s6 vs Y' H' IX lo hD hd5 hl6 q5
 have envEq:X'.env=compEnvC scope (cellsFrom ((nL s2).objs.size+1) scope.names cl) (nL s2).objs.size X.env:=by rw[<- hX'];rfl
 rw[envEq] at loop;exact codeAny_compStart_list (loop _ rfl) (T.self X.A 0 _ _ _ st4 (loop _ rfl))
theorem zui{tg iter elt:Expr}{ifs:List Expr}{scope:Scope}{pos:Pos}{N':List Str}{m:Nat}{g:DG}{ft:DT}{fe:De}(hc:X.calm=true)(hb:zhH X.N N' scope.names m=true)
  (hkind:scope.kind=.function) (hcell:Hce scope) (hfr:Hfr X scope)
  (hblk:Hbk X C N' scope tg ifs elt g ft fe)
  {pS:List (Addr×Obj)} {Y:L2.St} {s2:Shared} {cl:List (Str×Addr)} {RR:Value->Addr->Result->Shared->Prop} {E:Value->Shared->Prop}
  (hcl:∀ x c,cl.lookup x=some c->X.env.cells.lookup x=some c) (hcf:∀ y∈scope.names,y.2=.free->∃ c,cl.lookup y.1=some c)
  {it:Addr} {fp:List Addr} {tn:Nat->Heap->Prop} {J:It} {H2:Hp} (I2:L2.Inv X pS Y H2 s2) (T:ztH X.prog X.w X.K tg J fp it tn) (st2:tn 0 s2.heap) (f2:∀ b∈fp,zgP X pS H2 b)
  {ds zs:List Dt} {Z1 ρf:Ev} {G1:Hp} {w1:Wn} (r1:Rel X.K C G1 w1 Z1 Y H2) (Ko:Ev->Prop) (k0:Ko (Z1++List.replicate m none)) (hko:∀ d Z Z3 b Z4,Ko Z->g d Z=.ok Z3->ft Z3=.ok (b,Z4)->Ko Z4/\∀ y Z5,fe Z4=.ok (y,Z5)->Ko Z5)
  (it1:∀ i Z' G' w' Y' H',Rel X.K (zhJ C X.N.length G1 H2 w1 (Y++List.replicate m none)) G' w' Z' Y' H'->Ko Z'->(∀ d,ds[i]? = some d->J.go i H'/\∀ x H7,J.yld i H' x H7->∃ G7,zfS G' H' G7 H7/\Rep X.K G7 d x)/\(ds.length<=i->J.stop i H')) (hfi:zia ds=true) (ec:zc8 g ft fe ds (Z1++List.replicate m none)=.ok (zs,ρf))
  (fin:∀(D L:Addr)(s':Shared)(vs:List V)(G' H':Hp)(w':Wn),L2.Inv X pS Y H' s'->zs1 X pS H' L s'->zbK G1 H2 w1 G' H' w'->Rel X.K C G' w' (ρf.take Z1.length) Y H'->H2 D=none->H' D=some (.lst vs)->G' D=none->w' D=none->zaJ X.K G' zs vs->RR (.ref D) L (.ok .next) s') :
  wpAny (model X.prog X.w) X.A (newList []) (λacc s₃=>wpAny (model X.prog X.w) X.A (newFunctionEnv scope X.env.globals cl [] X.env.qual none .none (some X.env)) (λcenv s₄ =>
   codeAny (model X.prog X.w) X.A (.compStart (.ListComp elt [⟨tg,iter,ifs,0⟩] scope pos) 0 (.ref it) acc { cenv with scope:=relabel scope X.env }) (RR acc cenv.locals) s₄) E s₃) E s2:=by
 generalize hC':zhJ C X.N.length G1 H2 w1 (Y++List.replicate m none)=C' at it1;have c0:C'.H₀=H2:=by rw[<- hC'];rfl
 have hlenσ:Y.length=X.N.length:=I2.len;refine zoN (iter:=iter) (pos:=pos) (n:=ds.length) (tgt:=tG X.K C' g) (tts:=tT X.K C' ft) (te:=tE X.K C' fe) hc hb hkind hcell hfr (λL s H fp _ _ _=>by
  obtain ⟨a1,a2,a3⟩:=hblk (cellsFrom (L+1) scope.names cl) L s H fp G1 H2 w1 (Y++List.replicate m none);rw[hC'] at a1 a2 a3;exact ⟨a1,a2,a3⟩) hcl hcf I2 T st2 f2
  (λD i Y' H' vs=>∃ Z' G' w' ac,Rel X.K C' G' w' Z' Y' H'/\G' D=none/\w' D=none/\zaJ X.K G' ac vs/\ac.length<=i/\Ko Z'/\∃ z,zc8 g ft fe (ds.drop i) Z'=.ok z/\ac++z.1=zs/\z.2 = ρf) (λD hD=>?_) (λD i Y' H' vs hD ⟨Z',G',w',ac,r5,gd5,wd5,q5,hac,ko,z,ez,ez1,ez2⟩ hd5 hlt=>?_) (λD Y' H' vs ⟨Z',G',w',ac,r5,_,_,_,_,ko,_⟩=>(it1 _ _ _ _ _ _ r5 ko).2 (wal _)) λD L s' vs Y' H' IX lo hD hd5 hl6 ⟨Z',G',w',ac,r5,gd5,wd5,q5,hac,_,z,ez,ez1,ez2⟩=>?_
 ·have w0:w1 D=none:=by
   cases q:w1 D with
   |none=>rfl
   |some k=>exact absurd hD (r1.wh _ (by rw[q];simp))
  have base:Rel X.K C' G1 w1 (Z1++List.replicate m none) (Y++List.replicate m none) H2:=by
   refine ⟨r1.gh,r1.wg,r1.wh,by simp[r1.len],λi b e=>?_,by rw[<- hC'];exact .refl _ _ _,λi _=>by rw[<- hC'];rfl⟩;have hi':i < Z1.length:=by
    by_cases hi':i < Z1.length
    ·exact hi'
    ·rw[List.getElem?_append_right xwl,List.getElem?_replicate] at e;split at e <;> cases e
   rw[List.getElem?_append_left hi'] at e;obtain ⟨v,h1,h2⟩:=r1.sl i b e;exact ⟨v,by rw[List.getElem?_append_left (by rw[<- r1.len];exact hi')];exact h1,h2⟩
  exact ⟨Z1++List.replicate m none,G1,w1,[],base.upd_new (r1.gh.free hD) w0 (by rw[c0];exact hD),r1.gh.free hD,w0,zaJ.nil,Nat.zero_le _,k0,(zs,ρf),by simpa using ec,xws,rfl⟩
 ·have ed:ds.drop i=ds[i]::ds.drop (i+1):=List.drop_eq_getElem_cons hlt;obtain ⟨go,yl⟩:=(it1 i _ _ _ _ _ r5 ko).1 ds[i] (by simp[hlt]);refine ⟨go,λx H7 y7=>?_⟩;obtain ⟨G7,gr,rep7⟩:=yl x H7 y7;have keep7:=(gr.step (w:=w')).keep gd5 wd5 hd5;rw[ed] at ez;unfold zc8 at ez;obtain ⟨Z3,e3,ez⟩:=zdQ ez;obtain ⟨t4,e4,ez⟩:=zdQ ez;obtain ⟨b4,Z4⟩:=t4;obtain ⟨ko4,ko5⟩:=hko _ _ _ _ _ ko e3 e4;refine ⟨G7,w',Z',ds[i],r5.grow gr,rep7,?_⟩;rw[e3];intro Y8 G8 H8 w8 s8s r8;have keep8:=s8s.keep keep7.1 keep7.2.1 keep7.2.2;refine ⟨G8,w8,Z3,r8,?_⟩;rw[e4];intro G9 H9 w9 s9s r9;have keep9:=s9s.keep keep8.1 keep8.2.1 keep8.2.2;have sg9:=(gr.g.trans s8s.g).trans s9s.g;cases b4 with
  |false =>
   show (if false=true then _ else _);rw[if_neg Bool.false_ne_true];simp only[Bool.false_eq_true,if_false] at ez;exact ⟨keep9.2.2,Z4,G9,w9,ac,r9,keep9.1,keep9.2.1,q5.same sg9,xwl,ko4,z,ez,ez1,ez2⟩
  |true =>
   show (if true=true then _ else _);rw[if_pos rfl];simp only[if_true] at ez;obtain ⟨⟨yd,Z10⟩,e10,ez⟩:=zdQ ez;obtain ⟨z',ez',ez3⟩:=zdQ ez;refine ⟨G9,w9,Z4,r9,?_⟩;rw[e10];intro v G10 H10 w10 s10s r10 q10;have keep10:=s10s.keep keep9.1 keep9.2.1 keep9.2.2;cases ez3;refine ⟨keep10.2.2,?_,Z10,G10,w10,ac++[yd],r10.upd_new keep10.1 keep10.2.1 (by rw[c0];exact hD),keep10.1,keep10.2.1,(q5.same (sg9.trans s10s.g)).append (zaJ.cons q10 zaJ.nil),by simp;lia,ko5 _ _ e10,z',ez',by rw[<- ez1];simp,ez2⟩;have:=q5.length;have:=zkV hfi;lia
 ·simp only[List.drop_length] at ez;unfold zc8 at ez;cases ez;simp only[List.append_nil] at ez1;subst ez1;subst ez2;have cG:C'.G₀=G1:=by rw[<- hC'];rfl
  have cw:C'.w₀=w1:=by rw[<- hC'];rfl
  have en':zbK G1 H2 w1 G' H' w':=by have:=r5.en;rw[cG,c0,cw] at this;exact this
  have hρlen:Z'.length=X.N.length+m:=by rw[r5.len,hl6]
  refine fin _ _ s' vs G' H' w' IX lo en' ⟨r5.gh,r5.wg,r5.wh,?_,λi b e=>?_,r1.en.trans en',r1.pin⟩ hD hd5 gd5 wd5 q5
  ·rw[List.length_take,hρlen,r1.len,hlenσ];lia
  ·have hi':i < Z1.length:=by
    by_cases hi':i < Z1.length
    ·exact hi'
    ·rw[List.getElem?_eq_none (by rw[List.length_take];lia)] at e;cases e
   rw[List.getElem?_take_of_lt hi'] at e;obtain ⟨v,h1,h2⟩:=r5.sl i b e;refine ⟨v,?_,h2⟩;have hpi:=r5.pin i (by rw[<- hC'];exact List.mem_range.mpr (by rw[<- hlenσ,<- r1.len];exact hi'));rw[h1] at hpi;rw[<- hC'] at hpi;have hpi':some (some v)=(Y++List.replicate m none)[i]? := hpi;rw[List.getElem?_append_left (by rw[<- r1.len];exact hi')] at hpi';exact hpi'.symm
theorem zlM{tg iter elt:Expr}{ifs:List Expr}{scope:Scope}{pos:Pos}{N':List Str}{m:Nat}{g:DG}{ft:DT}{fe:De}(hc:X.calm=true)(hb:zhH X.N N' scope.names m=true)
  (hkind:scope.kind=.function) (hcell:Hce scope) (hfr:Hfr X scope)
  (hblk:Hbk X C N' scope tg ifs elt g ft fe)
  {pS:List (Addr×Obj)} {Y:L2.St} {s2:Shared} {cl:List (Str×Addr)} {RR:Value->Addr->Result->Shared->Prop} {E:Value->Shared->Prop}
  (hcl:∀ x c,cl.lookup x=some c->X.env.cells.lookup x=some c) (hcf:∀ y∈scope.names,y.2=.free->∃ c,cl.lookup y.1=some c)
  {it:Addr} {fp:List Addr} {tn:Nat->Heap->Prop} {J:It} {H2:Hp} (I2:L2.Inv X pS Y H2 s2) (T:ztH X.prog X.w X.K tg J fp it tn) (st2:tn 0 s2.heap) (f2:∀ b∈fp,zgP X pS H2 b)
  {ds zs:List Dt} {Z1 ρf:Ev} {G1:Hp} {w1:Wn} (r1:Rel X.K C G1 w1 Z1 Y H2) (it1:zr4 X.K J G1 ds) (hfi:zia ds=true) (ec:zc8 g ft fe ds (Z1++List.replicate m none)=.ok (zs,ρf))
  (fin:∀(D L:Addr)(s':Shared)(vs:List V)(G' H':Hp)(w':Wn),L2.Inv X pS Y H' s'->zs1 X pS H' L s'->zbK G1 H2 w1 G' H' w'->Rel X.K C G' w' (ρf.take Z1.length) Y H'->H2 D=none->H' D=some (.lst vs)->G' D=none->w' D=none->zaJ X.K G' zs vs->RR (.ref D) L (.ok .next) s') :
  wpAny (model X.prog X.w) X.A (newList []) (λacc s₃=>wpAny (model X.prog X.w) X.A (newFunctionEnv scope X.env.globals cl [] X.env.qual none .none (some X.env)) (λcenv s₄ =>
   codeAny (model X.prog X.w) X.A (.compStart (.ListComp elt [⟨tg,iter,ifs,0⟩] scope pos) 0 (.ref it) acc { cenv with scope:=relabel scope X.env }) (RR acc cenv.locals) s₄) E s₃) E s2 :=
 zui hc hb hkind hcell hfr hblk hcl hcf I2 T st2 f2 r1 (λ_=>True) trivial (λ_ _ _ _ _ _ _ _=>⟨trivial,λ_ _ _=>trivial⟩) (λi Z' G' w' Y' H' r _=>it1 i G' H' r.en.g r.gh) hfi ec fin
theorem zbZ{tg iter elt:Expr}{ifs:List Expr}{scope:Scope}{pos:Pos}{N':List Str}{m:Nat}{fi:DA}{g:DG}{ft:DT}{fe:De}(hi:JI X C tg iter fi)(hc:X.calm=true)(hb:zhH X.N N' scope.names m=true)
  (hkind:scope.kind=.function) (hcell:Hce scope) (hfr:Hfr X scope) (hnames:Hnm scope)
  (hblk:Hbk X C N' scope tg ifs elt g ft fe)
  (hs:∀ x,foldedSetIterable iter X.env x=pure x:=by intro _;rfl):JN X C (.ListComp elt [⟨tg,iter,ifs,0⟩] scope pos) (zbh fi g ft fe m):=by
 intro pS s Y H Q I ⟨G,w,Z,r,p⟩;rw[eval_ListComp];obtain ⟨cl,hclos,hcl,hcf⟩:=zhm (scope:=scope) (env:=X.env) λy hy hf=>I.ok.has y.1 (hfr y hy hf);refine wpAny_comprehension_free (use:=none) rfl hs hclos hkind hnames ?_;refine thn (hi pS s Y H (λJ H2=>∃ ds Z1 G1 w1 zs ρf,Rel X.K C G1 w1 Z1 Y H2/\zr4 X.K J G1 ds/\zia ds=true/\zc8 g ft fe ds (Z1++List.replicate m none)=.ok (zs,ρf)/\kN X.K C Y Q G1 H2 w1 (zs,ρf.take Z1.length)) I ?_) λv s1 h1=>thn h1 λitv s2 h2=>?_
 ·refine zyQ (κ:=λG H w=>kN X.K C Y Q G H w) zfG r p λds Z1 J G1 H1 w1 r1 st1 it1 p1=>?_;dsimp only at p1;split at p1
  ·rename_i hfi;split at p1
   ·rename_i z ez;exact ⟨ds,Z1,G1,w1,z.1,z.2,r1,it1,hfi,ez,p1⟩
   ·exact p1.elim
  ·exact p1.elim
 obtain ⟨it,fp,tn,J,H2,rfl,I2,T,st2,f2,ds,Z1,G1,w1,zs,ρf,r1,it1,hfi,ec,kk⟩:=h2;refine zlM (RR:=λacc C=>compPost (model X.prog X.w) X.A X.xe none (EP X pS Y Q) acc C) hc hb hkind hcell hfr hblk hcl hcf I2 T st2 f2 r1 it1 hfi ec λD L s' vs G' H' w' I' lo st rel h0 h1 h2 h3 q=>?_;obtain ⟨mm,hn⟩:=lo.ns;refine ⟨mm,hn,λh' hsb=>⟨.ref D,H',?_,rfl,kk D vs G' H' w' st rel h0 h1 h2 h3 q⟩⟩;exact I'.turned (t':=s'.toks) (λb o hb e=>(hsb.2 b hb).trans e) lo.fr lo.nl lo.nw lo.nc lo.np
theorem ztY{tg iter elt:Expr}{ifs:List Expr}{scope:Scope}{pos spos:Pos}{N':List Str}{m i:Nat}{x:Str}{px:Pos}{fi:DA}{g:DG}{ft:DT}{fe:De}{fs:List Dt×Ev->R (Fl×Ev)}(hi:JI X C tg iter fi)(hc:X.calm=true)(hb:zhH X.N N' scope.names m=true)
  (hkind:scope.kind=.function) (hcell:Hce scope) (hfr:Hfr X scope) (hnames:Hnm scope)
  (hblk:Hbk X C N' scope tg ifs elt g ft fe)
  (hN:X.N.Nodup) (hix:X.N[i]? = some x) (hx:Loc X.env.scope x) (hsw:swapsWith (.ListComp elt [⟨tg,iter,ifs,0⟩] scope pos) (some (.Name x px)) spos.line X.env=pure true) (hf:X.fn x=true\/X.env.scope.names.lookup x=some .local)
  (hfs:∀(D:zum)(G1 H2 G' H':Hp)(w1 w':Wn)(Y:L2.St)(p:Addr)(zs:List Dt)(vs:List V)(ρf:Ev),zdc C.ex (kS X.K C D G1 H2 w1) (fs (zs,ρf))->zbK G1 H2 w1 G' H' w'->Rel X.K C G' w' ρf Y H'->H2 p=none->H' p=some (.lst vs)->G' p=none->w' p=none->zaJ X.K G' zs vs->C.H₀ p=none->D.nx (Y.set i (some (.ref p))) H')
  (hs:∀ x,foldedSetIterable iter X.env x=pure x:=by intro _;rfl):JS X C (.Assign [.Name x px] (.ListComp elt [⟨tg,iter,ifs,0⟩] scope pos) spos) (λZ=>(zbh fi g ft fe m Z).bind fs):=by
 intro pS s Y H D I ⟨G,w,Z,r,p⟩;obtain ⟨cl,hclos,hcl,hcf⟩:=zhm (scope:=scope) (env:=X.env) λy hy hf=>I.ok.has y.1 (hfr y hy hf);rw[exec_Assign_Name_used _ _ _ _ hsw];refine wab (wpAny_standAt (wab ?_));show wpAny _ X.A (do let _ <- comprehension (.ListComp elt [⟨tg,iter,ifs,0⟩] scope pos) scope X.env _ (newList []) false (eval iter X.env) (some (assign (.Name x px) X.env))) _ _ s;refine wab (wpAny_mono (wpAny_comprehension_free (use:=some (assign (.Name x px) X.env)) (Q:=λ_ s'=>SP X pS D .next s') rfl hs hclos hkind hnames ?_) (λ_ s' hq=>wad (wad hq)) λ_ _ e=>e);refine thn (hi pS s Y H (λJ H2=>∃ ds Z1 G1 w1 zs ρf,Rel X.K C G1 w1 Z1 Y H2/\zr4 X.K J G1 ds/\zia ds=true/\zc8 g ft fe ds (Z1++List.replicate m none)=.ok (zs,ρf)/\zdc C.ex (kS X.K C D G1 H2 w1) (fs (zs,ρf.take Z1.length))) I ?_) λv s1 h1=>thn h1 λitv s2 h2=>?_
 ·have p':zdc C.ex (kS X.K C D G H w) ((fi Z).bind λa=>((if zia a.1=true then match zc8 g ft fe a.1 (a.2++List.replicate m none) with
   |.ok z=>.ok (z.1,z.2.take a.2.length)
   |_=>.no
   else .no:R (List Dt×Ev))).bind fs):=by
   rw[<- R.bind_assoc];exact p
  refine zyQ (κ:=λG H w=>kS X.K C D G H w) zfn r p' λds Z1 J G1 H1 w1 r1 st1 it1 p1=>?_;dsimp only at p1;split at p1
  ·rename_i hfi;split at p1
   ·rename_i z ez;exact ⟨ds,Z1,G1,w1,z.1,z.2,r1,it1,hfi,ez,p1⟩
   ·exact waO p1
  ·exact waO p1
 obtain ⟨it,fp,tn,J,H2,rfl,I2,T,st2,f2,ds,Z1,G1,w1,zs,ρf,r1,it1,hfi,ec,kk⟩:=h2;refine zlM (RR:=λacc C=>compPost (model X.prog X.w) X.A X.xe (some (assign (.Name x px) X.env)) (λ_ s'=>SP X pS D .next s') acc C) hc hb hkind hcell hfr hblk hcl hcf I2 T st2 f2 r1 it1 hfi ec λDa L s' vs G' H' w' I' lo st rel h0 h1 h2 h3 q=>?_;show wpAny _ X.A (assign (.Name x px) X.env (.ref Da)) _ _ _;refine wpAny_assign_Name (zij I' hN hix hx (v:=.ref Da) rfl (λs'' I'' hch=>?_) hf);obtain ⟨mm,hn⟩:=lo.ns;obtain ⟨a,sb,ha⟩:=hch;have hLa:L≠a:=by
  rcases ha with z|z
  ·rw[z];exact lo.nl
  ·exact λy=>lo.nc x a z y.symm
 refine ⟨mm,hn.sameBut sb hLa,λh' hsb=>⟨Y.set i (some (.ref Da)),H',?_,hfs D G1 H2 G' H' w1 w' Y Da zs vs _ kk st rel h0 h1 h2 h3 q (r1.en.k Da h0)⟩⟩;exact I''.turned (t':=s''.toks) (λb o hb e=>(hsb.2 b hb).trans e) lo.fr lo.nl lo.nw lo.nc lo.np
theorem ze2{tg iter elt:Expr}{ifs:List Expr}{scope:Scope}{pos spos:Pos}{N':List Str}{m i:Nat}{x:Str}{px:Pos}{fi:DA}{g:DG}{ft:DT}{fe:De}(hN:X.N.Nodup)(hix:X.N[i]? = some x)(hx:Loc X.env.scope x)(hp:i∉C.pp)(hi:JI X C tg iter fi)(hc:X.calm=true)(hb:zhH X.N N' scope.names m=true)
  (hkind:scope.kind=.function) (hcell:Hce scope) (hfr:Hfr X scope) (hnames:Hnm scope)
  (hblk:Hbk X C N' scope tg ifs elt g ft fe)
  (hsw:swapsWith (.ListComp elt [⟨tg,iter,ifs,0⟩] scope pos) (some (.Name x px)) spos.line X.env=pure true:=by rfl) (hf:X.fn x=true\/X.env.scope.names.lookup x=some .local:=by exact xwA)
  (hs:∀ x,foldedSetIterable iter X.env x=pure x:=by intro _;rfl):JS X C (.Assign [.Name x px] (.ListComp elt [⟨tg,iter,ifs,0⟩] scope pos) spos) (zaX i (dFz (zbh fi g ft fe m))):=by
 have h:=ztY (fs:=λa=>if i<a.2.length then .ok (.nx,a.2.set i (some (.val (.lst a.1)))) else .no) hi hc hb hkind hcell hfr hnames hblk hN hix hx hsw hf (λD G1 H2 G' H' w1 w' Y p zs vs ρf po st rel h0 h1 h2 h3 q h4=>?_) hs
 ·refine PS.weak h λD Y H t=>?_;obtain ⟨G,w,Z,r,p⟩:=t;refine ⟨G,w,Z,r,?_⟩;unfold zaX dFz at p;rw[R.bind_assoc] at p;exact p
 ·by_cases hl:i < ρf.length
  ·simp only[hl,if_true] at po;obtain ⟨r',s'⟩:=rel.know h1 h2 h3 H2 G1 w1 st h0 (.inl h4);have sg:zea G' (upd G' p (.lst vs)):=λb u e=>by rw[za1 (zay e h2)];exact e
   exact po _ _ _ _ s' (r'.setVal hl hp (by unfold Rep;exact ⟨p,vs,rfl,za5,q.same sg⟩))
  ·simp only[hl,if_false] at po;exact waO po
end
section
variable{X:Cx}{C:Cn}{a b c e:Expr}{fa fb fc:De}{pos:Pos}
def kO(K:W.Frag)(C:Cn)(Y:L2.St)(Q:Option Int->Hp->Prop)(G H:Hp)(w:Wn)(a:Option Int×Ev):Prop :=
 ∀ G' H' w',zbK G H w G' H' w'->Rel K C G' w' a.2 Y H'->Q a.1 H'
abbrev DO:=Ev->R (Option Int×Ev)
def tOd(K:W.Frag)(C:Cn)(f:DO):TO:=λY H Q=>∃ G w Z,Rel K C G w Z Y H/\zdc C.ex (kO K C Y Q G H w) (f Z)
abbrev JO(X:Cx)(C:Cn)(e:Option Expr)(f:DO):Prop:=PO X e (tOd X.K C f)
theorem PO.weak{e:Option Expr}{t t':TO}(h:PO X e t)(k:∀ Y H Q,t' Y H Q->t Y H Q):PO X e t':=λpS s Y H Q I q=>h pS s Y H Q I (k Y H Q q)
def dO0:DO:=λZ=>.ok (none,Z)
def dO1(fa:De):DO:=λZ=>(fa Z).bind λa=>match a.1 with
 |.int i=>.ok (some i,a.2)
 |_=>.no
theorem zzr{K:W.Frag}{Y:L2.St}{Q:Option Int->Hp->Prop}:Stp (λG H w=>kO K C Y Q G H w):=λ_ _ _ _ _ _ _ s k G' H' w' s'=>k G' H' w' (s.trans s')
theorem zgh:JO X C none dO0:=PO.weak zwu λY H Q ⟨G,w,Z,r,p⟩=>p G H w (.refl _ _ _) r
theorem zeM(h:JE X C a fa):JO X C (some a) (dO1 fa):=PO.weak (zwl h) λY H Q ⟨G,w,Z,r,p⟩=>by
 refine zeC (κ:=λG H w=>kO X.K C Y Q G H w) zzr r p λd Z1 v G1 H1 w1 r1 s1 q1 p1=>?_;cases d with
 |int i=>exact ⟨i,zaF q1,p1 G1 H1 w1 (.refl _ _ _) r1⟩
 |_=>exact p1.elim
theorem zyS{K:W.Frag}{Y:L2.St}{α:Type}{κ:zti α}(st:Stp κ){G H:Hp}{w:Wn}{Z:Ev}{fa:DO}{g:Option Int×Ev->R α}{Q:Option Int->Hp->Prop}(r:Rel K C G w Z Y H)(p:zdc C.ex (κ G H w) ((fa Z).bind g))
  (k:∀ o Z1 G1 H1 w1,Rel K C G1 w1 Z1 Y H1->zbK G H w G1 H1 w1->zdc C.ex (κ G1 H1 w1) (g (o,Z1))->Q o H1):tOd K C fa Y H Q:=by
 refine ⟨G,w,Z,r,?_⟩;cases e:fa Z with
 |ok a =>
  rw[e] at p;intro G' H' w' s' r';exact k a.1 a.2 G' H' w' r' s' (zdc.step st s' p)
 |er n=>rw[e] at p;exact p
 |no=>rw[e] at p;exact p
def zjs{α:Type}(xs:List α)(lo hi:Option Int):List α:=(xs.drop (HT.sIx xs.length 0 lo)).take (HT.sIx xs.length xs.length hi-HT.sIx xs.length 0 lo)
theorem zov{K:W.Frag}{G:Hp}{ds:List Dt}{vs:List V}(h:zaJ K G ds vs)(lo hi:Option Int):zaJ K G (zjs ds lo hi) (zqi vs lo hi):=by unfold zjs zqi;rw[<- h.length];exact (h.drop _).take _
def zlS(fa:De)(fl fh:DO):DN:=λZ=>(fa Z).bind λa=>(fl a.2).bind λl=>(fh l.2).bind λh=>match a.1 with
 |.lst ds=>.ok (zjs ds l.1 h.1,h.2)
 |_=>.no
theorem zf0{K:W.Frag}{Y:L2.St}{G H:Hp}{w:Wn}{Z:Ev}{p:Addr}(r:Rel K C G w Z Y H)(hp:H p=none):w p=none:=by
 cases z:w p with
 |none=>rfl
 |some k=>exact absurd hp (r.wh p (by rw[z];simp))
theorem zm8{lo hi:Option Expr}{fl fh:DO}{p2:Pos}(ha:JE X C a fa)(hl:JO X C lo fl)(hh:JO X C hi fh):JN X C (.Subscript a (.Slice lo hi none p2) pos) (zlS fa fl fh) :=
 PE.weak (zoW zvZ ha hl hh) λY H Q ⟨G,w,Z,r,p⟩=>by
  refine zeC (κ:=λG H w=>kN X.K C Y Q G H w) zfG r p λd Z1 v G1 H1 w1 r1 s1 q1 p1=>?_;refine zyS (κ:=λG H w=>kN X.K C Y Q G H w) zfG r1 p1 λl Z2 G2 H2 w2 r2 s2 p2=>?_;refine zyS (κ:=λG H w=>kN X.K C Y Q G H w) zfG r2 p2 λh Z3 G3 H3 w3 r3 s3 p3=>?_;cases d with
  |lst ds =>
   obtain ⟨ad,vs,rfl,h1,h2⟩:=zbg (q1.same (s2.g.trans s3.g));refine ⟨ad,vs,rfl,SqL.of (r3.gh _ _ h1),λp hp=>?_⟩;have gr:zfS G3 H3 G3 (upd H3 p (.lst (zqi vs l h))):=.newH r3.gh hp;exact p3 p _ G3 _ w3 gr.step (r3.grow gr) hp za5 (r3.gh.free hp) (zf0 r3 hp) (zov h2 l h)
  |_=>exact p3.elim
def zgB(fa:De):DN:=λZ=>(fa Z).bind λa=>match a.1 with
 |.lst ds=>.ok (ds.reverse,a.2)
 |_=>.no
theorem zuR{k1:Nat}{p1 p2 p3:Pos}(ha:JE X C a fa):JN X C (.Subscript a (.Slice none none (some (.UnaryOp .USub (.Constant (.int 1) k1 p1) p2)) p3) pos) (zgB fa):=by
 intro pS s Y H Q I ⟨G,w,Z,r,p⟩;refine PyProof.Rows.Subscript_ (thn (ha pS s Y H (λx H1=>∃ ad vs,x=.ref ad/\SqL X.K H1 ad vs/\∀ p,H1 p=none->Q (.ref p) (upd H1 p (.lst vs.reverse))) I ?_) λv s1 ⟨x,H1,I1,r1,ad,vs,ex,hx,q1⟩=>?_)
 ·refine zeC (κ:=λG H w=>kN X.K C Y Q G H w) zfG r p λd Z1 v G1 H1 w1 r1 s1 q1 p1=>?_;cases d with
  |lst ds =>
   obtain ⟨ad,vs,rfl,h1,h2⟩:=zbg q1;refine ⟨ad,vs,rfl,SqL.of (r1.gh _ _ h1),λp hp=>?_⟩;have gr:zfS G1 H1 G1 (upd H1 p (.lst vs.reverse)):=.newH r1.gh hp;exact p1 p _ G1 _ w1 gr.step (r1.grow gr) hp za5 (r1.gh.free hp) (zf0 r1 hp) h2.reverse
  |_=>exact p1.elim
 subst ex;cases r1;obtain ⟨its,rv,ht,hz⟩:=I1.list hx;have hlen:=rv.length;refine wpAny_Slice (evalPart_none_step (evalPart_none_step (evalPart_some_step (thn (zxo (a:=.Constant (.int 1) k1 p1) (pos:=p2) zu4 zuy pS s1 Y H1 (λx H2=>x=.int (-1)/\H2=H1) I1 ⟨1,rfl,rfl,rfl⟩) λvk s2 ⟨y,H2,I2,r2,ey,eH⟩=>?_))));subst ey;subst eH;obtain ⟨t,rfl⟩:=r2;have I4:L2.Inv X pS Y H2 { s2 with heap:=s2.heap.push { cls:=.type "slice",data:=.fields #[.none,.none,.int (-1) t] } }:=I2.kept (t':=s2.toks) λb ob q=>waa _ q;obtain ⟨its4,rv4,ht4,_⟩:=I4.list hx;have hlen4:=rv4.length;show wpAny (model X.prog X.w) X.A (PyProof.Rows.subscriptTail a (.Slice none none (some (.UnaryOp .USub (.Constant (.int 1) k1 p1) p2)) p3) (.ref ad) (.ref s2.heap.objs.size)) (EP X pS Y Q) X.xe { s2 with heap:=s2.heap.push { cls:=.type "slice",data:=.fields #[.none,.none,.int (-1) t] } };refine PyProof.Rows.tail_any (ops:=[.ref ad,.ref s2.heap.objs.size]) ht4.isList.typeIs slot_list_getitem.lookup ?_ (by with_unfolding_all rfl);refine wpAny_getItem_list_slice ht4.isList (Heap.IsSliceOf.new ..) .none .none (.int _ _) xwd ?_ (by rw[List.size_toArray] <;> lia);rw[W.krv_pick];refine ⟨.ref _,_,I4.laid (t':=s2.toks) (o:=.lst vs.reverse) (λb ob q=>waa _ q) (wal _) ?_,rfl,q1 _ (I4.hok.fresh (wal _))⟩;exact ⟨by rw[List.length_reverse];exact hz,its4.reverse,0,rv4.reverse,waj (o:={ cls:=.type "list",data:=.seq its4.toArray.toList.reverse.toArray }) _ rfl⟩
end
structure Dfn(nw:Bool)(P:Program)(w:World)(K:W.Frag)(mg:Str->Option Value)(base:Heap)(CX:CXT)(xv:Nat->Value)(k:Nat)(x:Str)(ks:List Bool)(F:FD):Prop where
 ex:∃(f:Addr)(fd:FuncData)(ps:List Str),zgi P w K mg base CX k f fd ps (zph nw K xv ks F)/\mg x=some (.ref f)/\W.keepIn K (.ref f)=true/\zly K fd ps []/\∀ bs,F bs≠.no->zdX bs=ks
theorem Dfn.mono{nw:Bool}{P:Program}{w:World}{K:W.Frag}{mg:Str->Option Value}{base:Heap}{CX:CXT}{xv:Nat->Value}{k k':Nat}{x:Str}{ks:List Bool}{F:FD}(D:Dfn nw P w K mg base CX xv k x ks F)(h:k<=k'):Dfn nw P w K mg base CX xv k' x ks F:=by obtain ⟨f,fd,ps,h1,h2⟩:=D.ex;exact ⟨f,fd,ps,h1.mono h,h2⟩
section
variable{X:Cx}{C:Cn}{CX:CXT}{k k':Nat}{ks:List Bool}{Fd:FD}{x:Str}{p pos:Pos}{e:Expr}{es:List Expr}{far:DAr}
theorem zaD(D:Dfn false X.prog X.w X.K X.mg X.base CX C.xv k x ks Fd)(hr:zgv k' X.A)(hk:k<=k')(hx:zep CX X (EXc C))(ha:JAr X C (e::es) far)(hg:Gl X x:=by rfl)(hdb:(x == ("__debug__" : Str))=false:=by decide)(he:starEach (e::es) X.env=(false,eval e X.env)::starEach es X.env:=by rfl)
  (hpl:(backTo pos (starEach es X.env)).any (·.1)=false:=by rfl):JE X C (.Call (.Name x p) (e::es) [] pos) (zai Fd far):=by
 obtain ⟨f,fd,ps,h1,h2,h3,h4,h5⟩:=D.ex;exact zvq h1 (hr.mono hk) hg h2 h3 h4 hx h5 ha hdb he hpl
end
section
variable{X:Cx}{C:Cn}{CX:CXT}{k k':Nat}{ks:List Bool}{Fd:FD}{x:Str}{p pos:Pos}{e:Expr}{es:List Expr}{far:DAr}
theorem zgx(D:Dfn true X.prog X.w X.K X.mg X.base CX C.xv k x ks Fd)(hr:zgv k' X.A)(hk:k<=k')(hx:zep CX X (EXc C))(ha:JAr X C (e::es) far)(hg:Gl X x:=by rfl)(hdb:(x == ("__debug__" : Str))=false:=by decide)(he:starEach (e::es) X.env=(false,eval e X.env)::starEach es X.env:=by rfl)
  (hpl:(backTo pos (starEach es X.env)).any (·.1)=false:=by rfl):JN X C (.Call (.Name x p) (e::es) [] pos) (zaZ Fd far):=by
 obtain ⟨f,fd,ps,h1,h2,h3,h4,h5⟩:=D.ex;exact zw4 h1 (hr.mono hk) hg h2 h3 h4 hx h5 ha hdb he hpl
end
def dNo:DS:=λ_=>.no
theorem ztj{X:Cx}{C:Cn}{st:Stmt}:JS X C st dNo:=λ_ _ _ _ _ _ ⟨_,_,_,_,p⟩=>p.elim
section
variable{X:Cx}{C:Cn}{a b c e:Expr}{fa fb fc:De}{pos:Pos}
def zjt(fa fb:De):DN:=λZ=>(fa Z).bind λa=>(fb a.2).bind λb=>match a.1,b.1 with
 |.lst x,.lst y=>if x.length+y.length<=16777216 then .ok (x++y,b.2) else .no
 |_,_=>.no
theorem zjj(ha:JE X C a fa)(hb:JE X C b fb):JN X C (.BinOp a .Add b pos) (zjt fa fb):=PE.weak (zwM zx3 ha hb) λY H Q ⟨G,w,Z,r,p⟩=>by
 refine zeC (κ:=λG H w=>kN X.K C Y Q G H w) zfG r p λd Z1 v G1 H1 w1 r1 s1 q1 p1=>?_;refine zeC (κ:=λG H w=>kN X.K C Y Q G H w) zfG r1 p1 λd2 Z2 v2 G2 H2 w2 r2 s2 q2 p2=>?_;dsimp only at p2;split at p2
 ·rename_i x y;split at p2
  ·rename_i hl;obtain ⟨ad,vs,rfl,h1,h2⟩:=zbg (q1.same s2.g);obtain ⟨bd,us,rfl,h3,h4⟩:=zbg q2;refine ⟨ad,bd,vs,us,rfl,rfl,r2.gh _ _ h1,r2.gh _ _ h3,by rw[<- h2.length,<- h4.length,zdK];exact hl,λp hp=>?_⟩;have gr:zfS G2 H2 G2 (upd H2 p (.lst (vs++us))):=.newH r2.gh hp;exact p2 p _ G2 _ w2 gr.step (r2.grow gr) hp za5 (r2.gh.free hp) (zf0 r2 hp) (h2.append h4)
  ·exact p2.elim
 ·exact p2.elim
def zyM(fa fb:De):DN:=λZ=>(fa Z).bind λa=>(fb a.2).bind λb=>match a.1,b.1 with
 |.lst x,.int k=>if zdx k=true/\x.length * k.toNat<=16777216 then .ok ((List.replicate k.toNat x).flatten,b.2) else .no
 |_,_=>.no
theorem zo3{K:W.Frag}{G:Hp}{ds:List Dt}{vs:List V}(h:zaJ K G ds vs):∀ k:Nat,zaJ K G (List.replicate k ds).flatten (List.replicate k vs).flatten
 |0=>by simpa using zaJ.nil
 |k+1=>by rw[List.replicate_succ,List.replicate_succ,List.flatten_cons,List.flatten_cons];exact h.append (zo3 h k)
theorem zxY(ha:JE X C a fa)(hb:JE X C b fb):JN X C (.BinOp a .Mult b pos) (zyM fa fb):=PE.weak (zwM zxX ha hb) λY H Q ⟨G,w,Z,r,p⟩=>by
 refine zeC (κ:=λG H w=>kN X.K C Y Q G H w) zfG r p λd Z1 v G1 H1 w1 r1 s1 q1 p1=>?_;refine zeC (κ:=λG H w=>kN X.K C Y Q G H w) zfG r1 p1 λd2 Z2 v2 G2 H2 w2 r2 s2 q2 p2=>?_;dsimp only at p2;split at p2
 ·rename_i x k;split at p2
  ·rename_i hl;obtain ⟨ad,vs,rfl,h1,h2⟩:=zbg (q1.same s2.g);obtain ⟨b1,b2⟩:=zdV hl.1;refine ⟨ad,k,vs,rfl,zaF q2,r2.gh _ _ h1,xwl,xwl,by rw[<- h2.length,zdK];exact hl.2,λp hp=>?_⟩;have gr:zfS G2 H2 G2 (upd H2 p (.lst (List.replicate k.toNat vs).flatten)):=.newH r2.gh hp;exact p2 p _ G2 _ w2 gr.step (r2.grow gr) hp za5 (r2.gh.free hp) (zf0 r2 hp) (zo3 h2 k.toNat)
  ·exact p2.elim
 ·exact p2.elim
def zze(ta:TA):TE:=λY H Q=>ta Y H λvs H1=>∃ j:Int,vs=[.int j]/\∀ p,H1 p=none->Q (.ref p) (upd H1 p (.rng 0 j))
theorem zyq{p:Pos}{ta:TA}(hg:Gl X "range")(hm:X.mg "range"=none)(ha:PA X [e] ta)(hs:starEach [e] X.env=[(false,eval e X.env)]:=by rfl):PE X (.Call (.Name "range" p) [e] [] pos) (zze ta):=by intro pS s Y H Q I h;refine PyProof.Rows.Call_ (zfd I hg hm PyProof.Rows.boot_range (PyProof.Rows.callWith_type1 (thn (ha pos pS s Y H _ I h) λus s1 ⟨vs,H1,I1,r1,q1⟩=>?_) hs rfl));obtain ⟨j,e1,q⟩:=q1;subst e1;obtain ⟨u,rfl,t,rfl⟩:=zgF r1;exact call_range_1 ⟨.ref s1.heap.objs.size,_,I1.laid (o:=.rng 0 j) (λb u e=>waa _ e) (wal _) ⟨_,_,_,waj _ rfl⟩,rfl,q _ (I1.hok.fresh (wal _))⟩
theorem zkq{lo:Int}:∀(n:Nat)(acc:List Value),acc.length=n->(∀(j:Nat) v,acc[j]? = some v->∃ t,v=Value.int (lo+j) t)->zbs ((List.range n).map λk=>V.int (lo+(k:Nat))) acc
 |0,[],_,_=>.nil
 |0,_::_,h,_=>by simp at h
 |n+1,[],h,_=>by simp at h
 |n+1,v::r,h,hv=>by
  rw[List.range_succ_eq_map,List.map_cons,List.map_map];obtain ⟨t,ht⟩:=hv 0 v rfl;refine .cons ⟨t,by simpa using ht⟩ ?_;have:=zkq (lo:=lo+1) n r (by simpa using h) λj v' e=>by obtain ⟨t',ht'⟩:=hv (j+1) v' (by simpa using e);refine ⟨t',ht'.trans ?_⟩;congr 1;lia
  have e:(λk=>V.int (lo+1+(k:Nat)))=((λk:Nat=>V.int (lo+(k:Nat))) ∘ Nat.succ):=by funext k;show V.int _=V.int _;congr 1;simp only[Nat.succ_eq_add_one];lia
  rw[e] at this;exact this
theorem zkD(hc:X.calm=true):zek X (.type "list") (λxs H Q=>∃(p:Addr)(j:Int),xs=[.ref p]/\H p=some (.rng 0 j)/\0<=j/\j<=16777216/\∀ l,H l=none->Q (.ref l) (upd H l (.lst ((List.range j.toNat).map λk=>V.int (0+(k:Nat)))))):=by
 intro pS s Y H xs us Q I r h;obtain ⟨p,j,rfl,hp,j0,j1,q⟩:=h;obtain ⟨u,rfl,ru⟩:=zgF r;cases ru;obtain ⟨t,u,v,e⟩:=(show zeN X.prog X.w H s.heap p (.rng 0 j) from I.hok p _ hp)
 refine call_list_range (n:=j.toNat) (I.ok.hd hc) e (small_one xwl xwl xwl xwl) (by rw[rangeSize_one];split <;> lia) xwl λh' tk acc' c' hk hS hacc=>?_;refine ⟨.ref s.heap.objs.size,_,I.laid (t':=tk) hk (wal _) (o:=.lst ((List.range j.toNat).map λk=>V.int (0+(k:Nat)))) ⟨?_,acc'.toList,c',?_,by simpa using hS⟩,rfl,q _ (I.hok.fresh (wal _))⟩
 ·rw[List.length_map,List.length_range,zdK];lia
 ·refine zkq j.toNat acc'.toList (by rw[Array.length_toList];exact hacc.1) λi v' ev=>?_;obtain ⟨t',ht'⟩:=hacc.2 i v' (by simpa using ev);exact ⟨t',by rw[ht',Int.mul_one]⟩
def zjF(fa:De):DN:=λZ=>(fa Z).bind λa=>match a.1 with
 |.int j=>if 0<=j/\j<=16777216 then .ok (zch 0 j.toNat,a.2) else .no
 |_=>.no
theorem zko{K:W.Frag}{G:Hp}{lo:Int}:∀(l:List Nat),zaJ K G (l.map λk=>.int (lo+(k:Nat))) (l.map λk=>V.int (lo+(k:Nat)))
 |[]=>zaJ.nil
 |k::r=>zaJ.cons (zaN _) (zko r)
theorem znw{p1 p2 pos2:Pos}(hc:X.calm=true)(hg:Gl X "list")(hm:X.mg "list"=none)(hg2:Gl X "range")(hm2:X.mg "range"=none)(ha:JE X C e fa)(hs:starEach [e] X.env=[(false,eval e X.env)]:=by rfl)
  (hs2:starEach [.Call (.Name "range" p2) [e] [] pos2] X.env=(false,eval (.Call (.Name "range" p2) [e] [] pos2) X.env)::starEach [] X.env:=by rfl) (hpl:(backTo pos (starEach [] X.env)).any (·.1)=false:=by rfl) :
  JN X C (.Call (.Name "list" p1) [.Call (.Name "range" p2) [e] [] pos2] [] pos) (zjF fa) :=
 PE.weak (ziu (zkD hc) hg hm PyProof.Rows.boot_list (zbY (zyq hg2 hm2 (zau ha za7 (by rw[hs];rfl)) hs) zeW hs2) xwd xwd hs2 hpl) λY H Q ⟨G,w,Z,r,p⟩=>by
  unfold zjF at p;refine ⟨G,w,Z,r,?_⟩;unfold dA dA0;cases e:fa Z with
  |ok x =>
   obtain ⟨d,Z1⟩:=x;rw[e] at p;intro vs G1 H1 w1 s1 r1 q;obtain ⟨v,t,rfl,q1,q2⟩:=q.cons_inv;rw[q2.nil_inv];have p1:=zdc.step (κ:=λG H w=>kN X.K C Y Q G H w) zfG s1 p;cases d with
   |int j =>
    refine ⟨j,by rw[zaF q1],λp hp=>?_⟩;have p1:zdc C.ex (kN X.K C Y Q G1 H1 w1) (if 0<=j/\j<=16777216 then .ok (zch 0 j.toNat,Z1) else .no):=p1;by_cases hj:0<=j/\j<=16777216
    ·rw[if_pos hj] at p1;refine ⟨p,j,rfl,za5,hj.1,hj.2,λl hl=>?_⟩;have gr:zfS G1 H1 G1 (upd H1 p (.rng 0 j)):=.newH r1.gh hp;have r2:=r1.grow gr;have gr2:zfS G1 (upd H1 p (.rng 0 j)) G1 (upd (upd H1 p (.rng 0 j)) l (.lst ((List.range j.toNat).map λk=>V.int (0+(k:Nat))))):=.newH r2.gh hl;have hl1:H1 l=none:=gr.h.free hl;exact p1 l _ G1 _ w1 (gr.step.trans gr2.step) (r2.grow gr2) hl1 za5 (r1.gh.free hl1) (zf0 r1 hl1) (zko _)
    ·rw[if_neg hj] at p1;exact p1.elim
   |_=>exact waO p1
  |er n=>rw[e] at p;exact p
  |no=>rw[e] at p;exact p
end
section
variable{X:Cx}{C:Cn}{a b c e:Expr}{fa fb fc:De}{pos:Pos}
def zwB(a:Int):List Int->List Int
 |[]=>[a]
 |b::r=>if a<=b then a::b::r else b::zwB a r
def zaK:List Int->List Int
 |[]=>[]
 |a::r=>zwB a (zaK r)
theorem ziT(a:Int):∀ l:List Int,(zwB a l).Perm (a::l)
 |[]=>.refl _
 |b::r=>by
  unfold zwB;split
  ·exact .refl _
  ·exact ((ziT a r).cons b).trans (.swap a b r)
theorem zaw:∀ l:List Int,(zaK l).Perm l
 |[]=>.refl _
 |a::r=>(ziT a _).trans ((zaw r).cons a)
theorem zot(a:Int):∀ l:List Int,l.Pairwise (· <= ·)->(zwB a l).Pairwise (· <= ·)
 |[],_=>by simp[zwB]
 |b::r,h=>by
  unfold zwB;rw[List.pairwise_cons] at h;split
  ·rename_i z;refine List.pairwise_cons.mpr ⟨λx hx=>?_,List.pairwise_cons.mpr h⟩;rcases wap.mp hx with rfl|hx
   ·exact z
   ·exact Int.le_trans z (h.1 x hx)
  ·rename_i z;refine List.pairwise_cons.mpr ⟨λx hx=>?_,zot a r h.2⟩;rcases wap.mp ((ziT a r).mem_iff.mp hx) with rfl|hx
   ·lia
   ·exact h.1 x hx
theorem zbO:∀ l:List Int,(zaK l).Pairwise (· <= ·)
 |[]=>.nil
 |a::r=>zot a _ (zbO r)
theorem intsAre_of:∀{ns:List Int}{us:List Value},zbs (ns.map V.int) us->PyProof.Rows.IntsAre us ns
 |[],_,.nil=>.nil
 |n::ns,_,.cons ⟨t,h⟩ r=>by subst h;exact .cons n t (intsAre_of r)
theorem vals_ints:∀{ns:List Int}{us:List Value},PyProof.Rows.IntsAre us ns->zbs (ns.map V.int) us
 |_,_,.nil=>.nil
 |_,_,.cons n t h=>.cons ⟨t,rfl⟩ (vals_ints h)
theorem zpx:zek X (.builtin "sorted") (λxs H Q=>∃(p:Addr)(ns:List Int),xs=[.ref p]/\SqL X.K H p (ns.map V.int)/\ns.length<64/\∀ l,H l=none->Q (.ref l) (upd H l (.lst ((zaK ns).map V.int)))):=by
 intro pS s Y H xs us Q I r h;obtain ⟨p,ns,rfl,hq,hl,q⟩:=h;obtain ⟨u,rfl,ru⟩:=zgF r;cases ru;obtain ⟨its,rv,pl,hz⟩:=I.list hq;have hlen:its.length=ns.length:=by rw[<- rv.length];simp
 refine PyProof.Rows.sorted_ints pl.isList (intsAre_of rv) xwl λout ns' a1 a2 a3=>?_;have e:ns'=zaK ns:=W.lks_uniq (a2.trans (zaw ns).symm) a3 (zbO ns);subst e;obtain ⟨c,hc⟩:=PyProof.Rows.sortedAll_at s.heap its out;refine ⟨.ref (s.heap.objs.size+1),_,I.laid (t':=s.toks) (λb o=>PyProof.Rows.sortedAll_old) (Nat.le_succ _) (o:=.lst ((zaK ns).map V.int)) ⟨?_,out.toList,c,vals_ints a1,?_⟩,rfl,q _ (I.hok.fresh (Nat.le_succ _))⟩
 ·rw[List.length_map,(zaw ns).length_eq,zdK];lia
 ·simpa using hc
def zbl:List Dt->R (List Dt)
 |[.lst l]=>match zmV l with
  |some ns=>if ns.length<64 then .ok ((zaK ns).map .int) else .no
  |none=>.no
 |_=>.no
theorem ziY{K:W.Frag}{G:Hp}:∀(ns:List Int),zaJ K G (ns.map .int) (ns.map V.int)
 |[]=>zaJ.nil
 |n::r=>zaJ.cons (zaN n) (ziY r)
theorem ztu{K:W.Frag}:FnN K (λxs H Q=>∃(p:Addr)(ns:List Int),xs=[.ref p]/\SqL K H p (ns.map V.int)/\ns.length<64/\∀ l,H l=none->Q (.ref l) (upd H l (.lst ((zaK ns).map V.int)))) zbl:=λG H vs ds z Q gh hr e k=>by
 unfold zbl at e;split at e
 ·split at e
  ·rename_i ns en;split at e
   ·rename_i hl;obtain ⟨v,rfl,h1⟩:=zht hr;obtain ⟨a,us,rfl,h2,h3⟩:=zbg h1;cases e;rw[zlz h3 en] at h2;exact ⟨a,ns,rfl,SqL.of (gh _ _ h2),hl,λl hl=>k l _ hl (ziY _)⟩
   ·cases e
  ·cases e
 ·cases e
theorem zsZ:zoL zbl:=λx n h=>by
 unfold zbl at h;split at h
 ·split at h
  ·split at h <;> cases h
  ·cases h
 ·cases h
theorem zeE{x:Expr}{p:Pos}(hg:Gl X "sorted")(hm:X.mg "sorted"=none)(ha:JE X C x fa)(hs:starEach [x] X.env=(false,eval x X.env)::starEach [] X.env:=by rfl)(hpl:(backTo pos (starEach [] X.env)).any (·.1)=false:=by rfl) :
  JN X C (.Call (.Name "sorted" p) [x] [] pos) (zem zbl (dA fa dA0)) :=
 zoz ztu zsZ zpx hg hm PyProof.Rows.boot_sorted (zau ha za7 hs) xwd xwd hs hpl
def zoU(x:Dt):List Dt->Option Nat
 |[]=>none
 |d::r=>if eqD d x=true then some 0 else (zoU x r).map (·+1)
theorem zmS{x:Dt}:∀{l:List Dt}{j:Nat},zoU x l=some j->∃ h:j<l.length,eqD l[j] x=true/\∀ m (hm:m<l.length),m<j->eqD l[m] x=false
 |[],_,h=>by simp[zoU] at h
 |d::r,j,h=>by
  unfold zoU at h;split at h
  ·rename_i e;cases h;exact ⟨xws,e,λm _ h=>absurd h (Nat.not_lt_zero _)⟩
  ·rename_i e;cases q:zoU x r with
   |none=>rw[q] at h;cases h
   |some i =>
    rw[q] at h;cases h;obtain ⟨h1,h2,h3⟩:=zmS q;refine ⟨by simpa using h1,by simpa using h2,λm hm hlt=>?_⟩;cases m with
    |zero=>simpa using e
    |succ m=>simpa using h3 m (by simpa using hm) (Nat.lt_of_succ_lt_succ hlt)
theorem zl4{pS:List (Addr×Obj)}{Y:L2.St}{H:Hp}{s:Shared}(I:L2.Inv X pS Y H s){dx:Dt}:∀{ds:List Dt}{vs:List V}{us:List Value}{i:Nat}(h1:i<ds.length)(h2:i<us.length),ds.all (okN 60)=true->zaJ X.K H ds vs->zbs vs us->zl7 X.K H dx us[i]=eqD ds[i] dx
 |[],_,_,_,h1,_,_,_,_=>by simp at h1
 |d::ds,vs,us,i,h1,h2,hk,h,r=>by
  obtain ⟨v,t,rfl,k1,k2⟩:=h.cons_inv;cases r with
  |cons r1 r2 =>
   simp only[List.all_cons,wae] at hk;cases i with
   |zero=>exact zn8 I hk.1 k1 r1
   |succ i=>exact zl4 I (i:=i) (by simpa using h1) (by simpa using h2) hk.2 k2 r2
def rIdx(K:W.Frag):V->List V->Hp->VK->Prop:=λx vs H Q=>∃ a zs dx ds j y,x=.ref a/\vs=[y]/\H a=some (.lst zs)/\zaJ K H ds zs/\Rep K H dx y/\okN 60 dx=true/\ds.all (okN 60)=true/\zoU dx ds=some j/\Q (.int j) H
theorem ztP(hu:X.A.units+65<cLine):MtR X "list.index" (rIdx X.K):=by
 intro pS s Y H x vs v us Q I rx rv h;obtain ⟨a,zs,dx,ds,j,y,rfl,rfl,hH,h1,h2,h3,h4,h5,q⟩:=h;cases rx;obtain ⟨u,rfl,ru⟩:=zbs.one rv;have hu1:X.A.in1.units+64<cLine:=by rw[ziF];lia
 obtain ⟨z,its,n,r,hl,e⟩:=I.lstM hH;obtain ⟨k1,k2,k3⟩:=zmS h5;have hlen:ds.length=its.length:=by rw[h1.length,r.length]
 have hj:(j:Int)<2 ^ 63-1:=by
  have:zs.length<=16777216:=by rw[<- zdK];exact z
  lia
 refine PySem.call_meets F.slot_list_index ⟨_,e,rfl⟩ F.entry_list_index (F.args_list_index_2 _ _)
  (SeqAt.list_indexAt a its.toArray n none #[] u (zl7 X.K H dx) j (by rw[List.size_toArray];lia) hj ?_ ?_) ⟨e,λw hw=>ze9 I hu1 h3 h2 ru h4 h1 r w (by simpa using hw),?_⟩
 ·have:=zl4 I (dx:=dx) (i:=j) k1 xwl h4 h1 r;simpa [this] using k2
 ·intro m hm hlt;have hm':m<its.length:=by simpa using hm
  have:=zl4 I (dx:=dx) (i:=m) xwl hm' h4 h1 r;have e3:=k3 m xwl hlt;simpa [this] using e3
 ·exact ⟨.int j,H,I.kept (t':=s.toks+1) (λ_ _ q=>q),⟨_,rfl⟩,q⟩
def zvT(fa fb:De):De:=λZ=>(fa Z).bind λa=>match a.1 with
 |.lst ds=>(fb a.2).bind λb=>if (okN 60 b.1 && ds.all (okN 60))=true then match zoU b.1 ds with
   |some j=>.ok (.int j,b.2)
   |none=>.no
  else .no
 |_=>.no
theorem zuA{apos:Pos}(hu:X.A.units+65<cLine)(ha:JE X C a fa)(hb:JE X C b fb)(hbase:attributeBase a "index" X.env (eval a X.env)=eval a X.env:=by rfl)
  (hfew:((backTo pos (starEach [b] X.env)).all (λx=>!x.1) && (backToKw pos (keywordEach [] X.env)).all (λx=>x.1.isSome) && decide ([b].length+([]:List Keyword).length+(if ([]:List Keyword).isEmpty then 0 else 1)<30))=true:=by rfl)
  (hline:(apos.endLine == pos.line)=true:=by rfl) (hs:starEach [b] X.env=(false,eval b X.env)::starEach [] X.env:=by rfl) (hplain:(backTo pos (starEach [] X.env)).any (·.1)=false:=by rfl) :
  JE X C (.Call (.Attribute a "index" apos) [b] [] pos) (zvT fa fb) :=
 PE.weak (zq0 PySem.F.plainAttrs_list PySem.F.slot_list_index PySem.F.type_list_index (ztP hu) ha (zbY hb zeW hs) hbase hfew hline hs hplain) λY H Q ⟨G,w,Z,r,p⟩=>by
  refine zeC (κ:=λG H w=>kE X.K C Y Q G H w) zcF r p λd Z1 v G1 H1 w1 r1 s1 q1 p1=>?_;cases d with
  |lst ds =>
   obtain ⟨ad,vs,rfl,h1,h2⟩:=zbg q1;refine ⟨.inl ⟨rfl,vs,SqL.of (r1.gh _ _ h1)⟩,?_⟩;refine zeC (κ:=λG H w=>kE X.K C Y Q G H w) zcF r1 p1 λd2 Z2 v2 G2 H2 w2 r2 s2 q2 p2=>?_;dsimp only at p2;split at p2
   ·rename_i hk;rw[Bool.and_eq_true] at hk;split at p2
    ·rename_i j ej;exact ⟨ad,vs,d2,ds,j,v2,rfl,rfl,r2.gh _ _ (s2.g _ _ h1),(h2.same s2.g).same r2.gh,q2.same r2.gh,hk.1,hk.2,ej,p2 _ G2 H2 w2 (.refl _ _ _) r2 (zaN _)⟩
    ·exact waO p2
   ·exact waO p2
  |_=>exact waO p1
end
theorem zp5:typeLookup (.type "list_reverseiterator") "__len__"=pure none:=by rw[typeLookup_type,builtinLookup_eq_fast];kernel_rfl
theorem zt2:typeLookup (.type "list_reverseiterator") "__length_hint__"=pure (some (.builtin "list_reverseiterator.__length_hint__")):=by rw[typeLookup_type,builtinLookup_eq_fast];kernel_rfl
section
variable{prog:Program}{w:World}{A:Around}{E:Value->Shared->Prop}{s:Shared}
theorem zvV{R:Result->Shared->Prop}{it l:Addr}{items:Array Value}(hh:A.handled=none)(hit:s.heap.IsRevIter it l ((items.size:Int)-1))(hl:s.heap.IsList l items)(hne:l≠it)(S:Addr)(res:Value)(c₀:Nat)(hS:s.heap.get? S=some { cls:=.type "list",data:=.seq #[] c₀ })(hSl:S≠l)
  (hn:items.size<=sizeLine)
  (hR:∀ h' tk acc' c',(∀ b o,b≠S->b≠it->s.heap.get? b=some o->h'.get? b=some o)->h'.get? S=some { cls:=.type "list",dict:=none,data:=.seq acc' c',slots:=#[] } ->
   ItemsOf (λi v=>items[items.size-1-i]? = some v) acc' items.size->R (.ok (.ret res)) { s with heap:=h',toks:=tk }) :
  wpAny (model prog w) A.in1 (Builtin.List.listExtendWith (.ref S) (.ref it) res)
   (λfin s'=>match fin with|.done f=>R (.ok f) s'|.again c'=>c'.quiet=true/\codeAny (model prog w) A c' R s') (λe s'=>R (.error e) s') s:=by
 have hSI:S≠it:=λe=>by obtain ⟨o,ho,hc,_⟩:=hit;rw[e,ho] at hS;cases hS;simp at hc
 have hSf:S∉[it,l]:=λhm=>by
  rcases wap.mp hm with z|z
  ·exact hSI z
  ·exact hSl (List.mem_singleton.mp z)
 unfold Builtin.List.listExtendWith;refine wab (wpAny_typeOf (T:="list_reverseiterator") hit.typeIs ?_);have h1:Builtin.List.listSameRef (.ref S) (.ref it)=false:=by simp[Builtin.List.listSameRef,hSI]
 have h2:(Value.type "list_reverseiterator" == Value.type "list")=false:=by decide +kernel
 have h3:(Value.type "list_reverseiterator" == Value.type "tuple")=false:=by decide +kernel
 simp only[h1,h2,h3,Bool.or_false,Bool.false_eq_true,if_false];refine wab (wpAny_pyIter_revIter hit ?_);refine wab (wpAny_holding ?_);unfold Builtin.List.listLengthHint;refine wab (wpAny_specialOf hit.typeIs zp5 ?_);show wpAny _ A.in1 (specialOf (Value.ref it) (Str.ofString "__length_hint__") >>= _) _ _ _;refine wab (wpAny_specialOf hit.typeIs zt2 ?_)
 wp_delta
 refine wab (wpAny_isInstance (T:="list_reverseiterator") (b:=true) hit.typeIs (by rw[isSubtype_type];kernel_rfl) ?_);refine wpAny_ite_split (λh=>absurd h xwd) (λ_=>?_);refine wpAny_ite_split (λ_=>?_) (λh=>absurd xwD h);refine wpAny_ite_split (λh=>absurd h xwD) (λ_=>wad ?_);rw[if_neg xwD];have W:=(Walks.listRev (prog:=prog) (w:=w) (A:=A.in1) hh it l hne items).toS;have hst:0<=items.size/\s.heap.IsRevIter it l ((items.size:Int)-1-((0:Nat):Int))/\s.heap.IsList l items:=⟨Nat.zero_le _,by simpa using hit,hl⟩
 refine wad ⟨plainId_quiet F.plain_extend_loop _,codeAny_extend_loopS W hn _ hSf _ items.size 0 _ _ _ rfl (Nat.zero_le _) hst hS (ItemsOf.nil _) λs' acc' c' hm hS' hacc=>?_⟩;rw[Moved.eq_with hm];refine hR s'.heap s'.toks acc' c' (λb ob hb hb2 e=>hm.heap b ob (λhmem=>?_) e) hS' hacc;rcases wap.mp hmem with e'|hmem
 ·exact hb e'
 ·exact hb2 (List.mem_singleton.mp hmem)
theorem zsI{R:Result->Shared->Prop}{it l:Addr}{items:Array Value}(hh:A.handled=none)(hit:s.heap.IsRevIter it l ((items.size:Int)-1))(hl:s.heap.IsList l items)(hne:l≠it)(S:Addr)(hS:s.heap.get? S=some { cls:=.type "list",data:=.seq #[] })(hSl:S≠l)(hSI:S≠it)
  (hn:items.size<=sizeLine)
  (hR:∀ h' tk acc' c',(∀ b o,b≠S->b≠it->s.heap.get? b=some o->h'.get? b=some o)->h'.get? S=some { cls:=.type "list",dict:=none,data:=.seq acc' c',slots:=#[] } ->
   ItemsOf (λi v=>items[items.size-1-i]? = some v) acc' items.size->R (.ok (.ret .none)) { s with heap:=h',toks:=tk }) :
  wpAny (model prog w) A.in1 (Builtin.«list.__init__» ⟨[.ref S,.ref it],[]⟩)
   (λfin s'=>match fin with|.done f=>R (.ok f) s'|.again c'=>c'.quiet=true/\codeAny (model prog w) A c' R s') (λe s'=>R (.error e) s') s:=by
 show wpAny _ _ (do let old <- Builtin.List.listItems (.ref S);Builtin.List.listUpdate (.ref S) (λ_=>#[]);letGo old.toList.reverse;Builtin.List.listExtendWith (.ref S) (.ref it) .none) _ _ s;refine wab ?_;unfold Builtin.List.listItems;refine wab (wpAny_seqItems hS rfl (wad ?_));show wpAny _ _ (updateSeq S (λ_=>#[]) >>= λ_=>letGo (#[]:Array Value).toList.reverse >>= λ_=>Builtin.List.listExtendWith (.ref S) (.ref it) .none) _ _ s;refine wab (wpAny_updateSeq hS rfl ?_);have k2:=Heap.get?_update_self (Obj.mapSeq (λ_=>(#[]:Array Value))) hS rfl;have oth:∀ b o,b≠S->s.heap.get? b=some o->(s.heap.update S (Obj.mapSeq (λ_=>(#[]:Array Value)))).get? b=some o :=
  λb o hb e=>(Heap.get?_update_other _ _ (Ne.symm hb)).trans e
 refine wab (wpAny_letGo ?_);exact zvV hh (hit.at λo e=>oth it o (Ne.symm hSI) e) (hl.at λo e=>oth l o (Ne.symm hSl) e) hne S .none _ k2 hSl hn λh' tk acc' c' hk hS' hacc=>hR h' tk acc' c' (λb o hb hb2 e=>hk b o hb hb2 (oth b o hb e)) hS' hacc
theorem zsW{Q:Value->Shared->Prop}{it l:Addr}{items:Array Value}(hh:A.handled=none)(hit:s.heap.IsRevIter it l ((items.size:Int)-1))(hl:s.heap.IsList l items)(hne:l≠it)(hn:items.size<=sizeLine)
  (hQ:∀ h' tk acc' c',(∀ b o,b≠it->s.heap.get? b=some o->h'.get? b=some o) ->
   h'.get? s.heap.objs.size=some { cls:=.type "list",dict:=none,data:=.seq acc' c',slots:=#[] }->ItemsOf (λi v=>items[items.size-1-i]? = some v) acc' items.size->Q (.ref s.heap.objs.size) { s with heap:=h',toks:=tk }) :
  wpAny (model prog w) A (call (.type "list") [.ref it]) Q E s:=by
 refine callType_codes (Q₁:=λobj s₁=>obj=.ref s.heap.objs.size/\s₁={ s with heap:=s.heap.push { cls:=.type "list",data:=.seq #[] } }) F.called_list (F.typeCall_list_1 _) F.entry_list_init
  (code_list_new _ ⟨rfl,rfl⟩) λobj s₁ h₁=>?_
 obtain ⟨rfl,rfl⟩:=h₁;have kS:(s.heap.push { cls:=.type "list",data:=.seq #[] }).get? s.heap.objs.size=some { cls:=.type "list",data:=.seq #[] }:=waj _ rfl;have lt1:l≠s.heap.objs.size:=by obtain ⟨o,e,_⟩:=hl;exact waM (wai e)
 have lt2:it≠s.heap.objs.size:=by obtain ⟨o,e,_⟩:=hit;exact waM (wai e)
 refine ⟨⟨_,kS,rfl⟩,F.args_list_init_2 _ _,zsI (A:=A.in1) hh (hit.at λo e=>waa _ e) (hl.at λo e=>waa _ e) hne _ kS (Ne.symm lt1) (Ne.symm lt2) hn λh' tk acc' c' hk hS' hacc=>?_⟩;exact ⟨rfl,hQ h' tk acc' c' (λb o hb e=>hk b o (waM (wai e)) hb (waa _ e)) hS' hacc⟩
end
section
variable{X:Cx}{C:Cn}{a:Expr}{fa:De}{pos:Pos}
theorem zpr:bootBuiltins "reversed"=some (.type "reversed"):=by decide +kernel
theorem zpj{vs:List V}{its:List Value}{acc:Array Value}(r:zbs vs its)(h:ItemsOf (λi v=>its.toArray[its.toArray.size-1-i]? = some v) acc its.toArray.size):zbs vs.reverse acc.toList:=by
 have e:acc.toList=its.reverse:=by
  apply List.ext_getElem?;intro i;have hs:acc.size=its.length:=by simpa using h.1
  by_cases hi:i<its.length
  ·have:=h.2 i acc[i] (by simp[hs,hi]);rw[List.getElem?_reverse hi];have e2:acc.toList[i]? = some acc[i]:=by simp[hs,hi]
   rw[e2];simpa using this.symm
  ·rw[List.getElem?_eq_none (by simpa [hs] using hi),List.getElem?_eq_none (by simpa using hi)]
 rw[e];exact r.reverse
theorem zrD{p1 p2 pos2:Pos}(hc:X.calm=true)(hg:Gl X "list")(hm:X.mg "list"=none)(hg2:Gl X "reversed")(hm2:X.mg "reversed"=none)(ha:JE X C a fa)(hs:starEach [a] X.env=[(false,eval a X.env)]:=by rfl)
  (hs2:starEach [.Call (.Name "reversed" p2) [a] [] pos2] X.env=[(false,eval (.Call (.Name "reversed" p2) [a] [] pos2) X.env)]:=by rfl) :
  JN X C (.Call (.Name "list" p1) [.Call (.Name "reversed" p2) [a] [] pos2] [] pos) (zgB fa):=by
 intro pS s Y H Q I ⟨G,w,Z,r,p⟩;refine PyProof.Rows.Call_ (zfd I hg hm PyProof.Rows.boot_list (PyProof.Rows.callWith_type1 ?_ hs2 rfl));rw[hs2];show wpAny _ _ (spliced ((false,eval (.Call (.Name "reversed" p2) [a] [] pos2) X.env)::backTo pos (starEach [] X.env))) _ _ s;refine Calls.spliced_cons (PyProof.Rows.Call_ (zfd I hg2 hm2 zpr (PyProof.Rows.callWith_type1 (thn (zau ha za7 hs pos2 pS s Y H (λvs H1=>∃(ad:Addr)(zs:List V),vs=[.ref ad]/\SqL X.K H1 ad zs/\∀ p,H1 p=none->Q (.ref p) (upd H1 p (.lst zs.reverse))) I ?_) λus s1 ⟨vs,H1,I1,r1,q1⟩=>?_) hs rfl)))
 ·refine ⟨G,w,Z,r,?_⟩;unfold zgB at p;unfold dA dA0;cases e:fa Z with
  |ok x =>
   obtain ⟨d,Z1⟩:=x;rw[e] at p;intro vs G1 H1 w1 s1 r1 q;obtain ⟨v,t,rfl,q1,q2⟩:=q.cons_inv;rw[q2.nil_inv];have p1:=zdc.step (κ:=λG H w=>kN X.K C Y Q G H w) zfG s1 p;cases d with
   |lst ds =>
    obtain ⟨ad,zs,rfl,h1,h2⟩:=zbg q1;refine ⟨ad,zs,rfl,SqL.of (r1.gh _ _ h1),λp hp=>?_⟩;have gr:zfS G1 H1 G1 (upd H1 p (.lst zs.reverse)):=.newH r1.gh hp;exact p1 p _ G1 _ w1 gr.step (r1.grow gr) hp za5 (r1.gh.free hp) (zf0 r1 hp) h2.reverse
   |_=>exact waO p1
  |er n=>rw[e] at p;exact p
  |no=>rw[e] at p;exact p
 ·obtain ⟨ad,zs,rfl,hq,q⟩:=q1;obtain ⟨u,rfl,ru⟩:=zgF r1;cases ru;obtain ⟨its,rv,pl,hz⟩:=I1.list hq;have hlen:=rv.length;refine call_reversed_list pl.isList ?_;refine Calls.spliced_nil ?_;have ne:ad≠s1.heap.objs.size:=by obtain ⟨o,n,e,_⟩:=id pl;exact waM (wai e)
  have I2:L2.Inv X pS Y H1 { s1 with heap:=s1.heap.push (revObj ad ((its.toArray.size:Int)-1)) }:=I1.kept (t':=s1.toks) λb ob q=>waa _ q;have hit:Heap.IsRevIter (s1.heap.push (revObj ad ((its.toArray.size:Int)-1))) s1.heap.objs.size ad ((its.toArray.size:Int)-1):=⟨_,waj _ rfl,rfl,rfl⟩
  have hl2:Heap.IsList (s1.heap.push (revObj ad ((its.toArray.size:Int)-1))) ad its.toArray:=pl.isList.at λo e=>waa _ e;refine zsW (s:={ s1 with heap:=s1.heap.push (revObj ad ((its.toArray.size:Int)-1)) }) (I.ok.hd hc) hit hl2 ne (by rw[List.size_toArray];lia) λh' tk acc c' hk hS hacc=>?_;have hsz:(s1.heap.push (revObj ad ((its.toArray.size:Int)-1))).objs.size=s1.heap.objs.size+1:=Heap.size_push ..;have hS':h'.get? (s1.heap.objs.size+1)=some { cls:=.type "list",dict:=none,data:=.seq acc c',slots:=#[] }:=by rw[<- hsz];exact hS
  show EP X pS Y Q (.ref (s1.heap.push (revObj ad ((its.toArray.size:Int)-1))).objs.size) _;rw[hsz];refine ⟨.ref (s1.heap.objs.size+1),_,I1.laid (h':=h') (t':=tk) (o:=.lst zs.reverse) (λb o e=>hk b o (waM (wai e)) (waa _ e)) (Nat.le_succ _) ⟨?_,acc.toList,c',zpj rv hacc,by simpa using hS'⟩,rfl,q _ (I1.hok.fresh (Nat.le_succ _))⟩;rw[List.length_reverse];exact hz
end
section
variable{X:Cx}{pS:List (Addr×Obj)}{Y:L2.St}{H:Hp}{s:Shared}
theorem znY{fp:List Addr}{h':Heap}{o:HO}{a:Addr}{t':Nat}(I:L2.Inv X pS Y H s)(hf:∀ b∈fp,zgP X pS H b)(k:∀ b ob,b∉fp->s.heap.get? b=some ob->h'.get? b=some ob)(hp:s.heap.objs.size<=a)(ht:∀ b ob,s.heap.get? b=some ob->∃ ob',h'.get? b=some ob')
  (new:zeN X.prog X.w (upd H a o) h' a o):L2.Inv X pS Y (upd H a o) { s with heap:=h',toks:=t' }:=by
 have hn:=I.hok.fresh hp;have nf:∀ b u,H b=some u->b∉fp:=λb u e z=>by rw[(hf b z).1] at e;cases e
 refine I.call (g':=s.gens) (d':=s.drawn) (ch:=fp) ⟨λb u q _ _ hx=>k b u hx q,λb u q _ _ hx=>⟨u.slots,k b u hx q⟩,λb u q n _=>?_,λb u q hx=>⟨u,k b u hx q⟩,λb xs q=>?_,λb u xs q=>?_,λb ps q=>⟨#[],?_⟩⟩ (λb u e=>?_) I.bare
  λb hb=>⟨(hf b hb).2.2.2.1,(hf b hb).2.1,(hf b hb).2.2.2.2.1,(hf b hb).2.2.2.2.2⟩
 ·rw[za1 (Nat.ne_of_lt (Nat.lt_of_lt_of_le (Heap.lt_size q) hp))];exact n
 ·rw[za1 (zay q hn)];exact q
 ·rw[za1 (zay q hn)];exact q
 ·rw[za1 (zay q hn),q];simp
 ·by_cases hb:b=a
  ·subst hb;rw[za5] at e;cases e;exact new
  ·rw[za1 hb] at e;refine (I.hok b u e).stay (λc v hc q=>k c v ?_ q) (λc q=>by rw[za1 (zay q hn)];exact q) λc xs q=>by rw[za1 (zay q hn)];exact q
   rcases hc with z|z
   ·rw[z];exact nf b u e
   ·exact nf c _ z
theorem ziZ{fp:List Addr}{h':Heap}{t':Nat}(I:L2.Inv X pS Y H s)(hf:∀ b∈fp,zgP X pS H b)(k:∀ b ob,b∉fp->s.heap.get? b=some ob->h'.get? b=some ob):L2.Inv X pS Y H { s with heap:=h',toks:=t' }:=by
 have nf:∀ b u,H b=some u->b∉fp:=λb u e z=>by rw[(hf b z).1] at e;cases e
 refine I.call (g':=s.gens) (d':=s.drawn) (ch:=fp) ⟨λb u q _ _ hx=>k b u hx q,λb u q _ _ hx=>⟨u.slots,k b u hx q⟩,λb u q n _=>n,λb u q hx=>⟨u,k b u hx q⟩,λb xs q=>q,λb u xs q=>q,λb ps q=>⟨#[],by rw[q];simp⟩⟩ (λb u e=>?_) I.bare
  λb hb=>⟨(hf b hb).2.2.2.1,(hf b hb).2.1,(hf b hb).2.2.2.2.1,(hf b hb).2.2.2.2.2⟩
 refine (I.hok b u e).stay (λc v hc q=>k c v ?_ q) (λ_ q=>q) λ_ _ q=>q;rcases hc with z|z
 ·rw[z];exact nf b u e
 ·exact nf c _ z
end
section
variable{prog:Program}{w:World}{A:Around}{E:Value->Shared->Prop}{s:Shared}
end
section
variable{X:Cx}{C:Cn}{elts:List Expr}{x1:Nat}{pt:Pos}{a b:Expr}{fa fb:De}{p pos:Pos}
end
def zpM{α:Type}(p:Int×α):List (Int×α)->List (Int×α)
 |[]=>[p]
 |q::r=>if p.1<=q.1 then p::q::r else q::zpM p r
def zhl{α:Type}:List (Int×α)->List (Int×α)
 |[]=>[]
 |p::r=>zpM p (zhl r)
theorem zjb{α:Type}(p:Int×α):∀ l:List (Int×α),(zpM p l).Perm (p::l)
 |[]=>.refl _
 |q::r=>by
  unfold zpM;split
  ·exact .refl _
  ·exact ((zjb p r).cons q).trans (.swap p q r)
theorem zbU{α:Type}:∀ l:List (Int×α),(zhl l).Perm l
 |[]=>.refl _
 |p::r=>(zjb p _).trans ((zbU r).cons p)
theorem zoB{α:Type}(p:Int×α):∀ l:List (Int×α),l.Pairwise (λa b=>a.1<=b.1)->(zpM p l).Pairwise (λa b=>a.1<=b.1)
 |[],_=>by simp[zpM]
 |q::r,h=>by
  unfold zpM;rw[List.pairwise_cons] at h;split
  ·rename_i z;refine List.pairwise_cons.mpr ⟨λx hx=>?_,List.pairwise_cons.mpr h⟩;rcases wap.mp hx with rfl|hx
   ·exact z
   ·exact Int.le_trans z (h.1 x hx)
  ·rename_i z;refine List.pairwise_cons.mpr ⟨λx hx=>?_,zoB p r h.2⟩;rcases wap.mp ((zjb p r).mem_iff.mp hx) with rfl|hx
   ·lia
   ·exact h.1 x hx
theorem zfz{α:Type}:∀ l:List (Int×α),(zhl l).Pairwise (λa b=>a.1<=b.1)
 |[]=>.nil
 |p::r=>zoB p _ (zfz r)
theorem zvP{α:Type}:∀{a b:List (Int×α)},a.Perm b->(a.map (·.1)).Nodup->a.Pairwise (λx y=>x.1<=y.1)->b.Pairwise (λx y=>x.1<=y.1)->a=b
 |[],b,p,_,_,_=>p.nil_eq
 |x::r,b,p,hn,ha,hb=>by
  cases b with
  |nil=>exact absurd p.length_eq xws
  |cons y t =>
   have hx:x∈y::t:=p.mem_iff.mp (.head _);have hy:y∈x::r:=p.mem_iff.mpr (.head _);rw[List.map_cons,List.nodup_cons] at hn;have e:x=y:=by
    rcases wap.mp hy with h'|h'
    ·exact h'.symm
    ·rcases wap.mp hx with h|h
     ·exact h
     ·have a1:=(List.pairwise_cons.mp ha).1 y h';have a2:=(List.pairwise_cons.mp hb).1 x h;have e1:x.1=y.1:=by lia
      exact absurd (List.mem_map.mpr ⟨y,h',e1.symm⟩) hn.1
   subst e;rw[zvP (List.Perm.cons_inv p) hn.2 (List.pairwise_cons.mp ha).2 (List.pairwise_cons.mp hb).2]
def byK{α:Type}(ks:List Int)(l:List α):List α:=(zhl (ks.zip l)).map (·.2)
theorem zmb{α β:Type}{F:α->β->Prop}{p:Int×α}{q:Int×β}(hp:p.1=q.1/\F p.2 q.2):∀{l:List (Int×α)}{r:List (Int×β)},Paired (λx y=>x.1=y.1/\F x.2 y.2) l r->Paired (λx y=>x.1=y.1/\F x.2 y.2) (zpM p l) (zpM q r)
 |_,_,.nil=>.cons hp .nil
 |x::l,y::r,.cons h t=>by
  unfold zpM;rw[hp.1,h.1];split
  ·exact .cons hp (.cons h t)
  ·exact .cons h (zmb hp t)
theorem zjM{α β:Type}{F:α->β->Prop}:∀{l:List (Int×α)}{r:List (Int×β)},Paired (λx y=>x.1=y.1/\F x.2 y.2) l r->Paired (λx y=>x.1=y.1/\F x.2 y.2) (zhl l) (zhl r)
 |_,_,.nil=>.nil
 |_,_,.cons h t=>zmb h (zjM t)
theorem zpv{α β:Type}{F:α->β->Prop}:∀(ks:List Int){l:List α}{r:List β},Paired F l r->Paired (λx y=>x.1=y.1/\F x.2 y.2) (ks.zip l) (ks.zip r)
 |[],_,_,_=>by simpa using Paired.nil
 |k::ks,_,_,.nil=>by simpa using Paired.nil
 |k::ks,_,_,.cons h t=>.cons ⟨rfl,h⟩ (zpv ks t)
theorem zoJ{α β:Type}{F:α->β->Prop}:∀{l:List (Int×α)}{r:List (Int×β)},Paired (λx y=>x.1=y.1/\F x.2 y.2) l r->Paired F (l.map (·.2)) (r.map (·.2))
 |_,_,.nil=>.nil
 |_,_,.cons h t=>.cons h.2 (zoJ t)
theorem zoG{α β:Type}{F:α->β->Prop}(ks:List Int){l:List α}{r:List β}(h:Paired F l r):Paired F (byK ks l) (byK ks r):=zoJ (zjM (zpv ks h))
theorem zeU{K:W.Frag}{G:Hp}:∀{ds:List Dt}{vs:List V},zaJ K G ds vs ↔ Paired (Rep K G) ds vs
 |[],vs=>⟨λh=>by rw[h.nil_inv];exact .nil,λh=>by cases h;exact zaJ.nil⟩
 |d::ds,vs=>⟨λh=>by
   obtain ⟨v,r,rfl,h1,h2⟩:=h.cons_inv;exact .cons h1 (zeU.mp h2),λh=>by
   cases h with
   |cons h1 h2=>exact zaJ.cons h1 (zeU.mpr h2)⟩
theorem ztN{K:W.Frag}{G:Hp}(ks:List Int){ds:List Dt}{vs:List V}(h:zaJ K G ds vs):zaJ K G (byK ks ds) (byK ks vs):=zeU.mpr (zoG ks (zeU.mp h))
theorem zw5{α:Type}{ks:List Int}{l:List α}(h:ks.length=l.length):(byK ks l).length=l.length:=by unfold byK;rw[List.length_map,(zbU _).length_eq,List.length_zip,h,Nat.min_self]
section
variable{X:Cx}{pS:List (Addr×Obj)}{Y:L2.St}{H:Hp}{s:Shared}
theorem zs6{fp:List Addr}{h':Heap}{o:HO}{a:Addr}{t':Nat}(I:L2.Inv X pS Y H s)(hf:∀ b∈fp,zgP X pS H b)(ha:a∈fp)(k:∀ b ob,b∉fp->s.heap.get? b=some ob->h'.get? b=some ob)
  (new:zeN X.prog X.w (upd H a o) h' a o):L2.Inv X pS Y (upd H a o) { s with heap:=h',toks:=t' }:=by
 have hn:=(hf a ha).1;have nf:∀ b u,H b=some u->b∉fp:=λb u e z=>by rw[(hf b z).1] at e;cases e
 refine I.call (g':=s.gens) (d':=s.drawn) (ch:=fp) ⟨λb u q _ _ hx=>k b u hx q,λb u q _ _ hx=>⟨u.slots,k b u hx q⟩,λb u q n hx=>?_,λb u q hx=>⟨u,k b u hx q⟩,λb xs q=>?_,λb u xs q=>?_,λb ps q=>⟨#[],?_⟩⟩ (λb u e=>?_) I.bare
  λb hb=>⟨(hf b hb).2.2.2.1,(hf b hb).2.1,(hf b hb).2.2.2.2.1,(hf b hb).2.2.2.2.2⟩
 ·rw[za1 (show b≠a from λz=>hx (by rw[z];exact ha))];exact n
 ·rw[za1 (zay q hn)];exact q
 ·rw[za1 (zay q hn)];exact q
 ·rw[za1 (zay q hn),q];simp
 ·by_cases hb:b=a
  ·subst hb;rw[za5] at e;cases e;exact new
  ·rw[za1 hb] at e;refine (I.hok b u e).stay (λc v hc q=>k c v ?_ q) (λc q=>by rw[za1 (zay q hn)];exact q) λc xs q=>by rw[za1 (zay q hn)];exact q
   rcases hc with z|z
   ·rw[z];exact nf b u e
   ·exact nf c _ z
theorem zxR{A':Around}{xe':Value->Shared->Prop}(I:L2.Inv X pS Y H s)(h1:A'.frames=X.A.frames)(h2:A'.handled=X.A.handled):L2.Inv { X with A:=A',xe:=xe' } pS Y H s :=
 ⟨⟨I.ok.mod,I.ok.kind,I.ok.glob,I.ok.blt,I.ok.above,I.ok.inj,I.ok.has,I.ok.cab,λz=>h2.trans (I.ok.hd z),h1.trans I.ok.frames,I.ok.stk,I.ok.exf,I.ok.bs,I.ok.bsz,I.ok.noex,I.ok.exfs,I.ok.funs,I.ok.frf⟩,I.os,I.bare,I.base,I.loc,I.cell,I.free,I.freeC,I.pin,I.hok,I.len⟩
theorem zve{A':Around}{xe':Value->Shared->Prop}(I:L2.Inv { X with A:=A',xe:=xe' } pS Y H s)(h1:A'.frames=X.A.frames)(h2:A'.handled=X.A.handled):L2.Inv X pS Y H s :=
 ⟨⟨I.ok.mod,I.ok.kind,I.ok.glob,I.ok.blt,I.ok.above,I.ok.inj,I.ok.has,I.ok.cab,λz=>h2.symm.trans (I.ok.hd z),h1.symm.trans I.ok.frames,I.ok.stk,I.ok.exf,I.ok.bs,I.ok.bsz,I.ok.noex,I.ok.exfs,I.ok.funs,I.ok.frf⟩,I.os,I.bare,I.base,I.loc,I.cell,I.free,I.freeC,I.pin,I.hok,I.len⟩
end
end PV
end
section
namespace PV
open PySem PySem.Spec L2 PyProof.Rows
section
variable{X:Cx}{pS:List (Addr×Obj)}{Y:L2.St}{H:Hp}{s:Shared}
theorem zz9{kS:Addr}{o o':Obj}{zby:List (Addr×Obj)}{h':Heap}{t':Nat}(J:L2.Inv X (pS++(kS,o)::zby) Y H s)(hf:zgP X (pS++zby) H kS)(hs:∀ b ob,b≠kS->s.heap.get? b=some ob->h'.get? b=some ob)(ho:h'.get? kS=some o')(hd:∀ v,o'.data≠.cell v) :
  L2.Inv X (pS++(kS,o')::zby) Y H { s with heap:=h',toks:=t' }:=by
 have J1:L2.Inv X (pS++zby) Y H s:=J.pins_of λp hp=>by
  refine J.pin p (waz _ ?_);rcases wax.mp hp with z|z
  ·exact waR _ z
  ·exact waz _ (wah _ z)
 have J2:L2.Inv X (pS++zby) Y H { s with heap:=h',toks:=t' }:=ziZ (fp:=[kS]) J1 (λb hb=>by rw[List.mem_singleton.mp hb];exact hf) λb ob nb e=>hs b ob (λz=>nb (by simp[z])) e;refine J2.pins_of λp hp=>?_;rcases wax.mp hp with z|z
 ·exact J2.pin p (waz _ (waR _ z))
 ·rcases wap.mp z with rfl|z
  ·exact ⟨ho,hf.1,hf.2.1,hf.2.2.1,hd⟩
  ·exact J2.pin p (waz _ (waz _ z))
theorem zzD{pS pins':List (Addr×Obj)}{H':Hp}{b:Addr}(h:zgP X pS H b)(hn:H' b=none)(hp:∀ p∈pins',p∈pS\/p.1≠b):zgP X pins' H' b :=
 ⟨hn,h.2.1,h.2.2.1,h.2.2.2.1,h.2.2.2.2.1,λp q=>by
  rcases wax.mp q with z|z
  ·exact h.2.2.2.2.2 p (waR _ z)
  ·rcases hp p z with y|y
   ·exact h.2.2.2.2.2 p (waz _ y)
   ·exact y⟩
variable{kS a:Addr}{kz:List Int}{vs:List Value}{xs:List V}{Θ : Hp->Prop}{e1:Nat}{A:Around}{E:Value->Shared->Prop}{P:PySem.Fin->Shared->Prop}
abbrev lo(ys:Array Value)(n:Nat):Obj:=seqObj "list" ys n
theorem zu7{st:SortSt}{keys:Array Value}{e:Nat}(J:L2.Inv X (pS++(kS,lo keys e)::[(a,lo #[] e1)]) Y H s)(hka:kS≠a)(fk:zgP X pS H kS)(fa:zgP X pS H a)(hv:zbs xs vs)(hk:IntsAre keys.toList kz)(hlen:kz.length=vs.length)(h64:vs.length<64)(hnd:kz.Nodup)
  (hp:(arrOf st).Perm (keys.zip vs.toArray)) (hs:SortedTo (arrOf st) (arrOf st).size) (hfl:failedOf st=none)
  (h:∀ h' tk,L2.Inv X pS Y (upd H a (.lst (byK kz xs))) { s with heap:=h',toks:=tk }->P (.done (.ret .none)) { s with heap:=h',toks:=tk }) :
  wpAny (model X.prog X.w) A (ksk_tail a false e1 (.ref kS) st) P E s:=by
 have nk:=(J.pin (kS,lo keys e) xws).1;have na:=(J.pin (a,lo #[] e1) xws).1;have hsz:keys.size=vs.length:=by have q:=hk.length;rw[Array.length_toList] at q;lia
 have hsz2:(arrOf st).size=vs.length:=by rw[hp.size_eq,Array.size_zip,hsz,List.size_toArray,Nat.min_self]
 have s1:=Heap.SameBut.update s.heap kS (Obj.mapSeq λ_=>(#[]:Array Value));have na1:(s.heap.update kS (Obj.mapSeq λ_=>(#[]:Array Value))).get? a=some (lo #[] e1):=(s1.2 a hka.symm).trans na;have s2:=Heap.SameBut.update (s.heap.update kS (Obj.mapSeq λ_=>(#[]:Array Value))) a (Obj.mapSeq λ_=>(arrOf st).map (·.2));obtain ⟨c2,hc2⟩ : ∃ c2,((s.heap.update kS (Obj.mapSeq λ_=>(#[]:Array Value))).update a (Obj.mapSeq λ_=>(arrOf st).map (·.2))).get? a=some (lo ((arrOf st).map (·.2)) c2):=⟨_,get?_update_seq na1 λ_=>(arrOf st).map (·.2)⟩
 obtain ⟨ps,q1,q2,q3⟩:=ksk_out (b:=false) hk hp hs;have hmap:∀(l:List Int)(r:List Value),l.length=r.length->(l.zip r).map (·.1)=l:=λl r hl=>by rw[List.map_fst_zip];lia
 have eo:ps=zhl (kz.zip vs):=by refine zvP (q1.trans (zbU _).symm) ?_ (by simpa using q3) (zfz _);have z:=q1.map Prod.fst;rw[z.nodup_iff];rw[show (kz.zip vs).map Prod.fst=kz from hmap kz vs hlen];exact hnd
 have eout:((arrOf st).map (·.2)).toList=byK kz vs:=by have z:((if false=true then ((arrOf st).map (·.2)).reverse else (arrOf st).map (·.2)):Array Value).toList=ps.map Prod.snd:=q2;rw[if_neg Bool.false_ne_true] at z;rw[z,eo];rfl
 have J0:L2.Inv X pS Y H s:=J.unpinned;unfold ksk_tail
 try dsimp only
 refine wab (listUpdate_at nk rfl ?_ (by rw[hsz,sizeLine_eq];lia) (Nat.zero_le _));refine wab (wpAny_letGo (wab (seqEpoch_at na1 rfl ?_)));refine wab (listUpdate_at na1 rfl ?_ (Nat.zero_le _) (by simp only[Bool.false_eq_true,if_false,Array.size_map];rw[hsz2,sizeLine_eq];lia));rw[hfl];simp only[bne_self_eq_false,Bool.false_eq_true,if_false];refine wad (h _ s.toks (zs6 (fp:=[kS,a]) (s:=s) (t':=s.toks) J0 (λb hb=>?_) xws (λb ob nb q=>?_) ⟨?_,byK kz vs,c2,zoG kz hv,?_⟩))
 ·simp only[wap,wak,or_false] at hb;rcases hb with rfl|rfl
  ·exact fk
  ·exact fa
 ·simp only[wap,wak,or_false,not_or] at nb;exact (s2.2 b nb.2).trans ((s1.2 b nb.1).trans q)
 ·have hl:=hv.length;rw[zw5 xwl,zdK];lia
 ·rw[<- eout,Array.toArray_toList];exact hc2
theorem zz8{keys:Array Value}{e:Nat}(J:L2.Inv X (pS++(kS,lo keys e)::[(a,lo #[] e1)]) Y H s)(hka:kS≠a)(fk:zgP X pS H kS)(fa:zgP X pS H a)(hv:zbs xs vs)(hk:IntsAre keys.toList kz)(hlen:kz.length=vs.length)(h64:vs.length<64)(hnd:kz.Nodup)
  (h:∀ h' tk,L2.Inv X pS Y (upd H a (.lst (byK kz xs))) { s with heap:=h',toks:=tk }->P (.done (.ret .none)) { s with heap:=h',toks:=tk }) :
  wpAny (model X.prog X.w) A (ksk_end a false vs.toArray e1 (.ref kS) keys) P E s:=by
 have hsz:keys.size=vs.length:=by have q:=hk.length;rw[Array.length_toList] at q;lia
 have hzs:(keys.zip vs.toArray).size=vs.length:=by rw[Array.size_zip,hsz,List.size_toArray,Nat.min_self]
 unfold ksk_end
 try dsimp only
 simp only[Bool.false_eq_true,if_false];by_cases h2:vs.toArray.size<2
 ·rw[if_pos h2,if_pos h2];refine wab (wad ?_);rw[StateT.run_pure];refine wab (wad ?_)
  try dsimp only
  refine zu7 (st:=SortSt.mk' general' (keys.zip vs.toArray) #[] 7 none) J hka fk fa hv hk hlen h64 hnd (Array.Perm.refl _) (λi j hij hj=>?_) rfl h;have hj2:j<(keys.zip vs.toArray).size:=hj;rw[hzs] at hj2;rw[List.size_toArray] at h2;have:i=j:=by lia
  subst this;exact Int.le_refl _
 ·rw[if_neg h2,if_neg h2];rw[List.size_toArray] at h2;rw[ksk_kind hk (by rw[hsz];lia)];refine wab (wad (wab (wpAny_mono (wpS_sortRuns (a₀:=keys.zip vs.toArray) (st:=SortSt.mk' oneType' (keys.zip vs.toArray) #[] 7 none)
   (Q:=λ_ st'=>(arrOf st').Perm (keys.zip vs.toArray)/\failedOf st'=none/\SortedTo (arrOf st') (keys.zip vs.toArray).size)
   (ksk_intKeys hk) ⟨Array.Perm.refl _,rfl,rfl,rfl⟩ (by rw[hzs];lia) (by rw[hzs];exact h64) λst' a1 a2 a3=>⟨a1,a2,a3⟩) ?_ λ_ _ e=>e)))
  rintro ⟨⟨⟩,st'⟩ s' ⟨rfl,hp,hf,hs⟩
  try dsimp only
  exact zu7 J hka fk fa hv hk hlen h64 hnd hp (by rw[hp.size_eq];exact hs) hf h
theorem zx0{f:Value}(J:L2.Inv X (pS++(kS,lo #[] 0)::[(a,lo #[] e1)]) Y H s)(hka:kS≠a)(fk:zgP X pS H kS)(fa:zgP X pS H a)(hv:zbs xs vs)(hlen:kz.length=vs.length)(h64:vs.length<64)(hnd:kz.Nodup)(hθ : Θ H)
  (turn:∀(i:Nat)(u:Value)(k:Int),vs[i]? = some u->kz[i]? = some k->∀(pins':List (Addr×Obj))(s':Shared)(H':Hp),L2.Inv X pins' Y H' s'->Θ H'->wpAny (model X.prog X.w) A (call f [u]) (λr s2=>∃ t H2,r=.int k t/\L2.Inv X pins' Y H2 s2/\Θ H2) (λ_ _=>False) s')
  (h:∀ H2 s2,Θ H2->H2 a=none->L2.Inv X pS Y (upd H2 a (.lst (byK kz xs))) s2->P (.done (.ret .none)) s2) :
  wpAny (model X.prog X.w) A (ksk_rest a f false vs.toArray e1 (.ref kS)) P E s:=by
 unfold ksk_rest;refine wab (wpAny_rule ?_)
 first
  |rw[List.forIn_toArray]
  | (rw[<- Array.forIn_toList];simp only[List.toList_toArray])
 refine wab (ksk_fold (λi s'=>∃ H' kA e,Θ H'/\L2.Inv X (pS++(kS,lo kA e)::[(a,lo #[] e1)]) Y H' s'/\IntsAre kA.toList (kz.take i)) vs 0 s ⟨H,#[],0,hθ,J,by simpa using IntsAre.nil⟩ ?step ?done)
 case step =>
  rintro j x s' hx ⟨H',kA,e,hθ',J',hk⟩;simp only[Nat.zero_add] at hk ⊢;have hj:j<vs.length:=(wam.mp hx).1;obtain ⟨k,hkj⟩ : ∃ k,kz[j]? = some k:=⟨_,wac xwl⟩
  have hz:kA.size<=vs.length:=by have q:=hk.length;rw[Array.length_toList,List.length_take] at q;lia
  refine wab (wpAny_attempt (wpAny_mono (turn j x k hx hkj _ s' H' J' hθ') (λv s'' he=>?_) λ_ _ z=>z.elim));obtain ⟨t,H2,rfl,J2,hθ2⟩:=he
  try dsimp only
  have nk:=J2.pin (kS,lo kA e) xws;obtain ⟨c2,hc2⟩ : ∃ c2,(s''.heap.update kS (Obj.mapSeq (·.push (.int k t)))).get? kS=some (lo (kA.push (.int k t)) c2):=⟨_,get?_update_seq nk.1 (·.push (.int k t))⟩
  have s1:=Heap.SameBut.update s''.heap kS (Obj.mapSeq (·.push (.int k t)));refine wab (listUpdate_at nk.1 rfl ?_ (by rw[sizeLine_eq];lia) (waN (Nat.le_of_eq (Array.size_push ..)) (by rw[sizeLine_eq];lia)));refine wad ⟨rfl,H2,kA.push (.int k t),c2,hθ2,zz9 (t':=s''.toks) J2 (zzD fk nk.2.1 λp hp=>?_) (λb ob nb q=>(s1.2 b nb).trans q) hc2 (λv z=>by cases z),?_⟩
  ·rcases wax.mp hp with z|z
   ·exact .inl z
   ·exact .inr (by rw[List.mem_singleton.mp z];exact hka.symm)
  ·have ek:kz.take (j+1)=kz.take j++[k]:=by rw[List.take_add_one,hkj];simp
   have ea:(kA.push (Value.int k t)).toList=kA.toList++[Value.int k t]:=by simp
   rw[ea,ek];exact ksk_snoc hk
 case done =>
  rintro s' ⟨H',kA,e,hθ',J',hk⟩;have hk':IntsAre kA.toList kz:=by rw[show kz.take (0+vs.length)=kz from List.take_of_length_le xwl] at hk;exact hk
  have nk:=J'.pin (kS,lo kA e) xws;have na:=J'.pin (a,lo #[] e1) xws
  try dsimp only
  refine wab (listItems_at nk.1 rfl ?_);exact zz8 J' hka (zzD fk nk.2.1 λp hp=>.inl hp) (zzD fa na.2.1 λp hp=>.inl hp) hv hk' hlen h64 hnd λh' tk IN=>h H' _ hθ' na.2.1 IN
end
section
variable{X:Cx}{pS:List (Addr×Obj)}{Y:L2.St}{H:Hp}{s:Shared}
theorem zpO{l f:Addr}{xs:List V}{vs:List Value}{kz:List Int}{Θ : Hp->Prop}{Q:VK}(I:L2.Inv X pS Y H s)(hl:s.heap.IsList l vs.toArray)(hv:zbs xs vs)(hlen:kz.length=vs.length)(h64:vs.length<64)(hnd:kz.Nodup)(hθ : Θ H)
  (turn:∀(i:Nat)(u:Value)(k:Int),vs[i]? = some u->kz[i]? = some k->∀(pins':List (Addr×Obj))(s':Shared)(H':Hp),L2.Inv X pins' Y H' s'->Θ H'->wpAny (model X.prog X.w) X.A.in1.in1 (call (.ref f) [u]) (λr s2=>∃ t H2,r=.int k t/\L2.Inv X pins' Y H2 s2/\Θ H2) (λ_ _=>False) s')
  (h:∀ H2 a,Θ H2->H a=none->H2 a=none->Q (.ref a) (upd H2 a (.lst (byK kz xs)))) :
  wpAny (model X.prog X.w) X.A (call (.builtin "sorted") [.ref l] [(Str.ofString "key",.ref f)]) (EP X pS Y Q) X.xe s:=by
 refine call_function_entry_kw kind_sorted plain_sorted entry_sorted (ksk_s1 _ _) ?_;unfold Builtin.«sorted»;refine wab (m:=checkCount "sorted" 1 1 _) (wad (wab (collect_list hl ?_ (by rw[sizeLine_eq];lia))));refine wab (wpAny_newList ?_ (by rw[sizeLine_eq];lia));have z1:((s.heap.push (seqObj "list" #[] 0)).update s.heap.objs.size (Obj.mapSeq (·++vs.toArray))).objs.size=s.heap.objs.size+1:=by rw[Heap.size_update,size_push']
 have ka:(((s.heap.push (seqObj "list" #[] 0)).update s.heap.objs.size (Obj.mapSeq (·++vs.toArray))).push (seqObj "list" vs.toArray 0)).get? (s.heap.objs.size+1)=some (seqObj "list" vs.toArray 0):=by rw[<- z1];exact waj _ rfl
 have k0:∀ b o,s.heap.get? b=some o->(((s.heap.push (seqObj "list" #[] 0)).update s.heap.objs.size (Obj.mapSeq (·++vs.toArray))).push (seqObj "list" vs.toArray 0)).get? b=some o:=λb o q=>by have lt:b<s.heap.objs.size:=wai q;refine waa _ ?_;rw[Heap.get?_update_ne _ _ _ _ (Nat.ne_of_lt lt)];exact waa _ q
 generalize hg:(((s.heap.push (seqObj "list" #[] 0)).update s.heap.objs.size (Obj.mapSeq (·++vs.toArray))).push (seqObj "list" vs.toArray 0))=g0 at ka k0;have z2:g0.objs.size=s.heap.objs.size+2:=by rw[<- hg,size_push',z1]
 show wpAny _ _ _ _ _ { s with heap:=g0 };rw[z1];refine wab (wpAny_holding (wpAny_call_entry_kw slot_list_sort ⟨_,ka,rfl⟩ entry_list_sort ?body (ksk_l1 _ _)))
 case body =>
  show wpAny (model X.prog X.w) X.A.in1.in1 (Builtin.«list.sort» ⟨[.ref (s.heap.objs.size+1)],[(Str.ofString "key",.ref f)]⟩) _ _ _;rw[ksk_t1];have sb:=Heap.SameBut.update g0 (s.heap.objs.size+1) (Obj.mapSeq λ_=>(#[]:Array Value));obtain ⟨e1,ka1⟩ : ∃ e1,(g0.update (s.heap.objs.size+1) (Obj.mapSeq λ_=>(#[]:Array Value))).get? (s.heap.objs.size+1)=some (seqObj "list" #[] e1):=⟨_,get?_update_seq ka λ_=>#[]⟩
  unfold ksk_tree;refine wab (listItems_at ka rfl (wab (listUpdate_at ka rfl ?_ (by rw[List.size_toArray,sizeLine_eq];lia) (Nat.zero_le _))));refine wab (seqEpoch_at ka1 rfl (wab (wpAny_newTuple ?_ (by show vs.length<=_;rw[sizeLine_eq];lia))));refine wab (wpAny_newList ?_ (Nat.zero_le _));refine wpAny_holding ?_;have z3:((g0.update (s.heap.objs.size+1) (Obj.mapSeq λ_=>(#[]:Array Value))).push (seqObj "tuple" vs.toArray 0)).objs.size=s.heap.objs.size+3:=by rw[size_push',Heap.size_update,z2]
  have k1:∀ b o,s.heap.get? b=some o->(((g0.update (s.heap.objs.size+1) (Obj.mapSeq λ_=>(#[]:Array Value))).push (seqObj "tuple" vs.toArray 0)).push (seqObj "list" #[] 0)).get? b=some o:=λb o q =>
   waa _ (waa _ ((sb.2 b (waM (Nat.lt_succ_of_lt (wai q)))).trans (k0 b o q)))
  have ga:(((g0.update (s.heap.objs.size+1) (Obj.mapSeq λ_=>(#[]:Array Value))).push (seqObj "tuple" vs.toArray 0)).push (seqObj "list" #[] 0)).get? (s.heap.objs.size+1)=some (seqObj "list" #[] e1):=waa _ (waa _ ka1);have gk:(((g0.update (s.heap.objs.size+1) (Obj.mapSeq λ_=>(#[]:Array Value))).push (seqObj "tuple" vs.toArray 0)).push (seqObj "list" #[] 0)).get? (s.heap.objs.size+3)=some (seqObj "list" #[] 0):=by rw[<- z3];exact waj _ rfl
  show wpAny _ _ (ksk_rest (s.heap.objs.size+1) (.ref f) false vs.toArray e1 (.ref ((g0.update (s.heap.objs.size+1) (Obj.mapSeq λ_=>(#[]:Array Value))).push (seqObj "tuple" vs.toArray 0)).objs.size)) _ _ { s with heap:=((g0.update (s.heap.objs.size+1) (Obj.mapSeq λ_=>(#[]:Array Value))).push (seqObj "tuple" vs.toArray 0)).push (seqObj "list" #[] 0) };rw[z3];generalize ((g0.update (s.heap.objs.size+1) (Obj.mapSeq λ_=>(#[]:Array Value))).push (seqObj "tuple" vs.toArray 0)).push (seqObj "list" #[] 0)=g3 at k1 ga gk;have I3:L2.Inv X pS Y H { s with heap:=g3 }:=I.kept (t':=s.toks) k1;have la:s.heap.objs.size<=s.heap.objs.size+1:=waT ..;have lk:s.heap.objs.size<=s.heap.objs.size+3:=waT ..;have fa:zgP X pS H (s.heap.objs.size+1):=I.fpOk la (I.hok.fresh la);have fk:zgP X pS H (s.heap.objs.size+3):=I.fpOk lk (I.hok.fresh lk);have J:L2.Inv X (pS++(s.heap.objs.size+3,lo #[] 0)::[(s.heap.objs.size+1,lo #[] e1)]) Y H { s with heap:=g3 }:=I3.pins_of λp hp=>by
   rcases wax.mp hp with z|z
   ·exact I3.pin p (waz _ z)
   ·rcases wap.mp z with rfl|z
    ·exact ⟨gk,fk.1,fk.2.1,fk.2.2.1,λv z=>by cases z⟩
    ·rw[List.mem_singleton.mp z];exact ⟨ga,fa.1,fa.2.1,fa.2.2.1,λv z=>by cases z⟩
  refine zx0 (Θ := Θ) J (λz=>absurd (Nat.add_left_cancel z) xwd) fk fa hv hlen h64 hnd hθ turn λH2 s2 t2 n2 IN=>⟨_,rfl,?_⟩
  exact wad ⟨_,rfl,.ref (s.heap.objs.size+1),_,IN,rfl,h H2 _ t2 fa.1 n2⟩
end
def zfc(F:FD):List Dt->Option (List Int)
 |[]=>some []
 |d::r=>match F [.val d] with
  |.ok (.int k,_)=>(zfc F r).map (k::·)
  |_=>none
theorem zjZ{F:FD}:∀{ds:List Dt}{ks:List Int},zfc F ds=some ks->ks.length=ds.length
 |[],ks,h=>by simp[zfc] at h;subst h;rfl
 |d::r,ks,h=>by
  unfold zfc at h;split at h
  ·simp only[Option.map_eq_some_iff] at h;obtain ⟨k',h1,rfl⟩:=h;simp[zjZ h1]
  ·cases h
theorem zkn{F:FD}:∀{ds:List Dt}{ks:List Int}{i:Nat}{k:Int}{d:Dt},zfc F ds=some ks->ks[i]? = some k->ds[i]? = some d->∃ b,F [.val d]=.ok (.int k,b)
 |[],ks,i,k,d,h,e1,e2=>by simp at e2
 |d0::r,ks,i,k,d,h,e1,e2=>by
  unfold zfc at h;split at h
  ·rename_i k0 b0 ef;simp only[Option.map_eq_some_iff] at h;obtain ⟨k',h1,rfl⟩:=h;cases i with
   |zero=>simp at e1 e2;subst e1;subst e2;exact ⟨_,ef⟩
   |succ i=>exact zkn (i:=i) h1 (by simpa using e1) (by simpa using e2)
  ·cases h
def zjg:List Int->Bool
 |[]=>true
 |a::r=>!r.contains a && zjg r
theorem zm5:∀{l:List Int},zjg l=true->l.Nodup
 |[],_=>.nil
 |a::r,h=>by unfold zjg at h;rw[Bool.and_eq_true] at h;refine List.nodup_cons.mpr ⟨λz=>?_,zm5 h.2⟩;have:=h.1;simp[z] at this
def zmu(F:FD)(fa:De):DN:=λZ=>(fa Z).bind λa=>match a.1 with
 |.lst ds=>match zfc F ds with
  |some ks=>if (decide (ds.length<64) && zjg ks)=true then .ok (byK ks ds,a.2) else .no
  |none=>.no
 |_=>.no
theorem zpo{d:Dt}{bs:List B}:∀{Z:Ev}{k:Nat},zjD [.d d] bs k Z = Z
 |[],_=>rfl
 |o::r,k=>by show (match zf3 [.d d] k with|some j=>bs[j]?|none=>o)::zjD [.d d] bs (k+1) r=_;rw[zpo (Z:=r)];rfl
section
variable{X:Cx}{C:Cn}{CX:CXT}{k k':Nat}{Fd:FD}{x:Str}{p pf kp pos:Pos}{a:Expr}{fa:De}
theorem ztC(D:Dfn false X.prog X.w X.K X.mg X.base CX C.xv k x [false] Fd)(hr:zgv (k'+2) X.A)(hk:k<=k')(hx:zep CX { X with A:=X.A.in1.in1,xe:=λ_ _=>False } (λ_ _ _=>False))(hg:Gl X "sorted")(hm:X.mg "sorted"=none)(ha:JE X C a fa)(hgf:Gl X x:=by rfl)(hdb:(x == ("__debug__" : Str))=false:=by decide)
  (hs:starEach [a] X.env=(false,eval a X.env)::starEach [] X.env:=by rfl) (he:backTo pos (starEach [a] X.env)=(false,eval a X.env)::backTo pos (starEach [] X.env):=by rfl) (hplain:(backTo pos (starEach [a] X.env)).any (·.1)=false:=by rfl)
  (hall:(backToKw pos (keywordEach [⟨some "key",.Name x pf,kp⟩] X.env)).all (·.1.isSome)=true:=by rfl) (hkw:(backToKw pos (keywordEach [⟨some "key",.Name x pf,kp⟩] X.env)).any (·.1.isNone)=false:=by rfl)
  (hks:(backToKw pos (keywordEach [⟨some "key",.Name x pf,kp⟩] X.env)).filterMap (·.1)=[Str.ofString "key"]:=by rfl) :
  JN X C (.Call (.Name "sorted" p) [a] [⟨some "key",.Name x pf,kp⟩] pos) (zmu Fd fa):=by
 obtain ⟨f,fd,ps,h1,h2,h3,h4,h5⟩:=D.ex;intro pS s Y H Q I ⟨G,w,Z,r,pp⟩;refine wpAny_Call_Name_kw (zfd I hg hm boot_sorted ?_);refine callWith_kw (thn (zau ha za7 hs pos pS s Y H (λvs H1=>∃ G1 w1 ad xs ds ks Z1,vs=[.ref ad]/\zbK G H w G1 H1 w1/\Rel X.K C G1 w1 Z1 Y H1/\H1 ad=some (.lst xs)/\zaJ X.K G1 ds xs/\zfc Fd ds=some ks/\ds.length<64/\ks.Nodup/\kN X.K C Y Q G1 H1 w1 (byK ks ds,Z1)) I ?_) λus s1 ⟨vs,H1,I1,r1,q1⟩=>?_) he hplain hall hkw
 ·refine ⟨G,w,Z,r,?_⟩;unfold zmu at pp;unfold dA dA0;cases e:fa Z with
  |ok z =>
   obtain ⟨d,Z1⟩:=z;rw[e] at pp;intro vs G1 H1 w1 s1 r1 q;obtain ⟨v,t,rfl,q1,q2⟩:=q.cons_inv;rw[q2.nil_inv];have p1:=zdc.step (κ:=λG H w=>kN X.K C Y Q G H w) zfG s1 pp;cases d with
   |lst ds =>
    simp only[R.bind_ok] at p1;split at p1
    ·rename_i ks ek;split at p1
     ·rename_i hl;rw[Bool.and_eq_true] at hl;obtain ⟨ad,zs,rfl,m1,m2⟩:=zbg q1;exact ⟨G1,w1,ad,zs,ds,ks,Z1,rfl,s1,r1,r1.gh _ _ m1,m2,ek,of_decide_eq_true hl.1,zm5 hl.2,p1⟩
     ·exact waO p1
    ·exact waO p1
   |_=>exact waO p1
  |er n=>rw[e] at pp;exact pp
  |no=>rw[e] at pp;exact pp
 ·obtain ⟨G1,w1,ad,xs,ds,ks,Z1,rfl,st1,rel1,hH,hreps,ek,hl,hnd,kk⟩:=q1;obtain ⟨u,rfl,ru⟩:=zgF r1;cases ru;refine thn (zwh (nm:=some "key") (kpos:=kp) (zsk (v:=.ref f) (pos:=pf) hgf h2 rfl hdb) zxU pos pS s1 Y H1 (λvs H2=>vs=[.ref f]/\H2=H1) I1 ⟨rfl,rfl⟩) λws s2 ⟨zs,H2,I2,r2,e2,e3⟩=>?_;subst e2;subst e3;obtain ⟨u,rfl,ru⟩:=zgF r2;cases ru;rw[hks];show wpAny _ _ (call (.builtin "sorted") [.ref ad] [(Str.ofString "key",.ref f)]) _ _ _;obtain ⟨zz,its,n,rv,hle,eo⟩:=I2.lstM hH;have hld:=hreps.length;have hlk:=zjZ ek;refine zpO (xs:=xs) (vs:=its) (kz:=ks) (Θ := λH3=>∃ G3 w3,zbK G1 H2 w1 G3 H3 w3/\Rel X.K C G3 w3 Z1 Y H3) I2 ⟨_,eo,rfl,n,rfl⟩ rv xwl xwl hnd ⟨G1,w1,.refl _ _ _,rel1⟩ ?_ ?_
  ·intro i u kk' hu hki pins' s' H' I' ⟨G3,w3,st3,rel3⟩;have hi:i<ds.length:=by have:=(wam.mp hki).1;lia
   have hd:ds[i]? = some ds[i]:=by simp[hi]
   obtain ⟨xv,hx1,hx2⟩:=hreps.get hd;obtain ⟨u',hu1,hu2⟩:=rv.get hx1;rw[hu] at hu1;cases hu1;obtain ⟨bb,hF⟩:=zkn ek hki hd;have hx3:=hx2.same st3.g;have IA:L2.Inv { X with A:=X.A.in1.in1,xe:=λ_ _=>False } pins' Y H' s':=zxR I' rfl rfl;have hrun:=zuK (X:={ X with A:=X.A.in1.in1,xe:=λ_ _=>False }) (CX:=CX) (us:=[u]) (vs:=[xv]) (E:=λ_ _ _=>False) (Q:=λv H4=>v=.int kk'/\∃ G4 w4,zbK G1 H2 w1 G4 H4 w4/\Rel X.K C G4 w4 Z1 Y H4) h1 ((hr.in1.in1).mono hk) h4 .nil hx IA (.cons hu2 .nil) ?_
   ·refine wpAny_mono hrun (λv s4 hq=>?_) λ_ _ z=>z;obtain ⟨v4,H4,I4,rv4,e4,G4,w4,st4,rel4⟩:=hq;subst e4;obtain ⟨t,rfl⟩:=rv4;exact ⟨t,H4,rfl,zve I4 rfl rfl,G4,w4,st4,rel4⟩
   ·rw[List.append_nil];refine ⟨G3,wIn w3 [.d ds[i]],[.val ds[i]],rfl,rfl,⟨rel3.gh,λb e=>rel3.wg b λz=>e (by unfold wIn;rw[z];rfl),λb e=>rel3.wh b λz=>e (by unfold wIn;rw[z];rfl),rfl,λj b v e1 e2=>?_⟩,?_⟩
    ·cases j with
     |zero=>simp at e1 e2;subst e1;subst e2;exact hx3
     |succ j=>simp at e1
    ·rw[hF];intro v G4 H4 w4 s4 pb q;obtain ⟨r',st'⟩:=rel3.back (as:=[.d ds[i]]) (vs:=[xv]) (bs:=[.val ds[i]]) (ks:=[false]) rfl ⟨xv,[],rfl,hx3,rfl⟩ rfl rfl s4 pb;rw[zpo] at r';exact ⟨zaF (K:=X.K) (G:=G4) q,G4,_,st3.trans st',r'⟩
  ·intro H3 b ⟨G3,w3,st3,rel3⟩ hb0 hb3;have gr:zfS G3 H3 G3 (upd H3 b (.lst (byK ks xs))):=.newH rel3.gh hb3;exact kk b _ G3 _ w3 (st3.trans gr.step) (rel3.grow gr) hb0 za5 (rel3.gh.free hb3) (zf0 rel3 hb3) (ztN ks (hreps.same st3.g))
end
end PV
end
section
namespace PV
open PySem PySem.Spec L2
def zeV(g:DG)(ft:DT)(fe:DN):List Dt->Ev->R (List (List Dt)×Ev)
 |[],Z=>.ok ([],Z)
 |d::r,Z=>(g d Z).bind λZ1=>(ft Z1).bind λt=>if t.1=true then (fe t.2).bind λy=>(zeV g ft fe r y.2).bind λz=>.ok (y.1::z.1,z.2) else zeV g ft fe r t.2
def zpk(K:W.Frag)(H0:Hp)(D:Addr)(G H:Hp)(w:Wn)(dss:List (List Dt))(as:List Addr):Prop :=
 (D::as).Nodup/\Paired (λb ds=>H0 b=none/\G b=none/\w b=none/\∃ us,H b=some (.lst us)/\zaJ K G ds us) as dss
theorem zpk.step{K:W.Frag}{H0 G H G' H':Hp}{w w':Wn}{D:Addr}{dss:List (List Dt)}{as:List Addr}(q:zpk K H0 D G H w dss as)(s:zbK G H w G' H' w'):zpk K H0 D G' H' w' dss as :=
 ⟨q.1,zeu (λb ds ⟨h1,h2,h3,us,h4,h5⟩=>by obtain ⟨k1,k2,k3⟩:=s.keep h2 h3 h4;exact ⟨h1,k1,k2,us,k3,h5.same s.g⟩) q.2⟩
theorem zhr{α β:Type}{F:α->β->Prop}:∀{l:List α}{r:List β},Paired F l r->l.length=r.length
 |_,_,.nil=>rfl
 |_,_,.cons _ t=>by simp[zhr t]
theorem zgu{α β:Type}{F:α->β->Prop}{a:α}{b:β}(h:F a b):∀{l:List α}{r:List β},Paired F l r->Paired F (l++[a]) (r++[b])
 |_,_,.nil=>.cons h .nil
 |_,_,.cons x t=>.cons x (zgu h t)
theorem zpk.len{K:W.Frag}{H0 G H:Hp}{w:Wn}{D:Addr}{dss:List (List Dt)}{as:List Addr}(q:zpk K H0 D G H w dss as):as.length=dss.length:=zhr q.2
theorem zpk.snoc{K:W.Frag}{H0 G H:Hp}{w:Wn}{D p:Addr}{dss:List (List Dt)}{ds:List Dt}{us:List V}{as:List Addr}(q:zpk K H0 D G H w dss as)(nD:p≠D)(nA:p∉as)(h0:H0 p=none)(hg:G p=none)(hw:w p=none)(hp:H p=some (.lst us))(hr:zaJ K G ds us):zpk K H0 D G H w (dss++[ds]) (as++[p]):=by
 refine ⟨?_,zgu ⟨h0,hg,hw,us,hp,hr⟩ q.2⟩;have h:=q.1;rw[List.nodup_cons] at h ⊢;refine ⟨λz=>?_,?_⟩
 ·rcases wax.mp z with z|z
  ·exact h.1 z
  ·exact nD (List.mem_singleton.mp z).symm
 ·rw[List.nodup_append];exact ⟨h.2,xws,λx hx y hy=>by rw[List.mem_singleton.mp hy];exact λz=>nA (z ▸ hx)⟩
theorem zpk.updD{K:W.Frag}{H0 G H:Hp}{w:Wn}{D:Addr}{o:HO}{dss:List (List Dt)}{as:List Addr}(q:zpk K H0 D G H w dss as):zpk K H0 D G (upd H D o) w dss as :=
 ⟨q.1,zcd q.2 λb ds hb ⟨h1,h2,h3,us,h4,h5⟩=>⟨h1,h2,h3,us,by rw[za1 (show b≠D from λz=>(List.nodup_cons.mp q.1).1 (by rw[<- z];exact hb))];exact h4,h5⟩⟩
section
variable{X:Cx}{C:Cn}
theorem zpZ{tg iter elt:Expr}{ifs:List Expr}{scope:Scope}{pos:Pos}{N':List Str}{m:Nat}{g:DG}{ft:DT}{fe:DN}(hc:X.calm=true)(hb:zhH X.N N' scope.names m=true)
  (hkind:scope.kind=.function) (hcell:Hce scope) (hfr:∀ y∈scope.names,y.2=.free->X.env.kindOf y.1=some .cell\/X.env.kindOf y.1=some .free)
  (hblk:∀ cl L s H fp G H' w Y,JG (zfT X N' scope cl L s H fp) (zhJ C X.N.length G H' w Y) tg g/\JTs (zfT X N' scope cl L s H fp) (zhJ C X.N.length G H' w Y) ifs ft/\JN (zfT X N' scope cl L s H fp) (zhJ C X.N.length G H' w Y) elt fe)
  {pS:List (Addr×Obj)} {Y:L2.St} {s2:Shared} {cl:List (Str×Addr)} {RR:Value->Addr->Result->Shared->Prop} {E:Value->Shared->Prop}
  (hcl:∀ x c,cl.lookup x=some c->X.env.cells.lookup x=some c) (hcf:∀ y∈scope.names,y.2=.free->∃ c,cl.lookup y.1=some c)
  {it:Addr} {fp:List Addr} {tn:Nat->Heap->Prop} {J:It} {H2:Hp} (I2:L2.Inv X pS Y H2 s2) (T:ztH X.prog X.w X.K tg J fp it tn) (st2:tn 0 s2.heap) (f2:∀ b∈fp,zgP X pS H2 b)
  {ds:List Dt} {zs:List (List Dt)} {Z1 ρf:Ev} {G1:Hp} {w1:Wn} (r1:Rel X.K C G1 w1 Z1 Y H2) (it1:zr4 X.K J G1 ds) (hfi:zia ds=true) (ec:zeV g ft fe ds (Z1++List.replicate m none)=.ok (zs,ρf))
  (fin:∀(D L:Addr)(s':Shared)(as:List Addr)(G' H':Hp)(w':Wn),L2.Inv X pS Y H' s'->zs1 X pS H' L s'->zbK G1 H2 w1 G' H' w'->Rel X.K C G' w' (ρf.take Z1.length) Y H'->H2 D=none->H' D=some (.lst (as.map V.ref))->G' D=none->w' D=none->zpk X.K H2 D G' H' w' zs as->RR (.ref D) L (.ok .next) s') :
  wpAny (model X.prog X.w) X.A (newList []) (λacc s₃=>wpAny (model X.prog X.w) X.A (newFunctionEnv scope X.env.globals cl [] X.env.qual none .none (some X.env)) (λcenv s₄ =>
   codeAny (model X.prog X.w) X.A (.compStart (.ListComp elt [⟨tg,iter,ifs,0⟩] scope pos) 0 (.ref it) acc { cenv with scope:=relabel scope X.env }) (RR acc cenv.locals) s₄) E s₃) E s2:=by
 generalize hC':zhJ C X.N.length G1 H2 w1 (Y++List.replicate m none)=C';have c0:C'.H₀=H2:=by rw[<- hC'];rfl
 have cG:C'.G₀=G1:=by rw[<- hC'];rfl
 have cw:C'.w₀=w1:=by rw[<- hC'];rfl
 have hlenσ:Y.length=X.N.length:=I2.len;refine zoN (iter:=iter) (pos:=pos) (n:=ds.length) (tgt:=tG X.K C' g) (tts:=tT X.K C' ft) (te:=tN X.K C' fe) hc hb hkind hcell hfr (λL s H fp _ _ _=>by
  obtain ⟨a1,a2,a3⟩:=hblk (cellsFrom (L+1) scope.names cl) L s H fp G1 H2 w1 (Y++List.replicate m none);rw[hC'] at a1 a2 a3;exact ⟨a1,a2,a3⟩) hcl hcf I2 T st2 f2
  (λD i Y' H' vs=>∃ Z' G' w' ac as,vs=as.map V.ref/\Rel X.K C' G' w' Z' Y' H'/\G' D=none/\w' D=none/\zpk X.K H2 D G' H' w' ac as/\ac.length<=i/\∃ z,zeV g ft fe (ds.drop i) Z'=.ok z/\ac++z.1=zs/\z.2 = ρf) (λD hD=>?_) (λD i Y' H' vs hD ⟨Z',G',w',ac,as,ev,r5,gd5,wd5,q5,hac,z,ez,ez1,ez2⟩ hd5 hlt=>?_) (λD Y' H' vs ⟨Z',G',w',ac,as,_,r5,_⟩=>(it1 _ G' H' (by have:=r5.en.g;rw[cG] at this;exact this) r5.gh).2 (wal _)) λD L s' vs Y' H' IX lo hD hd5 hl6 ⟨Z',G',w',ac,as,ev,r5,gd5,wd5,q5,hac,z,ez,ez1,ez2⟩=>?_
 ·have w0:w1 D=none:=by
   cases q:w1 D with
   |none=>rfl
   |some k=>exact absurd hD (r1.wh _ (by rw[q];simp))
  have base:Rel X.K C' G1 w1 (Z1++List.replicate m none) (Y++List.replicate m none) H2:=by
   refine ⟨r1.gh,r1.wg,r1.wh,by simp[r1.len],λi b e=>?_,by rw[<- hC'];exact .refl _ _ _,λi _=>by rw[<- hC'];rfl⟩;have hi':i < Z1.length:=by
    by_cases hi':i < Z1.length
    ·exact hi'
    ·rw[List.getElem?_append_right xwl,List.getElem?_replicate] at e;split at e <;> cases e
   rw[List.getElem?_append_left hi'] at e;obtain ⟨v,h1,h2⟩:=r1.sl i b e;exact ⟨v,by rw[List.getElem?_append_left (by rw[<- r1.len];exact hi')];exact h1,h2⟩
  exact ⟨Z1++List.replicate m none,G1,w1,[],[],rfl,base.upd_new (r1.gh.free hD) w0 (by rw[c0];exact hD),r1.gh.free hD,w0,⟨xws,.nil⟩,Nat.zero_le _,(zs,ρf),by simpa using ec,xws,rfl⟩
 ·subst ev;have ed:ds.drop i=ds[i]::ds.drop (i+1):=List.drop_eq_getElem_cons hlt;obtain ⟨go,yl⟩:=(it1 i G' H' (by have:=r5.en.g;rw[cG] at this;exact this) r5.gh).1 ds[i] (by simp[hlt]);refine ⟨go,λx H7 y7=>?_⟩;obtain ⟨G7,gr,rep7⟩:=yl x H7 y7;have keep7:=(gr.step (w:=w')).keep gd5 wd5 hd5;rw[ed] at ez;unfold zeV at ez;obtain ⟨Z3,e3,ez⟩:=zdQ ez;obtain ⟨t4,e4,ez⟩:=zdQ ez;obtain ⟨b4,Z4⟩:=t4;refine ⟨G7,w',Z',ds[i],r5.grow gr,rep7,?_⟩;rw[e3];intro Y8 G8 H8 w8 s8s r8;have keep8:=s8s.keep keep7.1 keep7.2.1 keep7.2.2;refine ⟨G8,w8,Z3,r8,?_⟩;rw[e4];intro G9 H9 w9 s9s r9;have keep9:=s9s.keep keep8.1 keep8.2.1 keep8.2.2;have q9:=q5.step (((gr.step (w:=w')).trans s8s).trans s9s);cases b4 with
  |false =>
   show (if false=true then _ else _);rw[if_neg Bool.false_ne_true];simp only[Bool.false_eq_true,if_false] at ez;exact ⟨keep9.2.2,Z4,G9,w9,ac,as,rfl,r9,keep9.1,keep9.2.1,q9,xwl,z,ez,ez1,ez2⟩
  |true =>
   show (if true=true then _ else _);rw[if_pos rfl];simp only[if_true] at ez;obtain ⟨⟨yd,Z10⟩,e10,ez⟩:=zdQ ez;obtain ⟨z',ez',ez3⟩:=zdQ ez;refine ⟨G9,w9,Z4,r9,?_⟩;rw[e10];intro pn us G10 H10 w10 s10s r10 n0 n1 n2 n3 q10;have keep10:=s10s.keep keep9.1 keep9.2.1 keep9.2.2;cases ez3;have nD:pn≠D:=λz=>by rw[z,keep9.2.2] at n0;cases n0
   have h20:H2 pn=none:=by have:=r9.en.k pn n0;rw[c0] at this;exact this
   have nA:pn∉as:=λz=>by obtain ⟨_,_,_,_,us',e,_⟩:=ze4 q9.2 pn z;rw[n0] at e;cases e
   have hlen:=q9.len;have:=zkV hfi;exact ⟨keep10.2.2,by rw[List.length_map];lia,Z10,G10,w10,ac++[yd],as++[pn],xws,r10.upd_new keep10.1 keep10.2.1 (by rw[c0];exact hD),keep10.1,keep10.2.1,((q9.step s10s).snoc nD nA h20 n2 n3 n1 q10).updD,by simp;lia,z',ez',by rw[<- ez1];simp,ez2⟩
 ·subst ev;simp only[List.drop_length] at ez;unfold zeV at ez;cases ez;simp only[List.append_nil] at ez1;subst ez1;subst ez2;have en':zbK G1 H2 w1 G' H' w':=by have:=r5.en;rw[cG,c0,cw] at this;exact this
  have hρlen:Z'.length=X.N.length+m:=by rw[r5.len,hl6]
  refine fin _ _ s' as G' H' w' IX lo en' ⟨r5.gh,r5.wg,r5.wh,?_,λi b e=>?_,r1.en.trans en',r1.pin⟩ hD hd5 gd5 wd5 q5
  ·rw[List.length_take,hρlen,r1.len,hlenσ];lia
  ·have hi':i < Z1.length:=by
    by_cases hi':i < Z1.length
    ·exact hi'
    ·rw[List.getElem?_eq_none (by rw[List.length_take];lia)] at e;cases e
   rw[List.getElem?_take_of_lt hi'] at e;obtain ⟨v,h1,h2⟩:=r5.sl i b e;refine ⟨v,?_,h2⟩;have hpi:=r5.pin i (by rw[<- hC'];exact List.mem_range.mpr (by rw[<- hlenσ,<- r1.len];exact hi'));rw[h1] at hpi;rw[<- hC'] at hpi;have hpi':some (some v)=(Y++List.replicate m none)[i]? := hpi;rw[List.getElem?_append_left (by rw[<- r1.len];exact hi')] at hpi';exact hpi'.symm
def zo5(i:Nat)(fi:DA)(g:DG)(ft:DT)(fe:DN)(m:Nat):DS:=λZ=>(fi Z).bind λa=>if zia a.1=true then match zeV g ft fe a.1 (a.2++List.replicate m none) with
  |.ok z=>if i<a.2.length then .ok (.nx,(z.2.take a.2.length).set i (some (.own2 z.1))) else .no
  |_=>.no
 else .no
theorem Rel.setOwn2{K:W.Frag}{Y:L2.St}{G0 H0:Hp}{w0:Wn}{G H:Hp}{w:Wn}{Z:Ev}{i:Nat}{dss:List (List Dt)}{p:Addr}{as:List Addr}(r:Rel K C G w Z Y H)(hi:i < Z.length)(hpp:i∉C.pp)(hp:H p=some (.lst (as.map V.ref)))(hg:G p=none)(hw:w p=none)
  (q:zpk K H0 p G H w dss as) (s:zbK G0 H0 w0 G H w) (h0:H0 p=none) (en0:∀ b,H0 b=none->C.H₀ b=none) :
  Rel K C G (λb=>if b∈p::as then some i else w b) (Z.set i (some (.own2 dss))) (Y.set i (some (.ref p))) H/\zbK G0 H0 w0 G H (λb=>if b∈p::as then some i else w b):=by
 have fr:∀ b∈p::as,H0 b=none/\G b=none/\w b=none/\H b≠none:=λb hb=>by
  rcases wap.mp hb with rfl|hb
  ·exact ⟨h0,hg,hw,by rw[hp];simp⟩
  ·obtain ⟨ds,k1,k2,k3,us,k4,_⟩:=ze4 q.2 b hb;exact ⟨k1,k2,k3,by rw[k4];simp⟩
 have s1:∀{G1 H1:Hp}{w1:Wn},zbK G1 H1 w1 G H w->(∀ b∈p::as,H1 b=none)->zbK G1 H1 w1 G H (λb=>if b∈p::as then some i else w b):=λs z=>by
  refine ⟨s.g,s.fr,s.h,λb e=>?_,s.k⟩;by_cases hb:b∈p::as
  ·exact .inr (z b hb)
  ·simp only[hb,if_false] at e;exact s.w b e
 refine ⟨⟨r.gh,λb e=>?_,λb e=>?_,by simpa using r.len,λj b e=>?_,s1 r.en (λb hb=>en0 b (fr b hb).1),λj hj=>?_⟩,s1 s λb hb=>(fr b hb).1⟩
 ·by_cases hb:b∈p::as
  ·exact (fr b hb).2.1
  ·simp only[hb,if_false] at e;exact r.wg b e
 ·by_cases hb:b∈p::as
  ·exact (fr b hb).2.2.2
  ·simp only[hb,if_false] at e;exact r.wh b e
 ·by_cases hj:j=i
  ·subst hj;rw[List.getElem?_set_self hi] at e;cases e;refine ⟨_,way (by rw[<- r.len];exact hi),p,as,rfl,xws,hp,q.1,zcd q.2 λb ds hb ⟨_,_,_,us,k4,k5⟩=>⟨?_,us,k4,k5⟩⟩;simp[wah _ hb,hb]
  ·rw[List.getElem?_set_ne (Ne.symm hj)] at e;obtain ⟨v',k1,k2⟩:=r.sl j b e;refine ⟨v',by rw[List.getElem?_set_ne (Ne.symm hj)];exact k1,k2.grow (.refl _) λa o e1 e2=>⟨e2,?_⟩⟩;have:a∉p::as:=λz=>by rw[(fr a z).2.2.1] at e1;cases e1
   simp only[this,if_false];exact e1
 ·have:i≠j:=λz=>hpp (z ▸ hj);rw[List.getElem?_set_ne this];exact r.pin j hj
theorem znv{tg iter elt:Expr}{ifs:List Expr}{scope:Scope}{pos spos:Pos}{N':List Str}{m i:Nat}{x:Str}{px:Pos}{fi:DA}{g:DG}{ft:DT}{fe:DN}(hN:X.N.Nodup)(hix:X.N[i]? = some x)(hx:Loc X.env.scope x)(hp:i∉C.pp)(hi:JI X C tg iter fi)(hc:X.calm=true)(hb:zhH X.N N' scope.names m=true)
  (hkind:scope.kind=.function) (hcell:Hce scope) (hfr:∀ y∈scope.names,y.2=.free->X.env.kindOf y.1=some .cell\/X.env.kindOf y.1=some .free) (hnames:∀ y∈scope.names,y.2=.local->scope.names.lookup y.1=some .local)
  (hblk:∀ cl L s H fp G H' w Y,JG (zfT X N' scope cl L s H fp) (zhJ C X.N.length G H' w Y) tg g/\JTs (zfT X N' scope cl L s H fp) (zhJ C X.N.length G H' w Y) ifs ft/\JN (zfT X N' scope cl L s H fp) (zhJ C X.N.length G H' w Y) elt fe)
  (hsw:swapsWith (.ListComp elt [⟨tg,iter,ifs,0⟩] scope pos) (some (.Name x px)) spos.line X.env=pure true:=by rfl) (hf:X.fn x=true\/X.env.scope.names.lookup x=some .local:=by exact xwA)
  (hs:∀ x,foldedSetIterable iter X.env x=pure x:=by intro _;rfl):JS X C (.Assign [.Name x px] (.ListComp elt [⟨tg,iter,ifs,0⟩] scope pos) spos) (zo5 i fi g ft fe m):=by
 intro pS s Y H D I ⟨G,w,Z,r,p⟩;obtain ⟨cl,hclos,hcl,hcf⟩:=zhm (scope:=scope) (env:=X.env) λy hy hf=>I.ok.has y.1 (hfr y hy hf);rw[exec_Assign_Name_used _ _ _ _ hsw];refine wab (wpAny_standAt (wab ?_));show wpAny _ X.A (do let _ <- comprehension (.ListComp elt [⟨tg,iter,ifs,0⟩] scope pos) scope X.env _ (newList []) false (eval iter X.env) (some (assign (.Name x px) X.env))) _ _ s;refine wab (wpAny_mono (wpAny_comprehension_free (use:=some (assign (.Name x px) X.env)) (Q:=λ_ s'=>SP X pS D .next s') rfl hs hclos hkind hnames ?_) (λ_ s' hq=>wad (wad hq)) λ_ _ e=>e);refine thn (hi pS s Y H (λJ H2=>∃ ds Z1 G1 w1 zs ρf,Rel X.K C G1 w1 Z1 Y H2/\zr4 X.K J G1 ds/\zia ds=true/\zeV g ft fe ds (Z1++List.replicate m none)=.ok (zs,ρf)/\i < Z1.length/\zdc C.ex (kS X.K C D G1 H2 w1) (.ok (.nx,(ρf.take Z1.length).set i (some (.own2 zs))))) I ?_) λv s1 h1=>thn h1 λitv s2 h2=>?_
 ·refine zyQ (κ:=λG H w=>kS X.K C D G H w) zfn r p λds Z1 J G1 H1 w1 r1 st1 it1 p1=>?_;dsimp only at p1;split at p1
  ·rename_i hfi;split at p1
   ·rename_i z ez;split at p1
    ·rename_i hl;exact ⟨ds,Z1,G1,w1,z.1,z.2,r1,it1,hfi,ez,hl,p1⟩
    ·exact waO p1
   ·exact waO p1
  ·exact waO p1
 obtain ⟨it,fp,tn,J,H2,rfl,I2,T,st2,f2,ds,Z1,G1,w1,zs,ρf,r1,it1,hfi,ec,hil,kk⟩:=h2;refine zpZ (RR:=λacc C=>compPost (model X.prog X.w) X.A X.xe (some (assign (.Name x px) X.env)) (λ_ s'=>SP X pS D .next s') acc C) hc hb hkind hcell hfr hblk hcl hcf I2 T st2 f2 r1 it1 hfi ec λDa L s' as G' H' w' I' lo st rel h0 h1 h2 h3 q=>?_;show wpAny _ X.A (assign (.Name x px) X.env (.ref Da)) _ _ _;refine wpAny_assign_Name (zij I' hN hix hx (v:=.ref Da) rfl (λs'' I'' hch=>?_) hf);obtain ⟨mm,hn⟩:=lo.ns;obtain ⟨a,sb,ha⟩:=hch;have hLa:L≠a:=by
  rcases ha with z|z
  ·rw[z];exact lo.nl
  ·exact λy=>lo.nc x a z y.symm
 refine ⟨mm,hn.sameBut sb hLa,λh' hsb=>⟨Y.set i (some (.ref Da)),H',?_,?_⟩⟩
 ·exact I''.turned (t':=s''.toks) (λb o hb e=>(hsb.2 b hb).trans e) lo.fr lo.nl lo.nw lo.nc lo.np
 ·have hlr:i<(ρf.take Z1.length).length:=by rw[rel.len,<- r1.len];exact hil
  obtain ⟨r',s'⟩:=rel.setOwn2 hlr hp h1 h2 h3 q st h0 r1.en.k;exact kk _ _ _ _ s' r'
end
theorem zjV{α β:Type}{F F':α->β->Prop}{b:α}{d':β}:∀{l:List α}{r:List β}{j:Nat},Paired F l r->l.Nodup->l[j]? = some b->(∀ c d,c≠b->F c d->F' c d)->F' b d'->Paired F' l (r.set j d')
 |_,_,j,.nil,_,e,_,_=>by simp at e
 |x::l,y::r,0,.cons h t,nd,e,k,n=>by simp at e;subst e;refine .cons n (zcd t λc d hc q=>k c d (λz=>?_) q);subst z;exact (List.nodup_cons.mp nd).1 hc
 |x::l,y::r,j+1,.cons h t,nd,e,k,n=>by
  have e':l[j]? = some b:=by simpa using e
  refine .cons (k x y (λz=>?_) h) (zjV t (List.nodup_cons.mp nd).2 e' k n);subst z;exact (List.nodup_cons.mp nd).1 (waH e')
theorem zjJ{α β:Type}{F:α->β->Prop}:∀{l:List α}{r:List β}{j:Nat}{d:β},Paired F l r->r[j]? = some d->∃ a,l[j]? = some a/\F a d
 |_,_,j,d,.nil,e=>by simp at e
 |x::l,y::r,0,d,.cons h t,e=>by simp at e;subst e;exact ⟨x,rfl,h⟩
 |x::l,y::r,j+1,d,.cons h t,e=>by obtain ⟨a,h1,h2⟩:=zjJ (j:=j) t (by simpa using e);exact ⟨a,by simpa using h1,h2⟩
theorem Rel.mutate2{K:W.Frag}{C:Cn}{Y:L2.St}{G H:Hp}{w:Wn}{Z:Ev}{i j:Nat}{dss:List (List Dt)}{ds':List Dt}{a b:Addr}{as:List Addr}{us':List V}(r:Rel K C G w Z Y H)(hi:Z[i]? = some (some (.own2 dss)))(hv:Y[i]? = some (some (.ref a)))(hw:w a=some i)
  (ha:H a=some (.lst (as.map V.ref))) (nd:(a::as).Nodup) (hp:Paired (λb ds=>w b=some i/\∃ vs,H b=some (.lst vs)/\zaJ K G ds vs) as dss) (hb:as[j]? = some b) (h':zaJ K G ds' us') :
  Rel K C G w (Z.set i (some (.own2 (dss.set j ds')))) Y (upd H b (.lst us'))/\zbK G H w G (upd H b (.lst us')) w:=by
 have hbm:b∈as:=waH hb;obtain ⟨_,hwb,_⟩:=ze4 hp b hbm;have gb:G b=none:=r.wg b (by rw[hwb];simp);have nab:a≠b:=λz=>(List.nodup_cons.mp nd).1 (z ▸ hbm);have st:zbK G H w G (upd H b (.lst us')) w:=by
  refine ⟨.refl _,λc o e=>.inl (by rw[e];simp),λc o e z=>?_,λ_ e=>.inl e,λc e=>?_⟩
  ·have:c≠b:=λq=>by subst q;rw[hwb] at z;cases z
   rw[za1 this];exact e
  ·by_cases hc:c=b
   ·subst hc;rw[za5] at e;cases e
   ·rw[za1 hc] at e;exact e
 refine ⟨⟨λc o e=>?_,r.wg,λc e=>?_,by simpa using r.len,λk bb e=>?_,r.en.trans st,r.pin⟩,st⟩
 ·rw[za1 (zay e gb)];exact r.gh c o e
 ·by_cases hc:c=b
  ·subst hc;rw[za5];simp
  ·rw[za1 hc];exact r.wh c e
 ·by_cases hk:k=i
  ·subst hk;rw[List.getElem?_set_self (List.getElem?_eq_some_iff.mp hi).1] at e;cases e;refine ⟨_,hv,a,as,rfl,hw,by rw[za1 nab];exact ha,nd,?_⟩;refine zjV hp (List.nodup_cons.mp nd).2 hb (λc ds nc ⟨q1,vs,q2,q3⟩=>⟨q1,vs,by rw[za1 nc];exact q2,q3⟩) ⟨hwb,us',za5,h'⟩
  ·rw[List.getElem?_set_ne (Ne.symm hk)] at e;obtain ⟨v',h1,h2⟩:=r.sl k bb e;refine ⟨v',h1,h2.grow (.refl _) λc o e1 e2=>⟨?_,e1⟩⟩;have:c≠b:=λz=>by subst z;rw[hwb] at e1;exact hk (waA e1).symm
   rw[za1 this];exact e2
def zlA(i jx:Nat)(fk:De):De:=λZ=>match Z[i]? with
 |some (some (.own2 _))=>(fk Z).bind λk=>match k.2[i]?,k.1,k.2[jx]? with
  |some (some (.own2 dss)),.int n,some (some (.val d))=>match ixN dss.length n with
   |some j=>match dss[j]? with
    |some ds=>if ds.length<16777216 then .ok (.non,k.2.set i (some (.own2 (dss.set j (ds++[d]))))) else .no
    |none=>.no
   |none=>.no
  |_,_,_=>.no
 |_=>.no
section
variable{X:Cx}{C:Cn}{k:Expr}{fk:De}{pos ps py sp apos:Pos}{x y:Str}
theorem zw3(i jx:Nat)(hk:JE X C k fk)(hN:X.N[i]? = some x:=by rfl)(hNy:X.N[jx]? = some y:=by rfl)(hv:Vis X.env.scope x:=by exact xwV)(hvy:Vis X.env.scope y:=by exact xwV)
  (hd:(x == ("__debug__" : Str))=false:=by decide) (hcd:(x == ("__classdict__" : Str))=false:=by decide) (hdy:(y == ("__debug__" : Str))=false:=by decide) (hcdy:(y == ("__classdict__" : Str))=false:=by decide)
  (hix:zlu k:=by exact λ_ _=>rfl)
  (hbase:attributeBase (.Subscript (.Name x ps) k sp) "append" X.env (eval (.Subscript (.Name x ps) k sp) X.env)=eval (.Subscript (.Name x ps) k sp) X.env:=by rfl)
  (hfew:((backTo pos (starEach [.Name y py] X.env)).all (λx=>!x.1) && (backToKw pos (keywordEach [] X.env)).all (λx=>x.1.isSome) && decide ([Expr.Name y py].length+([]:List Keyword).length+(if ([]:List Keyword).isEmpty then 0 else 1)<30))=true:=by rfl)
  (hline:(apos.endLine == pos.line)=true:=by rfl) (hs:starEach [.Name y py] X.env=(false,eval (.Name y py) X.env)::starEach [] X.env:=by rfl) (hplain:(backTo pos (starEach [] X.env)).any (·.1)=false:=by rfl) :
  JE X C (.Call (.Attribute (.Subscript (.Name x ps) k sp) "append" apos) [.Name y py] [] pos) (zlA i jx fk) :=
 PE.weak (zq0 PySem.F.plainAttrs_list PySem.F.slot_list_append PySem.F.type_list_append zjh (zwe zog (zd9 hN hv hd hcd) hk hix) (zbY (zd9 hNy hvy hdy hcdy) zeW hs) hbase hfew hline hs hplain) λY H Q ⟨G,w,Z,r,p⟩=>by
  unfold zlA at p;split at p
  ·rename_i dss0 e0;obtain ⟨v0,h0,_⟩:=r.sl i _ e0;refine ⟨v0,h0,?_⟩;refine zeC (κ:=λG H w=>kE X.K C Y Q G H w) zcF r p λd Z1 v G1 H1 w1 r1 s1 q1 p1=>?_;dsimp only at p1;split at p1
   ·rename_i dss n dy e1 ey;split at p1
    ·rename_i j ej;split at p1
     ·rename_i ds eds;split at p1
      ·rename_i hl;obtain ⟨v1,g1,a,as,rfl,g2,g3,g4,g5⟩:=r1.sl i _ e1;rw[h0] at g1;cases g1;obtain ⟨b,eb,hwb,us,hb,hrs⟩:=zjJ g5 eds;obtain ⟨vy,gy,hy⟩:=r1.sl jx _ ey;have hlen:=zhr g5;have hat:atI (as.map V.ref) n=some (.ref b):=by unfold atI;rw[List.length_map,hlen,ej];simp only[Option.bind_some];rw[List.getElem?_map,eb];rfl
       have hy':Rep X.K G1 dy vy:=hy;obtain ⟨r',s'⟩:=r1.mutate2 e1 h0 g2 g3 g4 g5 eb (hrs.append (zaJ.cons hy' zaJ.nil));exact ⟨a,as.map V.ref,n,.ref b,rfl,zaF q1,SqL.of g3,hat,.inl ⟨rfl,us,SqL.of hb⟩,vy,gy,b,us,vy,rfl,rfl,hb,by rw[<- hrs.length,zdK];exact hl,p1 _ _ _ _ s' r' (by unfold Rep;rfl)⟩
      ·exact waO p1
     ·exact waO p1
    ·exact waO p1
   ·exact waO p1
  ·exact p.elim
end
theorem zus:bootBuiltins "len"=some (.builtin "len"):=PySem.boot_len
theorem zxm:bootBuiltins "max"=some (.builtin "max"):=PyProof.Rows.boot_max
theorem zur:bootBuiltins "min"=some (.builtin "min"):=PyProof.Rows.boot_min
theorem zdT:bootBuiltins "isinstance"=some (.builtin "isinstance"):=PyProof.Rows.boot_isinstance
theorem zgV:bootBuiltins "tuple"=some (.type "tuple"):=by decide +kernel
theorem zqI:bootBuiltins "list"=some (.type "list"):=by decide +kernel
theorem zjW:bootBuiltins "int"=some (.type "int"):=by decide +kernel
theorem zsg:bootBuiltins "bool"=some (.type "bool"):=by decide +kernel
theorem zyL:bootBuiltins "str"=some (.type "str"):=by decide +kernel
theorem za2{X:Cx}{E:XK}:zep CX0 X E:=λ_ _ _ _ _ _ _ h=>h.elim
section
variable{X:Cx}{C:Cn}{a b e:Expr}{fa fb:De}{p pos:Pos}
theorem zee(hm:X.mg "len"=none)(ha:JE X C e fa)(hg:Gl X "len":=by rfl)(hs:starEach [e] X.env=(false,eval e X.env)::starEach [] X.env:=by rfl)(hpl:(backTo pos (starEach [] X.env)).any (·.1)=false:=by rfl):JE X C (.Call (.Name "len" p) [e] [] pos) (dFn zcb (dA fa dA0)) :=
 zig zxM zwV (zfq.or zhC) hg hm zus (zau ha za7 hs) xwd xwd hs hpl
theorem zxT(hc:X.calm=true)(hm:X.mg "max"=none)(ha:JE X C a fa)(hb:JE X C b fb)(hg:Gl X "max":=by rfl)(hs:starEach [a,b] X.env=(false,eval a X.env)::starEach [b] X.env:=by rfl)(hs2:starEach [b] X.env=(false,eval b X.env)::starEach [] X.env:=by rfl)(hpl:(backTo pos (starEach [b] X.env)).any (·.1)=false:=by rfl):JE X C (.Call (.Name "max" p) [a,b] [] pos) (dFn zk2 (dA fa (dA fb dA0))) :=
 zig zw7 zvc (zs3 hc) hg hm zxm (zau ha (zau hb za7 hs2) hs) xwd xwd hs hpl
theorem zxn(hc:X.calm=true)(hm:X.mg "min"=none)(ha:JE X C a fa)(hb:JE X C b fb)(hg:Gl X "min":=by rfl)(hs:starEach [a,b] X.env=(false,eval a X.env)::starEach [b] X.env:=by rfl)(hs2:starEach [b] X.env=(false,eval b X.env)::starEach [] X.env:=by rfl)(hpl:(backTo pos (starEach [b] X.env)).any (·.1)=false:=by rfl):JE X C (.Call (.Name "min" p) [a,b] [] pos) (dFn zk9 (dA fa (dA fb dA0))) :=
 zig zvi zw9 (zqK hc) hg hm zur (zau ha (zau hb za7 hs2) hs) xwd xwd hs hpl
theorem zxd(hc:X.calm=true)(hm:X.mg "min"=none)(ha:JE X C e fa)(hg:Gl X "min":=by rfl)(hs:starEach [e] X.env=(false,eval e X.env)::starEach [] X.env:=by rfl)(hpl:(backTo pos (starEach [] X.env)).any (·.1)=false:=by rfl):JE X C (.Call (.Name "min" p) [e] [] pos) (dFn zk6 (dA fa dA0)) :=
 zig zw6 zwd (zs0 hc) hg hm zur (zau ha za7 hs) xwd xwd hs hpl
theorem zd8(hm:X.mg "tuple"=none)(ha:JE X C e fa)(hg:Gl X "tuple":=by rfl)(hs:starEach [e] X.env=(false,eval e X.env)::starEach [] X.env:=by rfl)(hpl:(backTo pos (starEach [] X.env)).any (·.1)=false:=by rfl):JE X C (.Call (.Name "tuple" p) [e] [] pos) (dFn zbI (dA fa dA0)) :=
 zs2 ztq ztF zkQ hg hm zgV (zau ha za7 hs) xwd xwd hs hpl
theorem zrU(hm:X.mg "list"=none)(ha:JE X C e fa)(hg:Gl X "list":=by rfl)(hs:starEach [e] X.env=(false,eval e X.env)::starEach [] X.env:=by rfl)(hpl:(backTo pos (starEach [] X.env)).any (·.1)=false:=by rfl):JN X C (.Call (.Name "list" p) [e] [] pos) (zem zjB (dA fa dA0)) :=
 zs7 zvB zwz zlU hg hm zqI (zau ha za7 hs) xwd xwd hs hpl
end
theorem zcN{nw:Bool}{P:Program}{w:World}{K:W.Frag}{mg:Str->Option Value}{base:Heap}{CX:CXT}{xv:Nat->Value}{k:Nat}{x qual:Str}{st:Stmt}{f:Addr}{fd:FuncData}{ps:List Str}{ks:List Bool}(hl:ps.length=ks.length)(U:Fun K x qual st f fd)(hm:mg x=some (.ref f))(hb:zly K fd ps []) :
  Dfn nw P w K mg base CX xv k x ks (λ_=>.no) :=
 ⟨f,fd,ps,⟨λvs H Q E ⟨_,_,_,h,_⟩=>h.trans hl.symm,λ_ _ _ _ _ _ _ _ _ _ _ _ _ ⟨_,_,_,_,_,_,h⟩=>waO h⟩,hm,U.kp,hb,λbs h=>absurd rfl h⟩
theorem ze7{k:Nat}{A:Around}(hr:zgv k A):A.units+64<cLine:=by have:=hr.un;lia
theorem zr9{k:Nat}{A:Around}(hr:zgv k A):A.units+65<cLine:=by have:=hr.un;lia
theorem zaP{names:List (Str×NameKind)}(h:(names.all λy=>y.2 != .cell || (names.lookup y.1 == some .cell))=true):∀ y∈names,y.2=.cell->names.lookup y.1=some .cell:=λy hy z=>by rw[List.all_eq_true] at h;have:=h y hy;rw[z] at this;simpa using this
theorem zbv{names:List (Str×NameKind)}(h:(names.all λy=>y.2 != .local || (names.lookup y.1 == some .local))=true):∀ y∈names,y.2=.local->names.lookup y.1=some .local:=λy hy z=>by rw[List.all_eq_true] at h;have:=h y hy;rw[z] at this;simpa using this
theorem zbu{names:List (Str×NameKind)}{env:Env}(h:(names.all λy=>y.2 != .free || (env.kindOf y.1 == some .cell || env.kindOf y.1 == some .free))=true):∀ y∈names,y.2=.free->env.kindOf y.1=some .cell\/env.kindOf y.1=some .free:=λy hy z=>by rw[List.all_eq_true] at h;have:=h y hy;rw[z] at this;simpa using this
end PV
end
section
namespace PV
open PySem PySem.Spec L2 PyProof.Rows
structure zyT(N:List Str)(names:List (Str×NameKind))(cl:List (Str×Addr))(Y:L2.St)(H:Hp)(h:Heap):Prop where
 inj:∀ x y c,cl.lookup x=some c->cl.lookup y=some c->x=y
 has:∀ x,names.lookup x=some .free->∃ c,cl.lookup x=some c
 is:∀ x c,cl.lookup x=some c->(∃ v,h.IsCell c v)/\H c=none
 val:∀(i:Nat)(x:Str)(v:V),N[i]? = some x->Y[i]? = some (some v)->names.lookup x=some .free->∃ u c,zc9 v u/\cl.lookup x=some c/\h.IsCell c (some u)
section
variable{XR:Cx}{pS:List (Addr×Obj)}{σR Y:L2.St}{H:Hp}{s:Shared}{N:List Str}{scope:Scope}{cl:List (Str×Addr)}{qual name:Str}{Fa c':Addr}{params:Arguments}{body:Expr}{pm ctv:Value}{E:XK}
end
def zhp(Z:Ev):Ev:=Z.map λo=>match o with
 |some (.val d)=>some (.val d)
 |_=>none
section
variable{X:Cx}{C:Cn}{a b:Expr}{fa fb:De}{pos:Pos}
def zlk:Dt->Dt->R Dt
 |.tup x,.tup y=>if x.length+y.length<=16777216 then .ok (.tup (x++y)) else .no
 |_,_=>.no
def zxP(K:W.Frag):R2:=λx y H Q=>∃ a b xs ys,x=.ref a/\y=.ref b/\SqT K H a xs/\SqT K H b ys/\xs.length+ys.length<=sizeLine /\
 (xs=[]->Q (.ref b) H)/\(xs≠[]->ys=[]->Q (.ref a) H)/\(xs≠[]->ys≠[]->∀ p,H p=none->Q (.ref p) (upd H p (.tup (xs++ys))))
theorem ztl{prog:Program}{w:World}{A:Around}{E:Value->Shared->Prop}{s:Shared}{t b:Addr}{ws:List Value}{Q:Value->Shared->Prop}(ht:IsTup s.heap t ([]:List Value).toArray)(hb:IsTup s.heap b ws.toArray)(h:Q (.ref b) s) :
  wpAny (model prog w) A (binaryOp .Add (.ref t) (.ref b)) Q E s:=by
 obtain ⟨⟨c1,d1,dt1,sl1⟩,e1,q1,n1,r1⟩:=id ht;obtain ⟨⟨c2,d2,dt2,sl2⟩,e2,q2,n2,r2⟩:=id hb;simp only at q1 r1 q2 r2;subst q1 r1 q2 r2;exact concat_meets ⟨_,e1,rfl⟩ ⟨_,e2,rfl⟩ noFill_tuple_add seq_tuple_add F.slot_tuple_add F.entry_tuple_add (F.args_tuple_add_2 _ _) (tuple_addW0 t b ([]:List Value).toArray ws.toArray n1 n2 d1 d2 sl1 sl2 rfl) ⟨e1,e2,h⟩
theorem zv9:OpR X (binaryOp .Add) (zxP X.K):=by
 intro pS s Y H x y v u Q I rx ry h;obtain ⟨a,b,xs,ys,rfl,rfl,ha,hb,hz,q0,q1,q2⟩:=h;by_cases hx:xs=[]
 ·subst hx;cases rx;cases ry;obtain ⟨its,r1,p1,_⟩:=I.tuple ha;obtain ⟨its2,r2,p2,_⟩:=I.tuple hb;obtain rfl:its=[]:=by cases r1;rfl
  exact ztl p1 p2 ⟨.ref b,H,I,rfl,q0 rfl⟩
 ·exact zwr pS s Y H _ _ v u Q I rx ry ⟨a,b,xs,ys,rfl,rfl,ha,hb,hx,hz,q1 hx,q2 hx⟩
theorem ztr:Op2 X.K (zxP X.K) zlk:=λG H x y dx dy z Q sm hx hy e k=>by
 unfold zlk at e;split at e
 ·rename_i l l';split at e
  ·rename_i hl;cases e;obtain ⟨a,vs,rfl,h1,h2⟩:=zcr hx;obtain ⟨b,us,rfl,h3,h4⟩:=zcr hy;have nil_of:∀{m:List Dt}{ws:List V},zaJ X.K G m ws->ws=[]->m=[]:=λ{m ws} r z=>by have:=r.length;rw[z] at this;exact List.length_eq_zero_iff.mp this
   refine ⟨a,b,vs,us,rfl,rfl,zbi sm h1,zbi sm h3,by rw[<- h2.length,<- h4.length,zdK];exact hl,λz=>?_,λ_ z=>?_,λ_ _ p hp=>?_⟩
   ·rw[nil_of h2 z] at k;exact k _ G H (.refl sm) hy
   ·rw[nil_of h4 z,List.append_nil] at k;exact k _ G H (.refl sm) hx
   ·have gr:zfS G H (upd G p (.tup (vs++us))) (upd H p (.tup (vs++us))):=.new sm hp;exact k _ _ _ gr (by unfold Rep;exact ⟨p,_,rfl,zne.of za5,(h2.same gr.g).append (h4.same gr.g)⟩)
  ·cases e
 ·cases e
theorem zrr:znk zlk:=λx y n h=>by
 unfold zlk at h;split at h
 ·split at h <;> cases h
 ·cases h
theorem zvn(ha:JE X C a fa)(hb:JE X C b fb):JE X C (.BinOp a .Add b pos) (dOp zlk fa fb):=znO zv9 ztr zrr ha hb
end
end PV
end
section
namespace PV
open PySem PySem.Spec L2
open AutoSeq1 (wpAny_loadPart')
section
variable{X:Cx}{C:Cn}{a b o e:Expr}{es:List Expr}{fa fb:De}{pos apos cpos:Pos}{name:Str}{id:String}{to:TE}{t:TA}{r:V->List V->Hp->VK->Prop}
end
section
variable{X:Cx}{C:Cn}{e1 e2:Expr}{fk fv:De}{pos ps apos:Pos}{x:Str}
theorem ztT{y1 y2:V}{us:List Value}(h:zbs [y1,y2] us):∃ u1 u2,us=[u1,u2]/\zc9 y1 u1/\zc9 y2 u2:=by
 cases h with
 |cons h1 t=>cases t with
  |cons h2 t2=>cases t2;exact ⟨_,_,rfl,h1,h2⟩
end
def Ite(K:W.Frag)(a:Addr):It :=
 ⟨λi H=>∃ xs x,SqL K H a xs/\xs[i]? = some x,
   λi H v H'=>∃ p x,v=.ref p/\H p=none/\H'=upd H p (.tup [.int (i:Nat),x])/\∀ xs,SqL K H a xs->xs[i]? = some x,
   λi H=>∃ xs,SqL K H a xs/\xs.length<=i⟩
structure Ep(h:Heap)(e it l:Addr)(i:Nat):Prop where
 e:∃ old,IsEnum h e it i old
 a:h.IsListIter it l i
theorem Ep.keep{h h':Heap}{e it l:Addr}{i:Nat}(p:Ep h e it l i)(k:∀ b∈[e,it],∀ o,h.get? b=some o->h'.get? b=some o):Ep h' e it l i :=
 ⟨let ⟨old,q⟩:=p.e;⟨old,k e xws _ q⟩,p.a.at λo q=>k it xws o q⟩
theorem zre{P:Program}{w:World}{K:W.Frag}{elts:List Expr}{x1}{ps:Pos}{a e it:Addr}(hne:e≠it):ztH P w K (.Tuple elts x1 ps) (Ite K a) [e,it] e (λi h=>Ep h e it a i) where
 mem:=by simp
 obj:=λi h st c hc=>by
  obtain ⟨⟨old,s1⟩,⟨o4,s4,_,d4⟩⟩:=st;simp only[wap,wak,or_false] at hc;rcases hc with rfl|rfl
  ·exact ⟨_,s1,λv q=>by cases q⟩
  ·exact ⟨_,s4,λv q=>by rw[d4] at q;cases q⟩
 keep:=λi h h' st k=>st.keep k
 item:=by
  intro X hP hw hK hc i pS s Y H E I hf st hg;subst hP hw hK;obtain ⟨xs,x,q1,hx⟩:=hg;obtain ⟨its,rv,p,hz⟩:=I.list q1;obtain ⟨u,hu,ru⟩:=rv.get hx;obtain ⟨old,he⟩:=st.e;refine wpAny_pyNext_enum_item he st.a p.isList (x:=u) (by simpa using hu) hne λh' a1 a2 a3 a4 a5=>?_;refine ⟨_,rfl,wpAny_letOwnedTupleGo_enum a1 λh2 he2 sb=>?_⟩;have hel:e<s.heap.objs.size:=wai he;have hitl:it<s.heap.objs.size:=by obtain ⟨o,ho,_⟩:=st.a;exact wai ho
  have hzp:∀ c∈[e,it],c≠s.heap.objs.size:=λc hc q=>by
   simp only[wap,wak,or_false] at hc;rcases hc with rfl|rfl
   ·exact absurd (q ▸ hel) (waL _)
   ·exact absurd (q ▸ hitl) (waL _)
  have st2:Ep h2 e it a (i+1):=⟨⟨_,he2⟩,a2.extBut sb.extBut (Ne.symm hne)⟩
  have hk2:∀ c ob,c∉[e,it]->s.heap.get? c=some ob->h2.get? c=some ob:=λc ob nc q=>by simp only[wap,wak,or_false,not_or] at nc;exact sb.extBut _ _ nc.1 (a5 c ob nc.1 nc.2 q)
  have hth:∀ c ob,s.heap.get? c=some ob->∃ ob',h2.get? c=some ob':=λc ob q=>by
   by_cases nc:c∈[e,it]
   ·simp only[wap,wak,or_false] at nc;obtain ⟨⟨o1,s1⟩,⟨o4,s4,_⟩⟩:=st2;rcases nc with rfl|rfl
    ·exact ⟨_,s1⟩
    ·exact ⟨_,s4⟩
   ·exact ⟨ob,hk2 c ob nc q⟩
  have hnew:h2.get? s.heap.objs.size=some { cls:=.type "tuple",data:=.seq #[.int i s.toks,u] }:=sb.extBut _ _ (Ne.symm (hzp e xws)) a3;have IN:L2.Inv X pS Y (upd H s.heap.objs.size (.tup [.int (i:Nat),x])) { s with heap:=h2,toks:=s.toks+1 }:=znY (s:=s) (t':=s.toks+1) (o:=.tup [.int (i:Nat),x]) I hf hk2 (wal _) hth ⟨by show 2<=sizeLine;decide,[.int i s.toks,u],.cons ⟨_,rfl⟩ (.cons ru .nil),0,hnew⟩;exact ⟨.ref s.heap.objs.size,_,IN,rfl,
   ⟨_,x,rfl,I.hok.fresh (wal _),rfl,λzs q=>by rw[I.list_inj q q1];exact hx⟩,st2,λc hc=>by rw[za1 (hzp c hc)];exact (hf c hc).1⟩
 done:=by
  intro X hP hw hK hc i pS s Y H E I hf st hg;subst hP hw hK;obtain ⟨xs,q1,hx⟩:=hg;obtain ⟨its,rv,p,hz⟩:=I.list q1;have hl:=rv.length;obtain ⟨old,he⟩:=st.e;refine wpAny_pyNext_enum_end (I.ok.hd hc) he st.a p.isList (by simp;lia) λh' hk=>⟨rfl,?_⟩
  refine ziZ (t':=s.toks) I hf λc ob nc q=>?_;simp only[wap,wak,or_false,not_or] at nc;exact hk c ob nc.2 q
 self:=λ_ _ _ _ _ st h=>let ⟨_,he⟩:=st.e;wpAny_pyIter_enum he h
def zpA(l:List Dt):List Dt:=(List.range l.length).zip l |>.map λz=>.tup [.int (z.1:Nat),z.2]
def zpC(fa:De):DA:=λZ=>(fa Z).bind λa=>match a.1 with
 |.lst l=>.ok (zpA l,a.2)
 |_=>.no
theorem zxS{K:W.Frag}{G:Hp}{a:Addr}{vs:List V}{ds:List Dt}(hs:G a=some (.lst vs))(q:zaJ K G ds vs):zr4 K (Ite K a) G (zpA ds):=λi G1 H s1 s2=>by
 have h1:SqL K H a vs:=SqL.of (s2 _ _ (s1 _ _ hs));refine ⟨λd e=>?_,λh=>⟨vs,h1,?_⟩⟩
 ·unfold zpA at e;rw[List.getElem?_map] at e;have hi:i<ds.length:=by
   by_cases hi:i<ds.length
   ·exact hi
   ·rw[List.getElem?_eq_none (by rw[List.length_zip,List.length_range];lia)] at e;cases e
  have z1:(List.range ds.length)[i]? = some i:=by simp[hi]
  have z2:ds[i]? = some ds[i]:=by simp[hi]
  obtain ⟨v,e1,e2⟩:=q.get z2;have ed:d=.tup [.int (i:Nat),ds[i]]:=by rw[(List.getElem?_zip_eq_some (z:=(i,ds[i]))).mpr ⟨z1,z2⟩] at e;exact (waA e).symm
  refine ⟨⟨vs,v,h1,e1⟩,λx H' y=>?_⟩;obtain ⟨p,x',rfl,hp,rfl,k1⟩:=y;have kx:=k1 vs h1;rw[e1] at kx;cases kx;have gr:zfS G1 H (upd G1 p (.tup [.int (i:Nat),v])) (upd H p (.tup [.int (i:Nat),v])):=.new s2 hp;refine ⟨_,gr,?_⟩;rw[ed];unfold Rep;exact ⟨p,[.int (i:Nat),v],rfl,zne.of za5,zaJ.cons (zaN _) (zaJ.cons ((e2.same s1).same gr.g) zaJ.nil)⟩
 ·rw[<- q.length];unfold zpA at h;simpa using h
section
variable{X:Cx}{C:Cn}{elts:List Expr}{x1:Nat}{pt:Pos}{a:Expr}{fa:De}{p pos:Pos}
theorem zv8(hg:Gl X "enumerate")(hm:X.mg "enumerate"=none)(ha:JE X C a fa)(hs:starEach [a] X.env=(false,eval a X.env)::starEach [] X.env:=by rfl)(hpl:(backTo pos (starEach [] X.env)).any (·.1)=false:=by rfl) :
  JI X C (.Tuple elts x1 pt) (.Call (.Name "enumerate" p) [a] [] pos) (zpC fa):=by
 intro pS s Y H R I ⟨G,w,Z,r,pp⟩;refine PyProof.Rows.Call_ (zfd I hg hm PyProof.Rows.boot_enumerate (PyProof.Rows.callWith_type1 (thn (zau ha za7 hs pos pS s Y H (λvs H1=>∃(l1:Addr)(xs:List V),vs=[.ref l1]/\SqL X.K H1 l1 xs/\R (Ite X.K l1) H1) I ?_) λus s1 ⟨vs,H1,I1,r1,q1⟩=>?_) hs hpl))
 ·refine ⟨G,w,Z,r,?_⟩;unfold zpC at pp;unfold dA dA0;cases e:fa Z with
  |ok x =>
   obtain ⟨d,Z1⟩:=x;rw[e] at pp;simp only[PV.R.bind_ok] at pp ⊢;intro vs G1 H1 w1 s1 r1 q;obtain ⟨v,rfl,k1⟩:=zht q;cases d with
   |lst l =>
    obtain ⟨a1,xs,rfl,m1,m2⟩:=zbg k1;exact ⟨a1,xs,rfl,SqL.of (r1.gh _ _ m1),pp _ G1 H1 w1 s1 r1 (zxS m1 m2)⟩
   |_=>exact waO pp
  |er n=>rw[e] at pp;exact pp
  |no=>rw[e] at pp;exact pp
 ·obtain ⟨l1,xs,rfl,k1,q⟩:=q1;obtain ⟨u1,rfl,c1⟩:=zgF r1;cases c1;obtain ⟨its,rv,p1,_⟩:=I1.list k1;refine call_enumerate_list p1.isList λh' he hit hz hk=>?_;refine wpAny_pyIter_enum he ?_;refine ⟨s1.heap.objs.size+1,[s1.heap.objs.size+1,s1.heap.objs.size],_,_,H1,rfl,I1.kept (t':=s1.toks) hk,zre (by intro h;have h:(s1.heap.objs.size+1:Nat)=s1.heap.objs.size:=h;lia),⟨⟨_,he⟩,hit⟩,λc hc=>?_,q⟩;have hle:s1.heap.objs.size<=c:=by
   simp only[wap,wak,or_false] at hc;rcases hc with rfl|rfl
   ·exact waT ..
   ·exact wal _
  exact I1.fpOk hle (I1.hok.fresh hle)
end
end PV
end
section
namespace PV
open PySem PySem.Spec L2 PyProof.Rows
section
variable{X:Cx}{C:Cn}{a b:Expr}{fa fb:De}{pos:Pos}
end
section
variable{prog:Program}{w:World}{A:Around}{E:Value->Shared->Prop}{s:Shared}
theorem zge{t sl:Addr}{items:Array Value}{vl vu:Value}{lo hi:Option Int}{Q:Value->Shared->Prop}(ht:IsTup s.heap t items)(hs:s.heap.IsSliceOf sl vl vu .none)(pl:IsPart vl lo)(pu:IsPart vu hi)
  (hw:HT.sIx items.size 0 lo=0/\HT.sIx items.size items.size hi=items.size) (h:Q (.ref t) s):wpAny (model prog w) A (getItem (.ref t) (.ref sl)) Q E s:=by
 obtain ⟨os,hos,hcs,hds⟩:=id hs;have hTs:s.TypeIs (.ref sl) "slice":=⟨os,hos,hcs⟩
 unfold getItem
 try with_reducible refine wpAny_holding ?_
 first|refine wab (wad ?_)|skip
 refine wab (wpAny_sequenceKey ht.typeIs xwd ?_);refine wab (wpAny_callSpecial?_slot (name:=Str.ofString "__getitem__") ht.typeIs PyProof.Rows.slot_tuple_getitem
  (wpAny_call_entry PyProof.Rows.slot_tuple_getitem ht.typeIs entry_tuple_getitem ?_ (args_tuple_getitem _ _)))
 show wpAny _ _ (Builtin.Tuple.tupleItemsOf (.ref t) >>= _) _ _ s;refine wab (tupleItemsOf_ ht ?_);refine wab (wpAny_typeOf hTs ?_);rw[if_pos xwd];refine wab (HT.sliceApplied_gen hs pl pu ?_);have hyes:(((HT.sIx items.size 0 lo:Nat):Int) == 0 && (1:Int) == 1 && (HT.sIx items.size items.size hi-HT.sIx items.size 0 lo) == items.size)=true:=by rw[hw.1,hw.2];simp
 show wpAny _ _ (if (((HT.sIx items.size 0 lo:Nat):Int) == 0 && (1:Int) == 1 && (HT.sIx items.size items.size hi-HT.sIx items.size 0 lo) == items.size)=true then _ else _) _ _ s;rw[if_pos hyes];refine wab ?_;unfold Builtin.Tuple.tupleIsExact;refine wab (wpAny_typeOf ht.typeIs (wad ?_));rw[if_pos xwd];refine wab (wpAny_rule ?_);exact wad ⟨_,rfl,wad h⟩
end
section
variable{X:Cx}{C:Cn}{a b e:Expr}{fa fb:De}{pos:Pos}
def rSlW(K:W.Frag):V->Option Int->Option Int->Hp->VK->Prop:=λx lo hi H Q=>∃ a xs,x=.ref a/\SqT K H a xs /\
 (HT.sIx xs.length 0 lo=0/\HT.sIx xs.length xs.length hi=xs.length)/\Q (.ref a) H
theorem zto:SlR X (rSlW X.K):=by
 intro pS s Y H x v vl vu lo hi sl Q I rx hs pl pu h;obtain ⟨a,xs,rfl,hx,hw,q⟩:=h;cases rx;obtain ⟨its,r,ht,hz⟩:=I.tuple hx;have hlen:its.toArray.size=xs.length:=by rw[List.size_toArray];exact r.length.symm
 refine ⟨"tuple",_,PyProof.Rows.slot_tuple_getitem.lookup,ht.typeIs,?_⟩;exact zge ht hs pl pu (by rw[hlen];exact hw) ⟨.ref a,H,I,rfl,q⟩
def zhf(fa:De)(fl fh:DO):De:=λZ=>(fa Z).bind λa=>(fl a.2).bind λl=>(fh l.2).bind λh=>match a.1 with
 |.tup ds=>.ok (.tup (zjs ds l.1 h.1),h.2)
 |_=>.no
theorem znJ{lo hi:Option Expr}{fl fh:DO}{p2:Pos}(ha:JE X C a fa)(hl:JO X C lo fl)(hh:JO X C hi fh):JE X C (.Subscript a (.Slice lo hi none p2) pos) (zhf fa fl fh) :=
 PE.weak (zoW (zx2.or zto) ha hl hh) λY H Q ⟨G,w,Z,r,p⟩=>by
  refine zeC (κ:=λG H w=>kE X.K C Y Q G H w) zcF r p λd Z1 v G1 H1 w1 r1 s1 q1 p1=>?_;refine zyS (κ:=λG H w=>kE X.K C Y Q G H w) zcF r1 p1 λl Z2 G2 H2 w2 r2 s2 p2=>?_;refine zyS (κ:=λG H w=>kE X.K C Y Q G H w) zcF r2 p2 λh Z3 G3 H3 w3 r3 s3 p3=>?_;cases d with
  |tup ds =>
   have q3:=q1.same (s2.g.trans s3.g);obtain ⟨ad,vs,rfl,h1,h2⟩:=zfR q3;dsimp only at p3;by_cases hw:HT.sIx ds.length 0 l=0/\HT.sIx ds.length ds.length h=ds.length
   ·refine .inr ⟨ad,vs,rfl,zbi r3.gh h1.sq,by rw[<- h2.length];exact hw,?_⟩;have e:zjs ds l h=ds:=by unfold zjs;rw[hw.1,hw.2,List.drop_zero,Nat.sub_zero,List.take_length]
    rw[e] at p3;exact p3 _ G3 H3 w3 (.refl _ _ _) r3 q3
   ·have fin:∀ p,H3 p=none->Q (.ref p) (upd H3 p (.tup (zqi vs l h))):=λp hp=>by have gr:zfS G3 H3 (upd G3 p (.tup (zqi vs l h))) (upd H3 p (.tup (zqi vs l h))):=.new r3.gh hp;exact p3 _ _ _ w3 gr.step (r3.grow gr) (by unfold Rep;exact ⟨p,_,rfl,zne.of za5,(zov h2 l h).same gr.g⟩)
    exact .inl ⟨ad,vs,rfl,zbi r3.gh h1.sq,by rw[<- h2.length];exact hw,fin⟩
  |_=>exact p3.elim
end
section
variable{prog:Program}{w:World}{A:Around}{E:Value->Shared->Prop}{s:Shared}
theorem znA{l:Addr}{vs:List Value}{Q:List Value->Shared->Prop}(hl:s.heap.IsTuple l vs.toArray)
  (h:Q vs { s with heap:=(s.heap.push (seqObj "list" #[] 0)).update s.heap.objs.size (Obj.mapSeq (·++vs.toArray)) }) (hsz:vs.length<=sizeLine) :
  wpAny (model prog w) A (collect (.ref l)) Q E s:=by
 obtain ⟨o,ho,hc,n,hd⟩:=id hl;unfold collect;refine wab (wpAny_runValue (codeAny_builtin entry_proto_collect' ?_));show wpAny _ _ (do again (.builtin "list.__iadd__" ⟨[<- newList [],.ref l],[]⟩)) _ _ s;refine wab (wpAny_newList (wad ⟨Code.quiet_builtin _ xwD,codeAny_builtin entry_list_iadd' ?_⟩));show wpAny _ _ (Builtin.List.listExtendWith (.ref s.heap.objs.size) (.ref l) (.ref s.heap.objs.size)) _ _ { s with heap:=s.heap.push (seqObj "list" #[] 0) };unfold Builtin.List.listExtendWith;have ho':(s.heap.push (seqObj "list" #[] 0)).get? l=some o:=waa _ ho;refine wab (wpAny_typeOf (T:="tuple") ⟨o,ho',hc⟩ ?_);have ht:(Value.type "tuple" == Value.type "tuple")=true:=by rfl
 rw[if_pos (by rw[ht];simp)];refine wab (listItems_at ho' hd ?_);refine wab (listItems_at (xs:=#[]) (n:=0) (waj _ rfl) rfl ?_);rw[if_neg xws];refine wab (listUpdate_at (xs:=#[]) (n:=0) (waj _ rfl) rfl ?_ (Nat.zero_le _) (by show (#[]++vs.toArray).size<=sizeLine+1;simp only[Array.size_append,waf,List.length_nil];lia));refine wad ?_;show wpAny (model prog w) A (do
   let o <- load s.heap.objs.size
   match o.data with
   |.seq xs _=>pure xs.toList
   |_=>unsupported "internal:collect") Q E { s with heap:=(s.heap.push (seqObj "list" #[] 0)).update s.heap.objs.size (Obj.mapSeq (·++vs.toArray)) }
 refine wab (wpAny_load (get?_update_seq (waj _ rfl) _) ?_);show wpAny _ _ (pure ((#[]:Array Value)++vs.toArray).toList) Q E _;rw[show ((#[]:Array Value)++vs.toArray).toList=vs by simp];exact wad h
theorem zmY{l:Addr}{vs:List Value}{ns:List Int}{Q:Value->Shared->Prop}(hl:s.heap.IsTuple l vs.toArray)(hI:IntsAre vs ns)(h64:vs.length<64)
  (h:∀(out:Array Value)(ns':List Int),IntsAre out.toList ns'->ns'.Perm ns->ns'.Pairwise (· <= ·)->Q (.ref (s.heap.objs.size+1)) { s with heap:=sortedAll s.heap vs out }) :
  wpAny (model prog w) A (call (.builtin "sorted") [.ref l]) Q E s:=by
 refine Calls.call_function_entry kind_sorted plain_sorted entry_sorted (args_sorted1 _) ?_;unfold Builtin.«sorted»;refine wab (m:=checkCount "sorted" 1 1 _) (wad ?_);refine wab (znA hl ?_ (by rw[zdK];lia));refine wab (wpAny_newList ?_);have hsz:((s.heap.push (seqObj "list" #[] 0)).update s.heap.objs.size (Obj.mapSeq (·++vs.toArray))).objs.size=s.heap.objs.size+1:=by rw[Heap.size_update,size_push']
 have hoL:(((s.heap.push (seqObj "list" #[] 0)).update s.heap.objs.size (Obj.mapSeq (·++vs.toArray))).push (seqObj "list" vs.toArray 0)).get? (s.heap.objs.size+1)=some (seqObj "list" vs.toArray 0):=by rw[<- hsz];exact waj _ rfl
 show wpAny _ _ _ _ _ { s with heap:=((s.heap.push (seqObj "list" #[] 0)).update s.heap.objs.size (Obj.mapSeq (·++vs.toArray))).push (seqObj "list" vs.toArray 0) };rw[hsz];refine wab (wpAny_holding (wpAny_call_entry slot_list_sort ⟨_,hoL,rfl⟩ entry_list_sort (list_sort_tree hoL hI h64 λout ns' a1 a2 a3=>⟨_,rfl,?_⟩) (args_list_sort _)));exact wad ⟨_,rfl,h out ns' a1 a2 a3⟩
end
section
variable{X:Cx}{C:Cn}{a b e:Expr}{fa fb:De}{pos:Pos}
theorem zp8:zek X (.builtin "sorted") (λxs H Q=>∃(p:Addr)(ns:List Int),xs=[.ref p]/\SqT X.K H p (ns.map V.int)/\ns.length<64/\∀ l,H l=none->Q (.ref l) (upd H l (.lst ((zaK ns).map V.int)))):=by
 intro pS s Y H xs us Q I r h;obtain ⟨p,ns,rfl,hq,hl,q⟩:=h;obtain ⟨u,rfl,ru⟩:=zgF r;cases ru;obtain ⟨its,rv,pl,hz⟩:=I.tuple hq;have hlen:its.length=ns.length:=by rw[<- rv.length];simp
 refine zmY (show s.heap.IsTuple p its.toArray from pl) (PV.intsAre_of rv) xwl λout ns' a1 a2 a3=>?_;have e:ns'=zaK ns:=W.lks_uniq (a2.trans (zaw ns).symm) a3 (zbO ns);subst e;obtain ⟨c,hc⟩:=PyProof.Rows.sortedAll_at s.heap its out;refine ⟨.ref (s.heap.objs.size+1),_,I.laid (t':=s.toks) (λb o=>PyProof.Rows.sortedAll_old) (Nat.le_succ _) (o:=.lst ((zaK ns).map V.int)) ⟨?_,out.toList,c,PV.vals_ints a1,?_⟩,rfl,q _ (I.hok.fresh (Nat.le_succ _))⟩
 ·rw[List.length_map,(zaw ns).length_eq,zdK];lia
 ·simpa using hc
def zez:List Dt->R (List Dt)
 |[.tup l]=>match zmV l with
  |some ns=>if ns.length<64 then .ok ((zaK ns).map .int) else .no
  |none=>.no
 |_=>.no
theorem ztI{K:W.Frag}:FnN K (λxs H Q=>∃(p:Addr)(ns:List Int),xs=[.ref p]/\SqT K H p (ns.map V.int)/\ns.length<64/\∀ l,H l=none->Q (.ref l) (upd H l (.lst ((zaK ns).map V.int)))) zez:=λG H vs ds z Q gh hr e k=>by
 unfold zez at e;split at e
 ·split at e
  ·rename_i ns en;split at e
   ·rename_i hl;obtain ⟨v,rfl,h1⟩:=zht hr;obtain ⟨a,us,rfl,h2,h3⟩:=zfR h1;cases e;rw[zlz h3 en] at h2;exact ⟨a,ns,rfl,zbi gh h2.sq,hl,λl hl=>k l _ hl (ziY _)⟩
   ·cases e
  ·cases e
 ·cases e
theorem zsU:zoL zez:=λx n h=>by
 unfold zez at h;split at h
 ·split at h
  ·split at h <;> cases h
  ·cases h
 ·cases h
theorem ztJ{x:Expr}{p:Pos}(hg:Gl X "sorted")(hm:X.mg "sorted"=none)(ha:JE X C x fa)(hs:starEach [x] X.env=(false,eval x X.env)::starEach [] X.env:=by rfl)(hpl:(backTo pos (starEach [] X.env)).any (·.1)=false:=by rfl) :
  JN X C (.Call (.Name "sorted" p) [x] [] pos) (zem zez (dA fa dA0)) :=
 zoz ztI zsU zp8 hg hm PyProof.Rows.boot_sorted (zau ha za7 hs) xwd xwd hs hpl
end
section
variable{X:Cx}{C:Cn}{pos:Pos}
def zyH(f:De)(g:DG):DS:=λZ=>(f Z).bind λa=>(g a.1 a.2).bind λZ1=>.ok (.nx,Z1)
theorem zy7{tg e:Expr}{fa:De}{g:DG}(he:JE X C e fa)(hg:JG X C tg g)(hs:swapsWithSole [tg] e pos.line X.env=pure false:=by rfl)(hw:swappedStores [tg] e X.env=pure none:=by rfl)
  (h1:(assignEach [tg] X.env).map (·.2)=[assign tg X.env]:=by rfl):JS X C (.Assign [tg] e pos) (zyH fa g) :=
 PS.weak (zuM he hg hs hw h1) λD Y H ⟨G,w,Z,r,p⟩=>by
  refine zeC (κ:=λG H w=>kS X.K C D G H w) zfn r p λd Z1 v G1 H1 w1 r1 s1 q1 p1=>?_;refine ⟨G1,w1,Z1,d,r1,q1,?_⟩;dsimp only at p1;cases hgd:g d Z1 with
  |ok Z2=>rw[hgd] at p1;exact p1
  |er n=>rw[hgd] at p1;exact p1
  |no=>rw[hgd] at p1;exact p1
end
end PV
end
section
end
section
end
section
namespace PV
open PySem PySem.Spec L2 PyProof.Rows
def zn1:Dt->Bool
 |.non=>true
 |_=>false
theorem zm3{K:W.Frag}{G:Hp}:∀{d:Dt}{v:V},Rep K G d v->decide (v=V.non)=zn1 d
 |.non,v,h=>by unfold Rep at h;subst h;rfl
 |.bl _,v,h=>by unfold Rep at h;subst h;rfl
 |.int _,v,h=>by unfold Rep at h;subst h;rfl
 |.str _,v,h=>by unfold Rep at h;subst h;rfl
 |.tup _,v,h=>by unfold Rep at h;obtain ⟨a,vs,rfl,_⟩:=h;rfl
 |.lst _,v,h=>by unfold Rep at h;obtain ⟨a,vs,rfl,_⟩:=h;rfl
 |.dct _,v,h=>by unfold Rep at h;obtain ⟨a,rfl,_⟩:=h;rfl
 |.scr _,v,h=>by unfold Rep at h;obtain ⟨a,rfl,_⟩:=h;rfl
def zl6(b:Bool)(fa:De):DT:=λZ=>(fa Z).bind λa=>.ok (b == zn1 a.1,a.2)
section
variable{X:Cx}{C:Cn}{a:Expr}{fa:De}{pos pn:Pos}{j:Nat}
theorem zoE(ha:JE X C a fa):JT X C (.Compare a [.Is] [.Constant .none j pn] pos) (zl6 true fa) :=
 PT.weak (zut (zuP ha)) λY H Q ⟨G,w,Z,r,p⟩=>by
  unfold zl6 at p;refine zeC (κ:=λG H w=>kT X.K C Y Q G H w) zp0 r p λd Z1 v G1 H1 w1 r1 s1 q1 p1=>⟨_,rfl,?_⟩
  rw[zm3 q1];have:=p1 _ _ _ (.refl _ _ _) r1;simpa using this
theorem zwJ(ha:JE X C a fa):JT X C (.Compare a [.IsNot] [.Constant .none j pn] pos) (zl6 false fa) :=
 PT.weak (zut (zv2 ha)) λY H Q ⟨G,w,Z,r,p⟩=>by
  unfold zl6 at p;refine zeC (κ:=λG H w=>kT X.K C Y Q G H w) zp0 r p λd Z1 v G1 H1 w1 r1 s1 q1 p1=>⟨_,rfl,?_⟩
  rw[zm3 q1];have:=p1 _ _ _ (.refl _ _ _) r1;simpa using this
end
def zsY(i:Nat)(f2 f3:De)(F:FD):De:=λZ=>match Z[i]? with
 |some (some (.own _))=>(f2 Z).bind λb=>(f3 b.2).bind λc=>match c.2[i]? with
  |some (some (.own l))=>match F [.val (.lst l),.val b.1,.val c.1] with
   |.ok (.lst ds,_)=>.ok (.int ds.length,c.2)
   |_=>.no
  |_=>.no
 |_=>.no
section
variable{X:Cx}{C:Cn}{CX:CXT}{k k':Nat}{ks:List Bool}{Fd:FD}{x a:Str}{e2 e3:Expr}{f2 f3:De}{p pl pos posl pa:Pos}
theorem zwo(i:Nat)(D:Dfn false X.prog X.w X.K X.mg X.base CX C.xv k x ks Fd)(hr:zgv k' X.A)(hk:k<=k')(hx:zep CX X (EXc C))(hml:X.mg "len"=none)(hb:JE X C e2 f2)(hc:JE X C e3 f3)(hN:X.N[i]? = some a:=by rfl)
  (hv:Vis X.env.scope a:=by exact xwV)
  (d1:(a == ("__debug__" : Str))=false:=by decide) (d2:(a == ("__classdict__" : Str))=false:=by decide)
  (hg:Gl X x:=by rfl) (hgl:Gl X "len":=by rfl) (hdb:(x == ("__debug__" : Str))=false:=by decide) (he:starEach [.Name a pa,e2,e3] X.env=(false,eval (.Name a pa) X.env)::starEach [e2,e3] X.env:=by rfl) (he2:starEach [e2,e3] X.env=(false,eval e2 X.env)::starEach [e3] X.env:=by rfl) (he3:starEach [e3] X.env=(false,eval e3 X.env)::starEach [] X.env:=by rfl)
  (hpl:(backTo pos (starEach [e2,e3] X.env)).any (·.1)=false:=by rfl)
  (hsl:starEach [.Call (.Name x p) [.Name a pa,e2,e3] [] pos] X.env=(false,eval (.Call (.Name x p) [.Name a pa,e2,e3] [] pos) X.env)::starEach [] X.env:=by rfl) (hpl2:(backTo posl (starEach [] X.env)).any (·.1)=false:=by rfl) :
  JE X C (.Call (.Name "len" pl) [.Call (.Name x p) [.Name a pa,e2,e3] [] pos] [] posl) (zsY i f2 f3 Fd):=by
 obtain ⟨f,fd,ps,h1,h2,h3,h4,h5⟩:=D.ex;refine PE.weak (zgD (zfq.or zhC) hgl hml zus (zbY (znV h1 (hr.mono hk) hg h2 h3 h4 .nil hx (zbY (zd9 (i:=i) hN hv d1 d2) (zbY hb (zbY hc zeW he3) he2) he) hdb he hpl) zeW hsl) xwd xwd hsl hpl2) λY H Q ⟨G,w,Z,r,q⟩=>?_;unfold zsY at q;split at q
 case h_2=>exact q.elim
 rename_i l0 ei0;obtain ⟨al,vs0,e1,_,_,_⟩:=zdq r ei0;refine ⟨.ref al,e1,?_⟩;refine zeC (κ:=λG H w=>kE X.K C Y Q G H w) zcF r q λd Z1 v G1 H1 w1 r1 s1 q1 p1=>?_;refine zeC (κ:=λG H w=>kE X.K C Y Q G H w) zcF r1 p1 λd' Z2 v2 G2 H2 w2 r2 s2 q2 p2=>?_;dsimp only at p2;split at p2
 case h_2=>exact p2.elim
 rename_i l ei;obtain ⟨al',vs,e1',e2,e3,e4⟩:=zdq r2 ei;rw[e1] at e1';cases e1';have hgl:G2 al=none:=r2.wg al (by rw[e2];simp);have sg:zea G2 (upd G2 al (.lst vs)):=λb u e=>by rw[za1 (zay e hgl)];exact e
 split at p2
 case h_2=>exact p2.elim
 rename_i ds bs' eF;have hks:zdX [.val (.lst l),.val d,.val d']=ks:=h5 _ (by rw[eF];exact λz=>by cases z);refine ⟨upd G2 al (.lst vs),λ_=>none,[.val (.lst l),.val d,.val d'],by rw[<- hks];rfl,hks,⟨λb u e=>?_,λb e=>absurd rfl e,λb e=>absurd rfl e,rfl,λjj bz vz g1 g2=>?_⟩,?_⟩
 ·by_cases hb:b=al
  ·subst hb;rw[za5] at e;cases e;exact e3
  ·rw[za1 hb] at e;exact r2.gh b u e
 ·match jj with
  |0 =>
   cases g1;cases g2;show Rep X.K _ (.lst l) (.ref al);unfold Rep;exact ⟨al,vs,rfl,za5,e4.same sg⟩
  |1 =>
   cases g1;cases g2;exact Rep.same sg (q1.same s2.g)
  |2 =>
   cases g1;cases g2;exact Rep.same sg q2
  |n+3=>simp at g1
 ·rw[eF];intro v' G' H' w' s' pb rt;obtain ⟨a',us,ea,h6,h7⟩:=zbg (K:=X.K) (G:=G') rt;subst ea;have st:zbK G2 H2 w2 G2 H' w2:=⟨.refl _,λb u e=>.inl (by rw[e];simp),λb u e _=>s'.h b u e rfl,λ_ e=>.inl e,s'.k⟩
  refine .inl ⟨a',us,rfl,.inl (SqL.of (pb.gh _ _ h6)),?_⟩;rw[<- h7.length];refine p2 _ G2 H' w2 st ⟨λb u e=>s'.h b u (r2.gh b u e) rfl,r2.wg,λb e z=>r2.wh b e (s'.k b z),r2.len,λi' b' e=>?_,r2.en.trans st,r2.pin⟩ (by unfold Rep;rfl);obtain ⟨v2,g1,g2⟩:=r2.sl i' b' e;exact ⟨v2,g1,g2.grow (.refl _) λa' o q1 q2=>⟨s'.h a' o q2 rfl,q1⟩⟩
end
end PV
end
section
namespace PV
open PySem PySem.Spec PyProof.Rows L2
namespace RV
theorem zjn:Manifest.owners.lookup "reversed"=some Manifest.sig_reversed:=by kernel_rfl
theorem zf1:Slot "reversed" "__next__" "reversed.__next__" :=
 .of (owner:="reversed") (n:="__next__") (by rw[typeLookup_type,builtinLookup_eq_fast];kernel_rfl) xwD xwD xwD
  (by first|exact .inl xwD|exact .inr xwD) (by rw[isSubtype_type];kernel_rfl)
theorem zjK:entryFor table "reversed.__next__"=some Builtin.«reversed.__next__» := entryFor_of_tree xwk
theorem zmP(a:Value):argsOk "reversed.__next__" ⟨[a],[]⟩:=by unfold argsOk;rw[signature?_of (id:="reversed.__next__") (n:=['_','_','t','x','e','n','_','_']) (o:=['d','e','s','r','e','v','e','r']) xwk zjn];kernel_rfl
theorem zmF:Slot "reversed" "__iter__" "reversed.__iter__" :=
 .of (owner:="reversed") (n:="__iter__") (by rw[typeLookup_type,builtinLookup_eq_fast];kernel_rfl) xwD xwD xwD
  (by first|exact .inl xwD|exact .inr xwD) (by rw[isSubtype_type];kernel_rfl)
theorem zs5(a:Value):argsOk "reversed.__iter__" ⟨[a],[]⟩:=by unfold argsOk;rw[signature?_of (id:="reversed.__iter__") (n:=['_','_','r','e','t','i','_','_']) (o:=['d','e','s','r','e','v','e','r']) xwk zjn];kernel_rfl
theorem zpY:entryFor table "reversed.__iter__"=some Builtin.«dict_keyiterator.__iter__» :=
 entryFor_alias (id':="dict_keyiterator.__iter__") xwk (by first|rfl|decide +kernel|(unfold String.splitOn;simp +decide [String.splitOnAux])) xwD xwk
theorem zyO:typeLookup (.type "reversed") "__len__"=pure none:=by rw[typeLookup_type,builtinLookup_eq_fast];kernel_rfl
theorem hint:typeLookup (.type "reversed") "__length_hint__"=pure (some (.builtin "reversed.__length_hint__")):=by rw[typeLookup_type,builtinLookup_eq_fast];kernel_rfl
theorem zxj:typeLookup (.type "tuple") "__reversed__"=pure none:=by rw[typeLookup_type,builtinLookup_eq_fast];kernel_rfl
theorem zsl:Slot "reversed" "__init__" "object.__init__" :=
 .of (owner:="object") (n:="__init__") (by rw[typeLookup_type,builtinLookup_eq_fast];kernel_rfl) xwD xwD xwD
  (by first|exact .inl xwD|exact .inr xwD) (by rw[isSubtype_type];kernel_rfl)
theorem zxD:TypeCalled "reversed" "reversed.__new__" "object.__init__":=⟨xwD,F.create_reversed,⟨_,_,F.mro_reversed⟩,F.made_reversed,F.plain_reversed_new,F.sub_reversed_self,zsl⟩
theorem tup_at{h h':Heap}{t:Addr}{items:Array Value}(x:IsTup h t items)(e:∀ o,h.get? t=some o->h'.get? t=some o):IsTup h' t items:=let ⟨o,ho,r⟩:=x;⟨o,e _ ho,r⟩
def rvObj(t:Addr)(i:Int):Obj:={ cls:=.type "reversed",data:=.fields #[.ref t,rawInt i] }
def IsRv(h:Heap)(a t:Addr)(i:Int):Prop:=h.get? a=some (rvObj t i)
theorem zrk(t:Addr)(items:Array Value)(hn:(items.size:Int)<2 ^ 62) :
  Meets (Builtin.«reversed.__new__» ⟨[.type "reversed",.ref t],[]⟩) (λ_ R s=>IsTup s.heap t items/\R (.ok (.ret (.ref s.heap.objs.size))) { s with heap:=s.heap.push (rvObj t ((items.size:Int)-1)),toks:=s.toks+1+1 }) :=
 .of_wp λprog w A R s h=>by
  obtain ⟨ht,h⟩:=h;have hT:s.TypeIs (.ref t) "tuple":=ht.typeIs;unfold Builtin.«reversed.__new__»;refine wab (wpAny_of_eq (newClass_reversed _) ?_)
  try dsimp only
  refine wab (wpAny_of_eq (a:=()) (by first|rfl|kernel_rfl) ?_);refine wab (wpAny_of_eq (a:=()) (by first|rfl|kernel_rfl) ?_)
  try dsimp only
  refine wab (wpAny_specialOf hT zxj ?_)
  try dsimp only
  refine wab ?_
  wp_delta
  refine wab (wpAny_isInstance (T:="tuple") (b:=false) hT (by rw[isSubtype_type];kernel_rfl) ?_);refine wpAny_ite_split (λh=>absurd h xwd) (λ_=>?_)
  try dsimp only
  refine wab (wpAny_specialOf hT F.slot_tuple_getitem.lookup ?_)
  try dsimp only
  refine wpAny_ite_split (λ_=>?_) (λh=>absurd xwD h);refine wad ?_;refine wpAny_ite_split (λh=>absurd h xwd) (λ_=>?_);refine wab (len_tuple ht xwo ?_);refine wab (wpAny_of_eq (a:=some (items.size:Int)) rfl ?_)
  try dsimp only
  refine wab (show wpAny _ _ (newObj (.type "reversed") (.fields #[.ref t,rawInt ((items.size:Int)-1)])) _ _ _ from ?_);exact wpAny_newObj_type (wad ⟨_,rfl,h⟩)
section
variable{prog:Program}{w:World}{A:Around}{E:Value->Shared->Prop}{s:Shared}
theorem IsRv.typeIs{a t:Addr}{i:Int}(x:IsRv s.heap a t i):s.TypeIs (.ref a) "reversed":=⟨_,x,rfl⟩
theorem call_new{t:Addr}{items:Array Value}{Q:Value->Shared->Prop}(ht:IsTup s.heap t items)(hn:(items.size:Int)<2 ^ 62)(h:Q (.ref s.heap.objs.size) { s with heap:=s.heap.push (rvObj t ((items.size:Int)-1)),toks:=s.toks+1+1 }) :
  wpAny (model prog w) A (call (.type "reversed") [.ref t]) Q E s :=
 callType_new zxD xwd (F.typeCall_reversed_1 _) (F.newCall_reversed_1 _) (λobj=>F.args_object_init_2 obj _) F.entry_reversed_new (zrk t items hn) ⟨ht,⟨_,waj _ rfl,rfl⟩,h⟩
theorem zso{it t:Addr}{i:Nat}{items:Array Value}{x:Value}{Q:Option Value->Shared->Prop}(hit:IsRv s.heap it t (i:Int))(ht:IsTup s.heap t items)(hn:(items.size:Int)<2 ^ 62)(hx:items[i]? = some x)
  (hQ:∀ h' tk,IsRv h' it t ((i:Int)-1)->Heap.SameBut it s.heap h'->Q (some x) { s with heap:=h',toks:=tk }):wpAny (model prog w) A (pyNext (.ref it)) Q E s:=by
 have hT:s.TypeIs (.ref t) "tuple":=ht.typeIs;have hlt:i<items.size:=by obtain ⟨h,_⟩:=Array.getElem?_eq_some_iff.mp hx;exact h
 unfold pyNext;refine wab (wpAny_attempt (wpAny_callSpecial?_slot (name:=Str.ofString "__next__") (IsRv.typeIs hit) zf1
  (wpAny_call_entry zf1 (IsRv.typeIs hit) zjK ?_ (zmP _))))
 unfold Builtin.«reversed.__next__»;refine wab (wpAny_of_eq (a:=(Value.ref it,[])) rfl ?_)
 try dsimp only
 refine wab (wpAny_field hit (show (rvObj t (i:Int)).data=.fields #[.ref t,rawInt (i:Int)] from rfl) (x:=.ref t) rfl ?_);refine wab (wpAny_field hit (show (rvObj t (i:Int)).data=.fields #[.ref t,rawInt (i:Int)] from rfl) (x:=rawInt (i:Int)) rfl ?_);show wpAny _ _ (if (i:Int)<0 then _ else _) _ _ s;rw[if_neg xwo];refine wab (wpAny_specialOf hT F.slot_tuple_getitem.lookup ?_);refine wpAny_ite_split (λh=>absurd h xwd) (λ_=>?_);refine wab (wpAny_mkInt ?_);have hk:seqIndex? (i:Int) items.size=some i:=by
  unfold seqIndex?;simp only
  first|(rw[if_neg xwo];simp;omega)|(simp;omega)
 refine wab (wpAny_attempt (getItem_tuple ht xwo xwo hk hx ?_))
 try dsimp only
 refine wab (wpAny_field hit (show (rvObj t (i:Int)).data=.fields #[.ref t,rawInt (i:Int)] from rfl) (x:=rawInt (i:Int)) rfl ?_);show wpAny _ _ (setField (.ref it) 1 (rawInt ((i:Int)-1)) >>= _) _ _ _;refine wab (wpAny_setField hit (show (rvObj t (i:Int)).data=.fields #[.ref t,rawInt (i:Int)] from rfl) xws ?_);refine wad ⟨x,rfl,wad (hQ _ _ ?_ (Heap.SameBut.update ..))⟩;exact (Heap.get?_update_self _ hit (Obj.isFreed_of_fields (Obj.data_mapFields (show (rvObj t (i:Int)).data=.fields #[.ref t,rawInt (i:Int)] from rfl) _))).trans rfl
theorem zsL{it t:Addr}{Q:Option Value->Shared->Prop}(hh:A.handled=none)(hit:IsRv s.heap it t (-1))
  (hQ:∀ h',Heap.ExtBut it s.heap h'->Q none { s with heap:=h' }):wpAny (model prog w) A (pyNext (.ref it)) Q E s:=by
 unfold pyNext;refine wab (wpAny_attempt (wpAny_callSpecial?_slot (name:=Str.ofString "__next__") (IsRv.typeIs hit) zf1
  (wpAny_call_entry zf1 (IsRv.typeIs hit) zjK ?_ (zmP _))))
 unfold Builtin.«reversed.__next__»;refine wab (wpAny_of_eq (a:=(Value.ref it,[])) rfl ?_)
 try dsimp only
 refine wab (wpAny_field hit (show (rvObj t (-1)).data=.fields #[.ref t,rawInt (-1)] from rfl) (x:=.ref t) rfl ?_);refine wab (wpAny_field hit (show (rvObj t (-1)).data=.fields #[.ref t,rawInt (-1)] from rfl) (x:=rawInt (-1)) rfl ?_);show wpAny _ _ (if (-1:Int)<0 then _ else _) _ _ s;rw[if_pos xwd];refine wab (wpAny_rule ?_);refine wab ?_
 wp_delta
 refine wab (wpAny_setField hit (show (rvObj t (-1)).data=.fields #[.ref t,rawInt (-1)] from rfl) xws ?_);have h1:(s.heap.update it (Obj.mapFields λfs=>fs.set! 1 (rawInt (-1)))).get? it=some (rvObj t (-1)):=(Heap.get?_update_self _ hit (Obj.isFreed_of_fields (Obj.data_mapFields (show (rvObj t (-1)).data=.fields #[.ref t,rawInt (-1)] from rfl) _))).trans rfl;refine wpAny_setField h1 (show (rvObj t (-1)).data=.fields #[.ref t,rawInt (-1)] from rfl) xws ?_;refine wab ?_;show wpAny _ _ (newExc (.type "StopIteration") [] >>= _) _ _ _;refine wab ?_;simp only[newExc,newTuple];refine wab (wpAny_newObj_type ?_ (by size_fits));refine wab (m:=firstArgMember _ _) (wpAny_of_eq (a:=Value.none) (by first|rfl|(simp only[firstArgMember];rfl)) ?_);refine wpAny_newObj_type ?_ (by size_fits);simp only[raiseNew];refine wab (wpAny_handled ?_)
 first|rw[show A.in1.handled=none from hh]|rw[hh]
 refine wab (wad (wpAny_throw ?_));refine wab (wpAny_isInstance (T:="StopIteration") (b:=true) ⟨_,waj _ rfl,rfl⟩ isSubtype_stop ?_);refine wad (hQ _ ?_);have e0:Heap.ExtBut it s.heap ((s.heap.update it (Obj.mapFields λfs=>fs.set! 1 (rawInt (-1)))).update it (Obj.mapFields λfs=>fs.set! 0 Value.none)):=λb o hb e=>(Heap.get?_update_other _ _ (Ne.symm hb)).trans ((Heap.get?_update_other _ _ (Ne.symm hb)).trans e);exact (e0.push _).push _
theorem zmJ{it t:Addr}{i:Int}{Q:Value->Shared->Prop}(hit:IsRv s.heap it t i)(h:Q (.ref it) s):wpAny (model prog w) A (pyIter (.ref it)) Q E s:=by refine wpAny_pyIter_slot (IsRv.typeIs hit) zmF (wpAny_call_entry zmF (IsRv.typeIs hit) zpY ?_ (zs5 _));show wpAny _ _ (ret (.ref it)) _ _ s;exact wad ⟨_,rfl,"reversed",_,IsRv.typeIs hit,zf1.lookup,h⟩
end
theorem IsRv.at{h h':Heap}{a t:Addr}{i:Int}(x:IsRv h a t i)(e:∀ o,h.get? a=some o->h'.get? a=some o):IsRv h' a t i:=e _ x
theorem zzx{prog:Program}{w:World}{A:Around}(hh:A.handled=none)(I t:Addr)(hne:t≠I)(items:Array Value)(hn:(items.size:Int)<2 ^ 62) :
  Walks prog w A I [I,t] [I] items.size (λi v=>items[items.size-1-i]? = some v) (λi h=>i<=items.size/\IsRv h I t ((items.size:Int)-1-(i:Int))/\IsTup h t items) where
 sub:=λb hb=>by simp at hb;simp[hb]
 frame:=λ_ _ _ x hk=>⟨x.1,IsRv.at x.2.1 λo e=>hk I xws o e,tup_at x.2.2 λo e=>hk t xws o e⟩
 item:=λi s Q E hi x hQ=>by
  have e:(items.size:Int)-1-(i:Int)=((items.size-1-i:Nat):Int):=by omega
  have hit:=x.2.1;rw[e] at hit;have hx:items[items.size-1-i]? = some (items[items.size-1-i]'xwo):=Array.getElem?_eq_getElem xwo;refine zso hit x.2.2 hn hx λh' tk hit' hs'=>?_;have e2:((items.size-1-i:Nat):Int)-1=(items.size:Int)-1-((i+1:Nat):Int):=by omega
  rw[e2] at hit';exact hQ _ h' tk hx ⟨hi,hit',tup_at x.2.2 λo e=>(hs'.2 t hne).trans e⟩ λb o hb eo=>hs'.extBut b o (λh=>hb (by simp[h])) eo
 done:=λs Q E x hQ=>by
  have e:(items.size:Int)-1-(items.size:Int) = -1:=by omega
  have hit:=x.2.1;rw[e] at hit;exact zsL hh hit λh' he'=>hQ h' s.toks λb o hb eo=>he' b o (λh=>hb (by simp[h])) eo
 self:=λ_ _ _ _ x hQ=>zmJ x.2.1 hQ
theorem zqt(a:Value):argsOk "reversed.__length_hint__" ⟨[a],[]⟩:=by unfold argsOk;rw[signature?_of (id:="reversed.__length_hint__") (n:=['_','_','t','n','i','h','_','h','t','g','n','e','l','_','_']) (o:=['d','e','s','r','e','v','e','r']) xwk zjn];kernel_rfl
theorem zmA:Slot "reversed" "__length_hint__" "reversed.__length_hint__" :=
 .of (owner:="reversed") (n:="__length_hint__") hint xwD xwD xwD
  (by first|exact .inl xwD|exact .inr xwD) (by rw[isSubtype_type];kernel_rfl)
theorem zpQ:entryFor table "reversed.__length_hint__"=some Builtin.«reversed.__length_hint__» := entryFor_of_tree xwk
section
variable{prog:Program}{w:World}{A:Around}{E:Value->Shared->Prop}{s:Shared}
theorem zqU{it t:Addr}{items:Array Value}{Q:Value->Shared->Prop}(hit:IsRv s.heap it t ((items.size:Int)-1))(ht:IsTup s.heap t items)(hn:(items.size:Int)<2 ^ 62)
  (h:∀ tk tk',Q (.int (items.size:Int) tk) { s with toks:=tk' }):wpAny (model prog w) A (call (.builtin "reversed.__length_hint__") [.ref it]) Q E s:=by
 refine wpAny_call_entry zmA (IsRv.typeIs hit) zpQ ?_ (zqt _);unfold Builtin.«reversed.__length_hint__»;refine wab (wpAny_of_eq (a:=Value.ref it) rfl ?_);refine wab (wpAny_field hit (show (rvObj t ((items.size:Int)-1)).data=.fields #[.ref t,rawInt ((items.size:Int)-1)] from rfl) (x:=.ref t) rfl ?_);refine wpAny_ite_split (λh=>absurd (show (Value.ref t == Value.none)=true from h) Bool.false_ne_true) (λ_=>?_);refine wab (len_tuple ht xwo ?_);refine wab (wpAny_of_eq (a:=some (items.size:Int)) rfl ?_)
 try dsimp only
 refine wab (wpAny_field hit (show (rvObj t ((items.size:Int)-1)).data=.fields #[.ref t,rawInt ((items.size:Int)-1)] from rfl) (x:=rawInt ((items.size:Int)-1)) rfl ?_);show wpAny _ _ (if (items.size:Int)<(items.size:Int)-1+1 then _ else _) _ _ _;rw[if_neg xwo];rw[show (items.size:Int)-1+1=items.size by omega];exact wab (wpAny_mkInt (wad ⟨_,rfl,h _ _⟩))
theorem zxE{R:Result->Shared->Prop}{it t:Addr}{items:Array Value}(hh:A.handled=none)(hit:IsRv s.heap it t ((items.size:Int)-1))(ht:IsTup s.heap t items)(hne:t≠it)(hpos:0<items.size)(S:Addr)(res:Value)(c₀:Nat)(hS:s.heap.get? S=some { cls:=.type "list",data:=.seq #[] c₀ })(hSl:S≠t)
  (hn:items.size<=sizeLine)
  (hR:∀ h' tk acc' c',(∀ b o,b≠S->b≠it->s.heap.get? b=some o->h'.get? b=some o)->h'.get? S=some { cls:=.type "list",dict:=none,data:=.seq acc' c',slots:=#[] } ->
   ItemsOf (λi v=>items[items.size-1-i]? = some v) acc' items.size->R (.ok (.ret res)) { s with heap:=h',toks:=tk }) :
  wpAny (model prog w) A.in1 (Builtin.List.listExtendWith (.ref S) (.ref it) res)
   (λfin s'=>match fin with|.done f=>R (.ok f) s'|.again c'=>c'.quiet=true/\codeAny (model prog w) A c' R s') (λe s'=>R (.error e) s') s:=by
 have hn62:(items.size:Int)<2 ^ 62:=by unfold sizeLine at hn;omega
 have hSI:S≠it:=λe=>by rw[e,hit] at hS;have:=congrArg Obj.cls (waA hS);exact absurd (show Value.type "reversed"=Value.type "list" from this) xwD
 have hSf:S∉[it,t]:=λhm=>by
  rcases wap.mp hm with z|z
  ·exact hSI z
  ·exact hSl (List.mem_singleton.mp z)
 unfold Builtin.List.listExtendWith;refine wab (wpAny_typeOf (T:="reversed") (IsRv.typeIs hit) ?_);have h1:Builtin.List.listSameRef (.ref S) (.ref it)=false:=by simp[Builtin.List.listSameRef,hSI]
 have h2:(Value.type "reversed" == Value.type "list")=false:=by decide +kernel
 have h3:(Value.type "reversed" == Value.type "tuple")=false:=by decide +kernel
 simp only[h1,h2,h3,Bool.or_false,Bool.false_eq_true,if_false];refine wab (zmJ hit ?_);refine wab (wpAny_holding ?_);unfold Builtin.List.listLengthHint;refine wab (wpAny_specialOf (IsRv.typeIs hit) zyO ?_);show wpAny _ A.in1 (specialOf (Value.ref it) (Str.ofString "__length_hint__") >>= _) _ _ _;refine wab (wpAny_specialOf (IsRv.typeIs hit) hint ?_)
 wp_delta
 refine wab (wpAny_isInstance (T:="reversed") (b:=true) (IsRv.typeIs hit) (by rw[isSubtype_type];kernel_rfl) ?_);refine wpAny_ite_split (λh=>absurd h xwd) (λ_=>?_);refine wpAny_ite_split (λh=>absurd h xwD) (λ_=>?_);refine wab (wpAny_rule ?_);refine wab (wpAny_of_eq (zmA.bind _) ?_)
 try dsimp only
 refine wab (wpAny_attempt (zqU hit ht hn62 λtk tk'=>?_));generalize hz:(items.size:Int)=z
 try dsimp only
 refine wab (wpAny_of_eq (a:=some z) rfl ?_)
 try dsimp only
 have hf:Builtin.List.listFitsIndex z=true:=by unfold Builtin.List.listFitsIndex;rw[Bool.and_eq_true,decide_eq_true_eq,decide_eq_true_eq];omega
 have hlo:Builtin.List.listTooLong z.toNat=false:=by rw[<- hz,Int.toNat_natCast];unfold Builtin.List.listTooLong;rw[decide_eq_false_iff_not];exact Nat.not_lt.mpr hn
 refine wpAny_ite_split (λh=>absurd h (by rw[hf];decide)) (λ_=>?_);refine wpAny_ite_split (λh=>absurd h xwo) (λ_=>?_);refine wpAny_ite_split (λh=>absurd h (by rw[hlo];decide)) (λ_=>?_);refine wad ?_;rw[show (z != 0:Bool)=true by rw[bne_iff_ne];omega,Bool.true_or,if_pos rfl];refine wab (wpAny_rule ?_);refine wab ?_;show wpAny _ A.in1 (updateSeq S (·.push .none) >>= λ_=>updateSeq S (·.pop)) _ _ _;refine wab (wpAny_updateSeq hS rfl ?_);have hS2:=Heap.get?_update_self (Obj.mapSeq (·.push Value.none)) hS rfl;refine wpAny_updateSeq (hz:=by seq_fits) hS2 rfl ?_;have hS3:=Heap.get?_update_self (Obj.mapSeq (·.pop)) hS2 rfl;have oth:∀ b o,b≠S->s.heap.get? b=some o->((s.heap.update S (Obj.mapSeq (·.push Value.none))).update S (Obj.mapSeq (·.pop))).get? b=some o :=
  λb o hb e=>(Heap.get?_update_other _ _ (Ne.symm hb)).trans ((Heap.get?_update_other _ _ (Ne.symm hb)).trans e)
 have W:=(zzx (prog:=prog) (w:=w) (A:=A.in1) hh it t hne items hn62).toS;refine wad ⟨plainId_quiet F.plain_extend_loop _,codeAny_extend_loopS W hn _ hSf _ items.size 0 _ _ _ rfl (Nat.zero_le _) ⟨Nat.zero_le _,by rw[show (items.size:Int)-1-((0:Nat):Int)=(items.size:Int)-1 by omega];exact oth it _ (Ne.symm hSI) hit,tup_at ht λo e=>oth t o (Ne.symm hSl) e⟩ hS3 (ItemsOf.nil _) λs' acc' c' hm hS' hacc=>?_⟩;rw[Moved.eq_with hm];refine hR s'.heap s'.toks acc' c' (λb ob hb hb2 e=>hm.heap b ob (λhmem=>?_) (oth b ob hb e)) hS' hacc;rcases wap.mp hmem with e'|hmem
 ·exact hb e'
 ·exact hb2 (List.mem_singleton.mp hmem)
theorem zuZ{R:Result->Shared->Prop}{it t:Addr}{items:Array Value}(hh:A.handled=none)(hit:IsRv s.heap it t ((items.size:Int)-1))(ht:IsTup s.heap t items)(hne:t≠it)(hpos:0<items.size)(S:Addr)(hS:s.heap.get? S=some { cls:=.type "list",data:=.seq #[] })(hSl:S≠t)(hSI:S≠it)
  (hn:items.size<=sizeLine)
  (hR:∀ h' tk acc' c',(∀ b o,b≠S->b≠it->s.heap.get? b=some o->h'.get? b=some o)->h'.get? S=some { cls:=.type "list",dict:=none,data:=.seq acc' c',slots:=#[] } ->
   ItemsOf (λi v=>items[items.size-1-i]? = some v) acc' items.size->R (.ok (.ret .none)) { s with heap:=h',toks:=tk }) :
  wpAny (model prog w) A.in1 (Builtin.«list.__init__» ⟨[.ref S,.ref it],[]⟩)
   (λfin s'=>match fin with|.done f=>R (.ok f) s'|.again c'=>c'.quiet=true/\codeAny (model prog w) A c' R s') (λe s'=>R (.error e) s') s:=by
 show wpAny _ _ (do let old <- Builtin.List.listItems (.ref S);Builtin.List.listUpdate (.ref S) (λ_=>#[]);letGo old.toList.reverse;Builtin.List.listExtendWith (.ref S) (.ref it) .none) _ _ s;refine wab ?_;unfold Builtin.List.listItems;refine wab (wpAny_seqItems hS rfl (wad ?_));show wpAny _ _ (updateSeq S (λ_=>#[]) >>= λ_=>letGo (#[]:Array Value).toList.reverse >>= λ_=>Builtin.List.listExtendWith (.ref S) (.ref it) .none) _ _ s;refine wab (wpAny_updateSeq hS rfl ?_);have k2:=Heap.get?_update_self (Obj.mapSeq (λ_=>(#[]:Array Value))) hS rfl;have oth:∀ b o,b≠S->s.heap.get? b=some o->(s.heap.update S (Obj.mapSeq (λ_=>(#[]:Array Value)))).get? b=some o :=
  λb o hb e=>(Heap.get?_update_other _ _ (Ne.symm hb)).trans e
 refine wab (wpAny_letGo ?_);exact zxE hh (IsRv.at hit λo e=>oth it o (Ne.symm hSI) e) (tup_at ht λo e=>oth t o (Ne.symm hSl) e) hne hpos S .none _ k2 hSl hn λh' tk acc' c' hk hS' hacc=>hR h' tk acc' c' (λb o hb hb2 e=>hk b o hb hb2 (oth b o hb e)) hS' hacc
theorem list_rv{Q:Value->Shared->Prop}{it t:Addr}{items:Array Value}(hh:A.handled=none)(hit:IsRv s.heap it t ((items.size:Int)-1))(ht:IsTup s.heap t items)(hne:t≠it)(hpos:0<items.size)(hn:items.size<=sizeLine)
  (hQ:∀ h' tk acc' c',(∀ b o,b≠it->s.heap.get? b=some o->h'.get? b=some o) ->
   h'.get? s.heap.objs.size=some { cls:=.type "list",dict:=none,data:=.seq acc' c',slots:=#[] }->ItemsOf (λi v=>items[items.size-1-i]? = some v) acc' items.size->Q (.ref s.heap.objs.size) { s with heap:=h',toks:=tk }) :
  wpAny (model prog w) A (call (.type "list") [.ref it]) Q E s:=by
 refine callType_codes (Q₁:=λobj s₁=>obj=.ref s.heap.objs.size/\s₁={ s with heap:=s.heap.push { cls:=.type "list",data:=.seq #[] } }) F.called_list (F.typeCall_list_1 _) F.entry_list_init
  (code_list_new _ ⟨rfl,rfl⟩) λobj s₁ h₁=>?_
 obtain ⟨rfl,rfl⟩:=h₁;have kS:(s.heap.push { cls:=.type "list",data:=.seq #[] }).get? s.heap.objs.size=some { cls:=.type "list",data:=.seq #[] }:=waj _ rfl;have lt1:t≠s.heap.objs.size:=by obtain ⟨o,e,_⟩:=ht;exact waM (wai e)
 have lt2:it≠s.heap.objs.size:=waM (wai hit);refine ⟨⟨_,kS,rfl⟩,F.args_list_init_2 _ _,zuZ (A:=A.in1) hh (IsRv.at hit λo e=>waa _ e) (tup_at ht λo e=>waa _ e) hne hpos _ kS (Ne.symm lt1) (Ne.symm lt2) hn λh' tk acc' c' hk hS' hacc=>?_⟩;exact ⟨rfl,hQ h' tk acc' c' (λb o hb e=>hk b o (waM (wai e)) hb (waa _ e)) hS' hacc⟩
end
end RV
def zr1(fa:De):DN:=λZ=>(fa Z).bind λa=>match a.1 with
 |.tup ds=>if ds.length=0 then .no else .ok (ds.reverse,a.2)
 |_=>.no
section
variable{X:Cx}{C:Cn}{a:Expr}{fa:De}{pos:Pos}
theorem zt9{p1 p2 pos2:Pos}(hc:X.calm=true)(hg:Gl X "list")(hm:X.mg "list"=none)(hg2:Gl X "reversed")(hm2:X.mg "reversed"=none)(ha:JE X C a fa)(hs:starEach [a] X.env=[(false,eval a X.env)]:=by rfl)
  (hs2:starEach [.Call (.Name "reversed" p2) [a] [] pos2] X.env=[(false,eval (.Call (.Name "reversed" p2) [a] [] pos2) X.env)]:=by rfl) :
  JN X C (.Call (.Name "list" p1) [.Call (.Name "reversed" p2) [a] [] pos2] [] pos) (zr1 fa):=by
 intro pS s Y H Q I ⟨G,w,Z,r,p⟩;refine PyProof.Rows.Call_ (zfd I hg hm PyProof.Rows.boot_list (PyProof.Rows.callWith_type1 ?_ hs2 rfl));rw[hs2];show wpAny _ _ (spliced ((false,eval (.Call (.Name "reversed" p2) [a] [] pos2) X.env)::backTo pos (starEach [] X.env))) _ _ s;refine Calls.spliced_cons (PyProof.Rows.Call_ (zfd I hg2 hm2 zpr (PyProof.Rows.callWith_type1 (thn (zau ha za7 hs pos2 pS s Y H (λvs H1=>∃(ad:Addr)(zs:List V),vs=[.ref ad]/\zs≠[]/\SqT X.K H1 ad zs/\∀ p,H1 p=none->Q (.ref p) (upd H1 p (.lst zs.reverse))) I ?_) λus s1 ⟨vs,H1,I1,r1,q1⟩=>?_) hs rfl)))
 ·refine ⟨G,w,Z,r,?_⟩;unfold zr1 at p;unfold dA dA0;cases e:fa Z with
  |ok x =>
   obtain ⟨d,Z1⟩:=x;rw[e] at p;intro vs G1 H1 w1 s1 r1 q;obtain ⟨v,t,rfl,q1,q2⟩:=q.cons_inv;rw[q2.nil_inv];have p1:=zdc.step (κ:=λG H w=>kN X.K C Y Q G H w) zfG s1 p;cases d with
   |tup ds =>
    obtain ⟨ad,zs,rfl,h1,h2⟩:=zcr q1;simp only[R.bind_ok] at p1;by_cases h0:ds.length=0
    ·rw[if_pos h0] at p1;exact waO p1
    rw[if_neg h0] at p1;refine ⟨ad,zs,rfl,λz=>h0 (by have:=h2.length;rw[z] at this;simpa using this),zbi r1.gh h1,λp hp=>?_⟩;have gr:zfS G1 H1 G1 (upd H1 p (.lst zs.reverse)):=.newH r1.gh hp;exact p1 p _ G1 _ w1 gr.step (r1.grow gr) hp za5 (r1.gh.free hp) (zf0 r1 hp) h2.reverse
   |_=>exact waO p1
  |er n=>rw[e] at p;exact p
  |no=>rw[e] at p;exact p
 ·obtain ⟨ad,zs,rfl,hz0,hq,q⟩:=q1;obtain ⟨u,rfl,ru⟩:=zgF r1;cases ru;obtain ⟨its,rv,pl,hz⟩:=I1.tuple hq;have hlen:=rv.length;have h62:(its.toArray.size:Int)<2 ^ 62:=by rw[List.size_toArray];unfold sizeLine at hz;omega
  refine RV.call_new pl h62 ?_;refine Calls.spliced_nil ?_;have ne:ad≠s1.heap.objs.size:=by obtain ⟨o,e,_⟩:=id pl;exact waM (wai e)
  have hit:RV.IsRv (s1.heap.push (RV.rvObj ad ((its.toArray.size:Int)-1))) s1.heap.objs.size ad ((its.toArray.size:Int)-1):=waj _ rfl;have hl2:IsTup (s1.heap.push (RV.rvObj ad ((its.toArray.size:Int)-1))) ad its.toArray:=RV.tup_at pl λo e=>waa _ e;have hp0:0<its.toArray.size:=by rw[List.size_toArray,<- hlen];exact List.length_pos_iff.mpr hz0
  refine RV.list_rv (s:={ s1 with heap:=s1.heap.push (RV.rvObj ad ((its.toArray.size:Int)-1)),toks:=s1.toks+1+1 }) (I.ok.hd hc) hit hl2 ne hp0 (by rw[List.size_toArray];omega) λh' tk acc c' hk hS hacc=>?_;have hsz:(s1.heap.push (RV.rvObj ad ((its.toArray.size:Int)-1))).objs.size=s1.heap.objs.size+1:=Heap.size_push ..;have hS':h'.get? (s1.heap.objs.size+1)=some { cls:=.type "list",dict:=none,data:=.seq acc c',slots:=#[] }:=by rw[<- hsz];exact hS
  show EP X pS Y Q (.ref (s1.heap.push (RV.rvObj ad ((its.toArray.size:Int)-1))).objs.size) _;rw[hsz];refine ⟨.ref (s1.heap.objs.size+1),_,I1.laid (h':=h') (t':=tk) (o:=.lst zs.reverse) (λb o e=>hk b o (waM (wai e)) (waa _ e)) (Nat.le_succ _) ⟨?_,acc.toList,c',zpj rv hacc,by simpa using hS'⟩,rfl,q _ (I1.hok.fresh (Nat.le_succ _))⟩;rw[List.length_reverse];exact hz
end
end PV
end
section
namespace PV
open PySem PySem.Spec L2 PyProof.Rows
def zju(i:Nat)(f:DT):DT:=λZ=>match Z[i]? with
 |some (some (.own l))=>match f ((zhp Z).set i (some (.val (.lst l)))) with
  |.ok (b,_)=>.ok (b,Z)
  |_=>.no
 |_=>.no
section
variable{X:Cx}{C:Cn}{a b c e:Expr}{f:DT}{fa fb:De}{pos pn:Pos}{j:Nat}{zby:List Expr}
theorem zr8(i:Nat)(h:JT X C e f):JT X C e (zju i f):=PT.weak h λY H Q ⟨G,w,Z,r,p⟩=>by
 unfold zju at p;split at p
 case h_2=>exact p.elim
 rename_i l ei;split at p
 case h_2=>exact p.elim
 rename_i bb Z' eF;obtain ⟨al,vs,e1,e2,e3,e4⟩:=zdq r ei;have hgl:G al=none:=r.wg al (by rw[e2];simp);have sg:zea G (upd G al (.lst vs)):=λb u e=>by rw[za1 (zay e hgl)];exact e
 have st:zbK G H w (upd G al (.lst vs)) H λ_=>none:=⟨sg,λb o e=>by
  by_cases hb:b=al
  ·subst hb;exact .inr (.inr (by rw[e2];simp))
  ·rw[za1 hb] at e;exact .inl (by rw[e];simp),λ_ _ e _=>e,λ_ e=>absurd rfl e,λ_ e=>e⟩
 refine ⟨upd G al (.lst vs),λ_=>none,(zhp Z).set i (some (.val (.lst l))),⟨λb u e=>?_,λb e=>absurd rfl e,λb e=>absurd rfl e,by rw[List.length_set];unfold zhp;rw[List.length_map];exact r.len,λk b e=>?_,r.en.trans st,r.pin⟩,?_⟩
 ·by_cases hb:b=al
  ·subst hb;rw[za5] at e;cases e;exact e3
  ·rw[za1 hb] at e;exact r.gh b u e
 ·by_cases hk:i=k
  ·subst hk;rw[List.getElem?_set] at e;simp only[if_true] at e;split at e
   ·cases e;refine ⟨_,e1,?_⟩;show Rep X.K _ (.lst l) (.ref al);unfold Rep;exact ⟨al,vs,rfl,za5,e4.same sg⟩
   ·cases e
  ·rw[List.getElem?_set_ne hk] at e;unfold zhp at e;rw[List.getElem?_map] at e;cases z:Z[k]? with
   |none=>rw[z] at e;cases e
   |some o =>
    rw[z] at e;simp only[Option.map_some,Option.some.injEq] at e;split at e
    ·rename_i d;cases e;obtain ⟨v,h1,h2⟩:=r.sl k _ z;exact ⟨v,h1,Rep.same sg h2⟩
    ·cases e
 ·rw[eF];intro G' H' w' s' _;have hh:zea H H':=λb o e=>s'.h b o e rfl;refine p G H' w ⟨.refl _,λb u e=>.inl (by rw[e];simp),λb o e _=>hh b o e,λ_ e=>.inl e,s'.k⟩ ⟨λb u e=>hh b u (r.gh b u e),r.wg,λb e z=>r.wh b e (s'.k b z),r.len,λk b e=>?_,r.en.trans ⟨.refl _,λb u e=>.inl (by rw[e];simp),λb o e _=>hh b o e,λ_ e=>.inl e,s'.k⟩,r.pin⟩;obtain ⟨v,h1,h2⟩:=r.sl k b e;exact ⟨v,h1,h2.grow (.refl _) λa o q1 q2=>⟨hh a o q2,q1⟩⟩
def zyU(t:DT)(fa fb:DN):DN:=λZ=>(t Z).bind λc=>if c.1=true then fa c.2 else fb c.2
theorem zxG{ga gb:DN}(hc:JT X C c f)(ha:JN X C a ga)(hb:JN X C b gb):JN X C (.IfExp c a b pos) (zyU f ga gb):=(zoV hc ha hb).weak λY H Q ⟨G,w,Z,r,p⟩=>by refine zws (κ:=λG H w=>kN X.K C Y Q G H w) zfG r p λb Z1 G1 H1 w1 r1 s1 p1=>?_;cases b <;> exact ⟨G1,w1,Z1,r1,p1⟩
abbrev zxk(fa:De):De:=λZ=>(fa Z).bind λd=>.ok (.bl (match d.1 with|.non=>true|_=>false),d.2)
def tOrT(K:W.Frag)(ta tb:TE):TE:=λY H Q=>ta Y H λx H1=>(x=.non/\tb Y H1 Q)\/(∃ i,x=.int i/\if i=0 then tb Y H1 Q else Q x H1)\/∃ ad xs,x=.ref ad/\SqT K H1 ad xs/\xs≠[]/\Q x H1
theorem zxa{ta tb:TE}(ha:PE X a ta)(hb:PE X (.BoolOp .Or (b::zby) pos) tb):PE X (.BoolOp .Or (a::b::zby) pos) (tOrT X.K ta tb):=by
 intro pS s Y H Q I h;refine BoolOp_or (thn (ha pS s Y H _ I h) λv s1 ⟨x,H1,I1,r1,q1⟩=>?_);rcases q1 with ⟨rfl,q1⟩|⟨i,rfl,q1⟩|⟨ad,xs,rfl,hx,hne,q1⟩
 ·cases r1;exact truthy_none (hb pS _ Y H1 Q I1 q1)
 ·obtain ⟨t,rfl⟩:=r1;refine PySem.P.truthy_int ?_;by_cases hi:i=0
  ·subst hi;exact hb pS _ Y H1 Q I1 (by simpa using q1)
  ·rw[if_neg hi] at q1;rw[show (i != 0)=true by simpa using hi];exact ⟨.int i,H1,I1,⟨t,rfl⟩,q1⟩
 ·cases r1;obtain ⟨its,rv,pl,hz⟩:=I1.tuple hx;have hlen:=rv.length;have hz':xs.length<=16777216:=by rw[<- zdK];exact hz
  refine truthy_tuple pl (by simp only[waf];lia) ?_;cases rv with
  |nil=>exact absurd rfl hne
  |cons h1 t=>exact ⟨.ref ad,H1,I1.kept (t':=s1.toks+1+1) λ_ _ q=>q,rfl,q1⟩
def zxO(fa fb:De):De:=λZ=>(fa Z).bind λa=>match a.1 with
 |.non=>fb a.2
 |.int i=>if i=0 then fb a.2 else .ok a
 |.tup (_::_)=>.ok a
 |_=>.no
theorem zwX(ha:JE X C a fa)(hb:JE X C (.BoolOp .Or (b::zby) pos) fb):JE X C (.BoolOp .Or (a::b::zby) pos) (zxO fa fb):=(zxa ha hb).weak λY H Q ⟨G,w,Z,r,p⟩=>by
 refine zeC (κ:=λG H w=>kE X.K C Y Q G H w) zcF r p λd Z1 v G1 H1 w1 r1 s1 q1 p1=>?_;dsimp only at p1;split at p1
 ·unfold Rep at q1;exact .inl ⟨q1,G1,w1,Z1,r1,p1⟩
 ·rename_i i;refine .inr (.inl ⟨i,zaF q1,?_⟩);split at p1
  ·rename_i h;rw[if_pos h];exact ⟨G1,w1,Z1,r1,p1⟩
  ·rename_i h;rw[if_neg h];exact p1 _ G1 H1 w1 (.refl _ _ _) r1 q1
 ·obtain ⟨ad,us,rfl,m1,m2⟩:=zfR q1;obtain ⟨u,t,rfl,_,_⟩:=m2.cons_inv;exact .inr (.inr ⟨ad,_,rfl,zbi r1.gh m1.sq,xws,p1 _ G1 H1 w1 (.refl _ _ _) r1 q1⟩)
 ·exact p1.elim
def zud(i:Nat):DS:=λZ=>match Z[i]? with
 |some (some (.own l))=>.ok (.rt (.lst l),Z.set i none)
 |_=>.no
theorem zwj(i:Nat){x:Str}{px:Pos}(hn:C.nw=true)(hw:C.w₀=λ_=>none)(hN:X.N[i]? = some x:=by rfl)(hv:Vis X.env.scope x:=by exact xwV)(hd:(x == ("__debug__" : Str))=false:=by decide)(hcd:(x == ("__classdict__" : Str))=false:=by decide) :
  JS X C (.Return (some (.Name x px)) pos) (zud i):=PS.weak (zrW (zd9 (i:=i) hN hv hd hcd)) λD Y H ⟨G,w,Z,r,p⟩=>by
 unfold zud at p;split at p
 case h_2=>exact p.elim
 rename_i l ei;obtain ⟨al,vs,e1,e2,e3,e4⟩:=zdq r ei;have st:zbK G H w G H λb=>if b=al then none else w b:=⟨.refl _,λb u e=>.inl (by rw[e];simp),λ_ _ e _=>e,λb e=>.inl λz=>e (by rw[z];split <;> rfl),λ_ e=>e⟩
 have wn:∀ b,(if b=al then none else w b)≠none->w b≠none:=λb e z=>e (by rw[z];split <;> rfl);refine ⟨_,e1,p _ Y G H _ st ⟨r.gh,λb e=>r.wg b (wn b e),λb e=>r.wh b (wn b e),by rw[List.length_set];exact r.len,λk b e=>?_,r.en.trans st,r.pin⟩ ?_⟩
 ·by_cases hk:i=k
  ·subst hk;rw[List.getElem?_set] at e;simp only[if_true] at e;split at e <;> cases e
  ·rw[List.getElem?_set_ne hk] at e;obtain ⟨v,h1,h2⟩:=r.sl k b e;exact ⟨v,h1,h2.grow (.refl _) λa o q1 q2=>⟨q2,by rw[if_neg (λz=>by subst z;rw[e2] at q1;cases q1;exact hk rfl)];exact q1⟩⟩
 ·rw[hn];refine ⟨l,al,vs,rfl,rfl,?_,e3,r.wg al (by rw[e2];simp),if_pos rfl,e4⟩;rcases r.en.w al (by rw[e2];simp) with z|z
  ·rw[hw] at z;exact absurd rfl z
  ·exact z
end
end PV
end
section
namespace Lw
open PySem PySem.Spec L2 PV
def top(i:Nat):Stmt:=PySem.Challenge.pw_standtogether_k12_parties_of_trees.main.body.getD i (.Pass ⟨0,0,0,0⟩)
abbrev Uf(K:W.Frag)(mg:Str->Option Value)(x:String)(i:Nat):Prop:=∃ f fd,Fun K (Str.ofString x) (Str.ofString x) (top i) f fd/\mg (Str.ofString x)=some (.ref f)
structure Tx(K:W.Frag)(mg:Str->Option Value):Prop where
 u_is_whole:Uf K mg "is_whole" 5
 u_check_guests:Uf K mg "check_guests" 6
 u_is_leaf:Uf K mg "is_leaf" 8
 u_row_as_written:Uf K mg "row_as_written" 9
 u_guests_in:Uf K mg "guests_in" 10
 u_least_guest:Uf K mg "least_guest" 11
 u_put_least:Uf K mg "put_least" 12
 u_least_form:Uf K mg "least_form" 13
 u_share:Uf K mg "share" 18
 u_with_share:Uf K mg "with_share" 19
 u_bunched:Uf K mg "bunched" 20
 u_leaning_order:Uf K mg "leaning_order" 21
 u_laid:Uf K mg "laid" 23
 u_leaned:Uf K mg "leaned" 22
 u_touching:Uf K mg "touching" 24
 u_tighten_any:Uf K mg "tighten_any" 25
 u_tighten_row:Uf K mg "tighten_row" 26
 u_tighten_within:Uf K mg "tighten_within" 27
 u_tighten:Uf K mg "tighten" 28
 u_tightened:Uf K mg "tightened" 29
 u_tightened_by:Uf K mg "tightened_by" 31
 u_neighbours:Uf K mg "neighbours" 32
 u_binding_parties:Uf K mg "binding_parties" 33
 u_parties_by:Uf K mg "parties_by" 34
 u_both:Uf K mg "both" 35
 u__law_cell_at:Uf K mg "_law_cell_at" 37
 u__law_state:Uf K mg "_law_state" 38
 u__law_take:Uf K mg "_law_take" 39
 u__law_mixed_row:Uf K mg "_law_mixed_row" 40
 u__law_tree:Uf K mg "_law_tree" 41
 u__law_party:Uf K mg "_law_party" 42
 u__law_perms:Uf K mg "_law_perms" 43
 u__law_sits:Uf K mg "_law_sits" 44
 u__law_kept:Uf K mg "_law_kept" 45
 u__law_leaves:Uf K mg "_law_leaves" 46
 u__law_of_tree:Uf K mg "_law_of_tree" 47
 u__law_rows_by:Uf K mg "_law_rows_by" 48
 u__law_whole:Uf K mg "_law_whole" 49
 u__law_is_node:Uf K mg "_law_is_node" 50
 u__law_is_tree:Uf K mg "_law_is_tree" 51
 u__law_least:Uf K mg "_law_least" 52
 u__law_party_due:Uf K mg "_law_party_due" 53
 u_law:Uf K mg "law" 54
 b_bool:mg (Str.ofString "bool")=none
 b_enumerate:mg (Str.ofString "enumerate")=none
 b_int:mg (Str.ofString "int")=none
 b_isinstance:mg (Str.ofString "isinstance")=none
 b_len:mg (Str.ofString "len")=none
 b_list:mg (Str.ofString "list")=none
 b_max:mg (Str.ofString "max")=none
 b_min:mg (Str.ofString "min")=none
 b_range:mg (Str.ofString "range")=none
 b_reversed:mg (Str.ofString "reversed")=none
 b_sorted:mg (Str.ofString "sorted")=none
 b_str:mg (Str.ofString "str")=none
 b_tuple:mg (Str.ofString "tuple")=none
 g_MOST_GUESTS:∃ t,mg (Str.ofString "MOST_GUESTS")=some (.int 7 t)
 g_NONE_OF_THEM:∃ t,mg (Str.ofString "NONE_OF_THEM")=some (.int 0 t)
 g_SOME_OF_THEM:∃ t,mg (Str.ofString "SOME_OF_THEM")=some (.int 1 t)
 g_ALL_OF_THEM:∃ t,mg (Str.ofString "ALL_OF_THEM")=some (.int 2 t)
section
variable{P:Program}{w:World}{K:W.Frag}{mg:Str->Option Value}{base:Heap}{xv:Nat->Value}{cls:Nat->Addr}
abbrev zpE:List Str:=["thing"]
abbrev zhv:List Str:=["thing"]
theorem zn7:za0 zpE zhv (zam (top 5)):=⟨rfl,rfl,rfl,xwD,rfl,xwD,xwD⟩
noncomputable def zjR:DS:=(zbb (zql (zhw "int" (zab 0)) (zyP (zhw "bool" (zab 0)))))
noncomputable def zer:FD:=zav false [false] 0 zjR
theorem zpW(T:Tx K mg):Dfn false P w K mg base CX0 xv 3 (Str.ofString "is_whole") [false] zer:=by obtain ⟨f,fd,U,hm⟩:=T.u_is_whole;refine ⟨f,fd,zhv,?_,hm,U.kp,U.binds (ps:=zhv) λ_ _ _ _ _ _ us hl=>match us,hl with|[_],_=>rfl,zar⟩;refine za9 (k:=2) false za8 U zn7 rfl rfl λX C hX hpp hxv hnw hr hx hpo=>?_;subst hxv;obtain ⟨cdv,A,outer,s,H,E,rfl⟩:=hX;exact (zah (za3 hnw (zmI (zdO zhu rfl T.b_isinstance zdT rfl T.b_int zjW (zaa 0)) (zjL (zqM (zdO zoZ rfl T.b_isinstance zdT rfl T.b_bool zsg (zaa 0)))))))
abbrev zj8:List Str:=["n"]
abbrev zef:List Str:=["n"]
theorem ziO:za0 zj8 zef (zam (top 6)):=⟨rfl,rfl,rfl,xwD,rfl,xwD,xwD⟩
noncomputable def zgb:DS:=(dIf (zgH (zcp (dTB (zai zer (dR (zab 0) dR0)))) (zgH (dTB (dOp gLt (zab 0) (dC (.int 1)))) (dTB (dOp gGt (zab 0) (dC (.int 7)))))) dNo dNx)
noncomputable def zbD:FD:=zav false [false] 0 zgb
theorem zed(T:Tx K mg):Dfn false P w K mg base CX0 xv 6 (Str.ofString "check_guests") [false] zbD:=by obtain ⟨f,fd,U,hm⟩:=T.u_check_guests;refine ⟨f,fd,zef,?_,hm,U.kp,U.binds (ps:=zef) λ_ _ _ _ _ _ us hl=>match us,hl with|[_],_=>rfl,zar⟩;refine za9 (k:=5) false za8 U ziO rfl rfl λX C hX hpp hxv hnw hr hx hpo=>?_;subst hxv;obtain ⟨cdv,A,outer,s,H,E,rfl⟩:=hX;exact (zah (zbx (JW.jt (zhM (zfi (zcg (zaD (zpW T) hr xwo za2 (zac (zaa 0) zan)))) (zhM (zqe (zaa 0) zal) (zh8 (zp1 (zaa 0) (zca rfl T.g_MOST_GUESTS.choose_spec)))))) (zah ztj) zaA))
abbrev zsj:List Str:=["tree"]
abbrev ziG:List Str:=["tree"]
theorem zpP:za0 zsj ziG (zam (top 8)):=⟨rfl,rfl,rfl,xwD,rfl,xwD,xwD⟩
noncomputable def zrZ:DS:=(zbb (zyP (zhw "tuple" (zab 0))))
noncomputable def zcc:FD:=zav false [false] 0 zrZ
theorem zis(T:Tx K mg):Dfn false P w K mg base CX0 xv 3 (Str.ofString "is_leaf") [false] zcc:=by obtain ⟨f,fd,U,hm⟩:=T.u_is_leaf;refine ⟨f,fd,ziG,?_,hm,U.kp,U.binds (ps:=ziG) λ_ _ _ _ _ _ us hl=>match us,hl with|[_],_=>rfl,zar⟩;refine za9 (k:=2) false za8 U zpP rfl rfl λX C hX hpp hxv hnw hr hx hpo=>?_;subst hxv;obtain ⟨cdv,A,outer,s,H,E,rfl⟩:=hX;exact (zah (za3 hnw (zqM (zdO zgQ rfl T.b_isinstance zdT rfl T.b_tuple zgV (zaa 0)))))
abbrev zhI:List Str:=["tree","guests","branch"]
abbrev zcn:List Str:=["tree"]
theorem zcC:za0 zhI zcn (zam (top 9)):=⟨rfl,rfl,rfl,xwD,rfl,xwD,xwD⟩
noncomputable def zff(F_self:FD):DS:=(zax (dIf (dTB (zai zcc (dR (zab 0) dR0))) (zbb (dFz (zc7 (dA (zab 0) dA0)))) dNx) (zax (zcY 1 (zc7 dA0)) (zax (zh1 (dIt (dOp gIx (zab 0) (dC (.int 1)))) (zbr 2) (dEx (zg7 1 (zai F_self (dR (zab 2) dR0))))) (zbb (zhc 1)))))
noncomputable def zb9:Nat->FD
 |0=>λ_=>.no
 |n+1=>zav false [false] 2 (zff (zb9 n))
theorem zfb(T:Tx K mg):∀ n,Dfn false P w K mg base CX0 xv (n+5) (Str.ofString "row_as_written") [false] (zb9 n)
 |0=>by obtain ⟨f,fd,U,hm⟩:=T.u_row_as_written;exact zcN rfl U hm (U.binds (ps:=zcn) λ_ _ _ _ _ _ us hl=>match us,hl with|[_],_=>rfl)
 |n+1=>by have DS:=zfb T n;obtain ⟨f,fd,U,hm⟩:=T.u_row_as_written;refine ⟨f,fd,zcn,?_,hm,U.kp,U.binds (ps:=zcn) λ_ _ _ _ _ _ us hl=>match us,hl with|[_],_=>rfl,zar⟩;refine zgi.mono (j:=(n+5)+1) ?_ xwo;refine za9 (k:=n+5) false za8 U zcC rfl rfl λX C hX hpp hxv hnw hr hx hpo=>?_;subst hxv;obtain ⟨cdv,A,outer,s,H,E,rfl⟩:=hX;exact (zaf (zbx (zcg (zaD (zis T) hr xwo za2 (zac (zaa 0) zan))) (zah (za3 hnw (zaz (zb3 (zau (zaa 0) za7))))) zaA) (zaf (zec (i:=1) zcC.nd rfl xwO (by rw[hpp];decide) (zb3 za7)) (zaf (zf8 hpo rfl (zbJ (zaV (zaa 0) zal)) (zaT (i:=2) zcC.nd rfl xwO (by rw[hpp];decide)) (zah (zcG (zkI 1 (zaD DS hr (wal _) za2 (zac (zaa 2) zan)))))) (zah (za3 hnw (zgY 1))))))
abbrev znE:List Str:=["tree"]
abbrev zgn:List Str:=["tree"]
theorem zmk:za0 znE zgn (zam (top 10)):=⟨rfl,rfl,rfl,xwD,rfl,xwD,xwD⟩
noncomputable def zni:DS:=(zbb (dFz (zem zbl (dA (zai (zb9 8) (dR (zab 0) dR0)) dA0))))
noncomputable def zbf:FD:=zav false [false] 0 zni
theorem zd6(T:Tx K mg):Dfn false P w K mg base CX0 xv 16 (Str.ofString "guests_in") [false] zbf:=by obtain ⟨f,fd,U,hm⟩:=T.u_guests_in;refine ⟨f,fd,zgn,?_,hm,U.kp,U.binds (ps:=zgn) λ_ _ _ _ _ _ us hl=>match us,hl with|[_],_=>rfl,zar⟩;refine za9 (k:=15) false za8 U zmk rfl rfl λX C hX hpp hxv hnw hr hx hpo=>?_;subst hxv;obtain ⟨cdv,A,outer,s,H,E,rfl⟩:=hX;exact (zah (za3 hnw (zaz (zeE rfl T.b_sorted (zaD (zfb T 8) hr xwo za2 (zac (zaa 0) zan))))))
abbrev zld:List Str:=["tree"]
abbrev zeK:List Str:=["tree"]
theorem zjE:za0 zld zeK (zam (top 11)):=⟨rfl,rfl,rfl,xwD,rfl,xwD,xwD⟩
noncomputable def zeB:DS:=(zbb (dOp gIx (zai zbf (dR (zab 0) dR0)) (dC (.int 0))))
noncomputable def zaH:FD:=zav false [false] 0 zeB
theorem zeS(T:Tx K mg):Dfn false P w K mg base CX0 xv 19 (Str.ofString "least_guest") [false] zaH:=by obtain ⟨f,fd,U,hm⟩:=T.u_least_guest;refine ⟨f,fd,zeK,?_,hm,U.kp,U.binds (ps:=zeK) λ_ _ _ _ _ _ us hl=>match us,hl with|[_],_=>rfl,zar⟩;refine za9 (k:=18) false za8 U zjE rfl rfl λX C hX hpp hxv hnw hr hx hpo=>?_;subst hxv;obtain ⟨cdv,A,outer,s,H,E,rfl⟩:=hX;exact (zah (za3 hnw (zaV (zaD (zd6 T) hr xwo za2 (zac (zaa 0) zan)) zal)))
abbrev znM:List Str:=["tree","branches"]
abbrev zeJ:List Str:=["tree"]
theorem zdM:za0 znM zeJ (zam (top 12)):=⟨rfl,rfl,rfl,xwD,rfl,xwD,xwD⟩
abbrev zfa:List Str:=["tree","branches","branch"]
theorem zjG:zfa.Nodup:=by decide +kernel
noncomputable def zgr(F_self:FD):DS:=(zax (dIf (dTB (zai zcc (dR (zab 0) dR0))) (zbb (zab 0)) dNx) (zax (zaX 1 (dFz (zbh (dIt (dOp gIx (zab 0) (dC (.int 1)))) (zbr 2) dTT (zai F_self (dR (zab 2) dR0)) 1))) (zax (dIf (dTB (dOp (gEq false) (dOp gIx (zab 0) (dC (.int 0))) (dC (.str (Str.ofString "any"))))) (zaX 1 (dFz (zmu zaH (zab 1)))) (dIf (dTB (dOp gGt (zai zaH (dR (dOp gIx (zab 1) (dC (.int 0))) dR0)) (zai zaH (dR (dOp gIx (zab 1) (znf (dC (.int 1)))) dR0)))) (zaX 1 (dFz (zgB (zab 1)))) dNx)) (zbb (zd1 (dA (dOp gIx (zab 0) (dC (.int 0))) (dA (dFn zbI (dA (zab 1) dA0)) dA0)))))))
noncomputable def zb8:Nat->FD
 |0=>λ_=>.no
 |n+1=>zav false [false] 1 (zgr (zb8 n))
theorem zg2(T:Tx K mg):∀ n,Dfn false P w K mg base CX0 xv (n+21) (Str.ofString "put_least") [false] (zb8 n)
 |0=>by obtain ⟨f,fd,U,hm⟩:=T.u_put_least;exact zcN rfl U hm (U.binds (ps:=zeJ) λ_ _ _ _ _ _ us hl=>match us,hl with|[_],_=>rfl)
 |n+1=>by have DS:=zg2 T n;obtain ⟨f,fd,U,hm⟩:=T.u_put_least;refine ⟨f,fd,zeJ,?_,hm,U.kp,U.binds (ps:=zeJ) λ_ _ _ _ _ _ us hl=>match us,hl with|[_],_=>rfl,zar⟩;refine zgi.mono (j:=(n+21)+1) ?_ xwo;refine za9 (k:=n+21) false za8 U zdM rfl rfl λX C hX hpp hxv hnw hr hx hpo=>?_;subst hxv;obtain ⟨cdv,A,outer,s,H,E,rfl⟩:=hX;exact (zaf (zbx (zcg (zaD (zis T) hr xwo za2 (zac (zaa 0) zan))) (zah (za3 hnw (zaa 0))) zaA) (zaf (ze2 (i:=1) zdM.nd rfl xwO (by rw[hpp];decide) (zbJ (zaV (zaa 0) zal)) rfl (N':=zfa) (m:=1) xwk rfl (zaP xwk) (zbu xwk) (zbv xwk) (λcl L s H fp G H' w Y=>⟨(zaT (i:=2) zjG rfl xwO (xwN rfl)),zfw,(zaD DS hr (wal _) za2 (zac (zaa 2) zan))⟩)) (zaf (zbx (zdF (ze7 hr) (zaV (zaa 0) zal) zdp) (zah (zaR (i:=1) zdM.nd rfl xwO (by rw[hpp];decide) (zaz (ztC (zeS T) hr xwo za2 rfl T.b_sorted (zaa 1))))) (zah (zbx (zp1 (zaD (zeS T) hr xwo za2 (zac (zaV (zaa 1) zal) zan)) (zaD (zeS T) hr xwo za2 (zac (zaV (zaa 1) (zm4 zal)) zan))) (zah (zaR (i:=1) zdM.nd rfl xwO (by rw[hpp];decide) (zaz (zrD rfl rfl T.b_list rfl T.b_reversed (zaa 1))))) zaA))) (zah (za3 hnw (zcz (zau (zaV (zaa 0) zal) (zau (zd8 T.b_tuple (zaa 1)) za7))))))))
abbrev zmX:List Str:=["n","tree"]
abbrev zfu:List Str:=["n","tree"]
theorem zkP:za0 zmX zfu (zam (top 13)):=⟨rfl,rfl,rfl,xwD,rfl,xwD,xwD⟩
noncomputable def zmz:DS:=(zax (dEx (zai zbD (dR (zab 0) dR0))) (zbb (zai (zb8 8) (dR (zab 1) dR0))))
noncomputable def zdN:FD:=zav false [false,false] 0 zmz
theorem zmv(T:Tx K mg):Dfn false P w K mg base CX0 xv 32 (Str.ofString "least_form") [false,false] zdN:=by obtain ⟨f,fd,U,hm⟩:=T.u_least_form;refine ⟨f,fd,zfu,?_,hm,U.kp,U.binds (ps:=zfu) λ_ _ _ _ _ _ us hl=>match us,hl with|[_,_],_=>rfl,zar⟩;refine za9 (k:=31) false za8 U zkP rfl rfl λX C hX hpp hxv hnw hr hx hpo=>?_;subst hxv;obtain ⟨cdv,A,outer,s,H,E,rfl⟩:=hX;exact (zaf (zcG (zaD (zed T) hr xwo za2 (zac (zaa 0) zan))) (zah (za3 hnw (zaD (zg2 T 8) hr xwo za2 (zac (zaa 1) zan)))))
end
section
variable{P:Program}{w:World}{K:W.Frag}{mg:Str->Option Value}{base:Heap}{xv:Nat->Value}{cls:Nat->Addr}
abbrev zwp:List Str:=["tree","party","guests","many"]
abbrev znr:List Str:=["tree","party"]
theorem zlf:za0 zwp znr (zam (top 18)):=⟨rfl,rfl,rfl,xwD,rfl,xwD,xwD⟩
abbrev zh5:List Str:=["tree","party","guests","many","guest"]
theorem zpR:zh5.Nodup:=by decide +kernel
noncomputable def zwA:DS:=(zax (zaX 2 (zai zbf (dR (zab 0) dR0))) (zax (zaX 3 (dFn zcb (dA (dFz (zbh (dIt (zab 2)) (zbr 4) (dTB (dOp (gIn false) (zab 4) (zab 1))) (zab 4) 1)) dA0))) (zax (dIf (dTB (dOp (gEq false) (zab 3) (dC (.int 0)))) (zbb (dC (.int 0))) dNx) (zbb (zkf (dTB (dOp (gEq false) (zab 3) (dFn zcb (dA (zab 2) dA0)))) (dC (.int 2)) (dC (.int 1)))))))
noncomputable def zbz:FD:=zav false [false,false] 2 zwA
theorem zgw(T:Tx K mg):Dfn false P w K mg base CX0 xv 19 (Str.ofString "share") [false,false] zbz:=by obtain ⟨f,fd,U,hm⟩:=T.u_share;refine ⟨f,fd,znr,?_,hm,U.kp,U.binds (ps:=znr) λ_ _ _ _ _ _ us hl=>match us,hl with|[_,_],_=>rfl,zar⟩;refine za9 (k:=18) false za8 U zlf rfl rfl λX C hX hpp hxv hnw hr hx hpo=>?_;subst hxv;obtain ⟨cdv,A,outer,s,H,E,rfl⟩:=hX;exact (zaf (zaR (i:=2) zlf.nd rfl xwO (by rw[hpp];decide) (zaD (zd6 T) hr xwo za2 (zac (zaa 0) zan))) (zaf (zaR (i:=3) zlf.nd rfl xwO (by rw[hpp];decide) (zee T.b_len (zaz (zbZ (zbJ (zaa 2)) rfl (N':=zh5) (m:=1) xwk rfl (zaP xwk) (zbu xwk) (zbv xwk) (λcl L s H fp G H' w Y=>⟨(zaT (i:=4) zpR rfl xwO (xwN rfl)),(zc4 (zvW (zr9 hr) (zaa 4) (zaa 1))),(zaa 4)⟩))))) (zaf (zbx (zdF (ze7 hr) (zaa 3) zal) (zah (za3 hnw (zca rfl T.g_NONE_OF_THEM.choose_spec))) zaA) (zah (za3 hnw (ziy (zdF (ze7 hr) (zaa 3) (zee T.b_len (zaa 2))) (zca rfl T.g_ALL_OF_THEM.choose_spec) (zca rfl T.g_SOME_OF_THEM.choose_spec)))))))
abbrev zmw:List Str:=["branches","party","wanted"]
abbrev zfv:List Str:=["branches","party","wanted"]
theorem zl5:za0 zmw zfv (zam (top 19)):=⟨rfl,rfl,rfl,xwD,rfl,xwD,xwD⟩
abbrev zev:List Str:=["branches","party","wanted","branch"]
theorem zjk:zev.Nodup:=by decide +kernel
noncomputable def zmD:DS:=(zbb (dFz (zbh (dIt (zab 0)) (zbr 3) (dTB (dOp (gEq false) (zai zbz (dR (zab 3) (dR (zab 1) dR0))) (zab 2))) (zab 3) 1)))
noncomputable def za6:FD:=zav false [false,false,false] 0 zmD
theorem zb2(T:Tx K mg):Dfn false P w K mg base CX0 xv 22 (Str.ofString "with_share") [false,false,false] za6:=by obtain ⟨f,fd,U,hm⟩:=T.u_with_share;refine ⟨f,fd,zfv,?_,hm,U.kp,U.binds (ps:=zfv) λ_ _ _ _ _ _ us hl=>match us,hl with|[_,_,_],_=>rfl,zar⟩;refine za9 (k:=21) false za8 U zl5 rfl rfl λX C hX hpp hxv hnw hr hx hpo=>?_;subst hxv;obtain ⟨cdv,A,outer,s,H,E,rfl⟩:=hX;exact (zah (za3 hnw (zaz (zbZ (zbJ (zaa 0)) rfl (N':=zev) (m:=1) xwk rfl (zaP xwk) (zbu xwk) (zbv xwk) (λcl L s H fp G H' w Y=>⟨(zaT (i:=3) zjk rfl xwO (xwN rfl)),(zc4 (zdF (ze7 hr) (zaD (zgw T) hr xwo za2 (zac (zaa 3) (zac (zaa 1) zan))) (zaa 2))),(zaa 3)⟩)))))
abbrev zsA:List Str:=["branches"]
abbrev zio:List Str:=["branches"]
theorem zp9:za0 zsA zio (zam (top 20)):=⟨rfl,rfl,rfl,xwD,rfl,xwD,xwD⟩
noncomputable def zrH:DS:=(zax (dIf (dTB (dOp gLt (dFn zcb (dA (zab 0) dA0)) (dC (.int 2)))) (zeb (zem zjB (dA (zab 0) dA0))) dNx) (zeb (zc7 (dA (zd1 (dA (dC (.str (Str.ofString "any"))) (dA (dFn zbI (dA (zab 0) dA0)) dA0))) dA0))))
noncomputable def zbM:FD:=zav true [false] 0 zrH
theorem zhb(T:Tx K mg):Dfn true P w K mg base CX0 xv 3 (Str.ofString "bunched") [false] zbM:=by obtain ⟨f,fd,U,hm⟩:=T.u_bunched;refine ⟨f,fd,zio,?_,hm,U.kp,U.binds (ps:=zio) λ_ _ _ _ _ _ us hl=>match us,hl with|[_],_=>rfl,zar⟩;refine za9 (k:=2) true za8 U zp9 rfl rfl λX C hX hpp hxv hnw hr hx hpo=>?_;subst hxv;obtain ⟨cdv,A,outer,s,H,E,rfl⟩:=hX;exact (zaf (zbx (zqe (zee T.b_len (zaa 0)) zal) (zah (zdl hnw (zrU T.b_list (zaa 0)))) zaA) (zah (zdl hnw (zb3 (zau (zcz (zau zdp (zau (zd8 T.b_tuple (zaa 0)) za7))) za7)))))
abbrev zim:List Str:=["tree","party","branches","torn","ahead"]
abbrev zd4:List Str:=["tree","party"]
theorem zck:za0 zim zd4 (zam (top 21)):=⟨rfl,rfl,rfl,xwD,rfl,xwD,xwD⟩
noncomputable def zfF:DS:=(zax (zaX 2 (dOp gIx (zab 0) (dC (.int 1)))) (zax (dIf (dTB (dOp (gEq false) (dOp gIx (zab 0) (dC (.int 0))) (dC (.str (Str.ofString "any"))))) (zax (zaX 3 (zai za6 (dR (zab 2) (dR (zab 1) (dR (dC (.int 1)) dR0))))) (zax (zaX 4 (dFz (zaZ zbM (dR (zai za6 (dR (zab 2) (dR (zab 1) (dR (dC (.int 0)) dR0)))) dR0)))) (zeb (zjt (dFz (zjt (zab 4) (zab 3))) (dFz (zaZ zbM (dR (zai za6 (dR (zab 2) (dR (zab 1) (dR (dC (.int 2)) dR0)))) dR0))))))) dNx) (zax (dIf (dTB (dOp gGt (zai zbz (dR (dOp gIx (zab 2) (dC (.int 0))) (dR (zab 1) dR0))) (zai zbz (dR (dOp gIx (zab 2) (znf (dC (.int 1)))) (dR (zab 1) dR0))))) (zeb (zr1 (zab 2))) dNx) (zeb (zem zjB (dA (zab 2) dA0))))))
noncomputable def zd2:FD:=zav true [false,false] 3 zfF
theorem ziv(T:Tx K mg):Dfn true P w K mg base CX0 xv 25 (Str.ofString "leaning_order") [false,false] zd2:=by obtain ⟨f,fd,U,hm⟩:=T.u_leaning_order;refine ⟨f,fd,zd4,?_,hm,U.kp,U.binds (ps:=zd4) λ_ _ _ _ _ _ us hl=>match us,hl with|[_,_],_=>rfl,zar⟩;refine za9 (k:=24) true za8 U zck rfl rfl λX C hX hpp hxv hnw hr hx hpo=>?_;subst hxv;obtain ⟨cdv,A,outer,s,H,E,rfl⟩:=hX;exact (zaf (zaR (i:=2) zck.nd rfl xwO (by rw[hpp];decide) (zaV (zaa 0) zal)) (zaf (zbx (zdF (ze7 hr) (zaV (zaa 0) zal) zdp) (zaf (zaR (i:=3) zck.nd rfl xwO (by rw[hpp];decide) (zaD (zb2 T) hr xwo za2 (zac (zaa 2) (zac (zaa 1) (zac (zca rfl T.g_SOME_OF_THEM.choose_spec) zan))))) (zaf (zaR (i:=4) zck.nd rfl xwO (by rw[hpp];decide) (zaz (zgx (zhb T) hr xwo za2 (zac (zaD (zb2 T) hr xwo za2 (zac (zaa 2) (zac (zaa 1) (zac (zca rfl T.g_NONE_OF_THEM.choose_spec) zan)))) zan)))) (zah (zdl hnw (zjj (zaz (zjj (zaa 4) (zaa 3))) (zaz (zgx (zhb T) hr xwo za2 (zac (zaD (zb2 T) hr xwo za2 (zac (zaa 2) (zac (zaa 1) (zac (zca rfl T.g_ALL_OF_THEM.choose_spec) zan)))) zan)))))))) zaA) (zaf (zbx (zp1 (zaD (zgw T) hr xwo za2 (zac (zaV (zaa 2) zal) (zac (zaa 1) zan))) (zaD (zgw T) hr xwo za2 (zac (zaV (zaa 2) (zm4 zal)) (zac (zaa 1) zan)))) (zah (zdl hnw (zt9 rfl rfl T.b_list rfl T.b_reversed (zaa 2)))) zaA) (zah (zdl hnw (zrU T.b_list (zaa 2)))))))
abbrev zyA:List Str:=["order","party","pieces","branch","more"]
abbrev zrp:List Str:=["order","party"]
theorem ziQ:za0 zyA zrp (zam (top 23)):=⟨rfl,rfl,rfl,xwD,rfl,xwD,xwD⟩
noncomputable def zun(F_m:FD):DS:=(zax (zcY 2 (zc7 dA0)) (zax (zh1 (dIt (zab 0)) (zbr 3) (zax (zaX 4 (zai F_m (dR (zab 3) (dR (zab 1) dR0)))) (zax (dIf (dTB (dOp gGt (zsY 2 (zab 1) (dC (.int 2)) za6) (dC (.int 0)))) (zaX 4 (dFz (zgB (zab 4)))) dNx) (dEx (zg7 2 (zab 4)))))) (zbb (zhc 2))))
noncomputable def zjY(F_m:FD):FD:=zav false [false,false] 3 (zun F_m)
theorem zux(T:Tx K mg){F_m:FD}{km:Nat}(hkm:22<=km)(DM:Dfn false P w K mg base CX0 xv km (Str.ofString "leaned") [false,false] F_m):Dfn false P w K mg base CX0 xv (km+3) (Str.ofString "laid") [false,false] (zjY F_m):=by obtain ⟨f,fd,U,hm⟩:=T.u_laid;refine ⟨f,fd,zrp,?_,hm,U.kp,U.binds (ps:=zrp) λ_ _ _ _ _ _ us hl=>match us,hl with|[_,_],_=>rfl,zar⟩;refine za9 (k:=km+2) false za8 U ziQ rfl rfl λX C hX hpp hxv hnw hr hx hpo=>?_;subst hxv;obtain ⟨cdv,A,outer,s,H,E,rfl⟩:=hX;exact (zaf (zec (i:=2) ziQ.nd rfl xwO (by rw[hpp];decide) (zb3 za7)) (zaf (zf8 hpo rfl (zbJ (zaa 0)) (zaT (i:=3) ziQ.nd rfl xwO (by rw[hpp];decide)) (zaf (zaR (i:=4) ziQ.nd rfl xwO (by rw[hpp];decide) (zaD DM hr xwo za2 (zac (zaa 3) (zac (zaa 1) zan)))) (zaf (zbx (zp1 (zwo 2 (zb2 T) hr xwo za2 T.b_len (zaa 1) (zca rfl T.g_ALL_OF_THEM.choose_spec)) zal) (zah (zaR (i:=4) ziQ.nd rfl xwO (by rw[hpp];decide) (zaz (zrD rfl rfl T.b_list rfl T.b_reversed (zaa 4))))) zaA) (zah (zcG (zkI 2 (zaa 4))))))) (zah (za3 hnw (zgY 2)))))
abbrev ztf:List Str:=["tree","party"]
abbrev zhT:List Str:=["tree","party"]
theorem zqB:za0 ztf zhT (zam (top 22)):=⟨rfl,rfl,rfl,xwD,rfl,xwD,xwD⟩
noncomputable def zk1(F_self:FD):DS:=(zax (dIf (dTB (dOp (gEq true) (zai zbz (dR (zab 0) (dR (zab 1) dR0))) (dC (.int 1)))) (zbb (dFz (zc7 (dA (zab 0) dA0)))) dNx) (zbb (zai (zjY F_self) (dR (dFz (zaZ zd2 (dR (zab 0) (dR (zab 1) dR0)))) (dR (zab 1) dR0)))))
noncomputable def zdP:Nat->FD
 |0=>λ_=>.no
 |n+1=>zav false [false,false] 0 (zk1 (zdP n))
theorem zoA(T:Tx K mg):∀ n,Dfn false P w K mg base CX0 xv (4 * n+27) (Str.ofString "leaned") [false,false] (zdP n)
 |0=>by obtain ⟨f,fd,U,hm⟩:=T.u_leaned;exact zcN rfl U hm (U.binds (ps:=zhT) λ_ _ _ _ _ _ us hl=>match us,hl with|[_,_],_=>rfl)
 |n+1=>by have DS:=zoA T n;obtain ⟨f,fd,U,hm⟩:=T.u_leaned;refine ⟨f,fd,zhT,?_,hm,U.kp,U.binds (ps:=zhT) λ_ _ _ _ _ _ us hl=>match us,hl with|[_,_],_=>rfl,zar⟩;refine zgi.mono (j:=(4 * n+30)+1) ?_ xwo;refine za9 (k:=4 * n+30) false za8 U zqB rfl rfl λX C hX hpp hxv hnw hr hx hpo=>?_;subst hxv;obtain ⟨cdv,A,outer,s,H,E,rfl⟩:=hX;exact (zaf (zbx (zih (ze7 hr) (zaD (zgw T) hr xwo za2 (zac (zaa 0) (zac (zaa 1) zan))) (zca rfl T.g_SOME_OF_THEM.choose_spec)) (zah (za3 hnw (zaz (zb3 (zau (zaa 0) za7))))) zaA) (zah (za3 hnw (zaD (zux T xwo DS) hr xwo za2 (zac (zaz (zgx (ziv T) hr xwo za2 (zac (zaa 0) (zac (zaa 1) zan)))) (zac (zaa 1) zan))))))
abbrev zqa:List Str:=["order","party","pieces","places"]
abbrev zhe:List Str:=["order","party"]
theorem zgd:za0 zqa zhe (zam (top 24)):=⟨rfl,rfl,rfl,xwD,rfl,xwD,xwD⟩
abbrev zfp:List Str:=["order","party","pieces","places","place","piece"]
theorem zl3:zfp.Nodup:=by decide +kernel
noncomputable def zkm:DS:=(zax (zaX 2 (zai (zjY (zdP 8)) (dR (zab 0) (dR (zab 1) dR0)))) (zax (zaX 3 (dFz (zbh (zpC (zab 2)) (zlw 4 5) (dTB (dOp (gEq false) (zai zbz (dR (zab 5) (dR (zab 1) dR0))) (dC (.int 2)))) (zab 4) 2))) (zbb (zkf (dTB (dOp (gEq false) (dOp zi1 (dOp gIx (zab 3) (znf (dC (.int 1)))) (dOp gIx (zab 3) (dC (.int 0)))) (dOp zi1 (dFn zcb (dA (zab 3) dA0)) (dC (.int 1))))) (zab 2) (dC .non)))))
noncomputable def zd0:FD:=zav false [false,false] 2 zkm
theorem zkk(T:Tx K mg):Dfn false P w K mg base CX0 xv 65 (Str.ofString "touching") [false,false] zd0:=by obtain ⟨f,fd,U,hm⟩:=T.u_touching;refine ⟨f,fd,zhe,?_,hm,U.kp,U.binds (ps:=zhe) λ_ _ _ _ _ _ us hl=>match us,hl with|[_,_],_=>rfl,zar⟩;refine za9 (k:=64) false za8 U zgd rfl rfl λX C hX hpp hxv hnw hr hx hpo=>?_;subst hxv;obtain ⟨cdv,A,outer,s,H,E,rfl⟩:=hX;exact (zaf (zaR (i:=2) zgd.nd rfl xwO (by rw[hpp];decide) (zaD (zux T xwo (zoA T 8)) hr xwo za2 (zac (zaa 0) (zac (zaa 1) zan)))) (zaf (ze2 (i:=3) zgd.nd rfl xwO (by rw[hpp];decide) (zv8 rfl T.b_enumerate (zaa 2)) rfl (N':=zfp) (m:=2) xwk rfl (zaP xwk) (zbu xwk) (zbv xwk) (λcl L s H fp G H' w Y=>⟨(zqz (i:=4) (j:=5) rfl zl3 rfl rfl xwO xwO (xwN rfl) (xwN rfl)),(zc4 (zdF (ze7 hr) (zaD (zgw T) hr xwo za2 (zac (zaa 5) (zac (zaa 1) zan))) (zca rfl T.g_ALL_OF_THEM.choose_spec))),(zaa 4)⟩)) (zah (za3 hnw (ziy (zdF (ze7 hr) (ziK (zaV (zaa 3) (zm4 zal)) (zaV (zaa 3) zal)) (ziK (zee T.b_len (zaa 3)) zal)) (zaa 2) zi2)))))
abbrev zkN:List Str:=["branches","party","torn","core","pieces","inner"]
abbrev zeP:List Str:=["branches","party"]
theorem zce:za0 zkN zeP (zam (top 25)):=⟨rfl,rfl,rfl,xwD,rfl,xwD,xwD⟩
noncomputable def zgM:DS:=(zax (zaX 2 (zai za6 (dR (zab 0) (dR (zab 1) (dR (dC (.int 1)) dR0))))) (zax (zaX 3 (dFz (zaZ zbM (dR (zai za6 (dR (zab 0) (dR (zab 1) (dR (dC (.int 2)) dR0)))) dR0)))) (zax (zaX 4 (zai zd0 (dR (dFz (zjt (dFz (zjt (dFz (zlS (zab 2) dO0 (dO1 (dC (.int 1))))) (zab 3))) (dFz (zlS (zab 2) (dO1 (dC (.int 1))) dO0)))) (dR (zab 1) dR0)))) (zax (dIf (zl6 true (zab 4)) (zbb (dC .non)) dNx) (zax (zaX 5 (zkf (dTB (dOp (gEq false) (dFn zcb (dA (zab 4) dA0)) (dC (.int 1)))) (dOp gIx (zab 4) (dC (.int 0))) (zd1 (dA (dC (.str (Str.ofString "row"))) (dA (dFn zbI (dA (zab 4) dA0)) dA0))))) (zbb (dOp gIx (dFz (zaZ zbM (dR (dFz (zjt (zai za6 (dR (zab 0) (dR (zab 1) (dR (dC (.int 0)) dR0)))) (dFz (zc7 (dA (zab 5) dA0))))) dR0))) (dC (.int 0)))))))))
noncomputable def zdr:FD:=zav false [false,false] 4 zgM
theorem zk0(T:Tx K mg):Dfn false P w K mg base CX0 xv 68 (Str.ofString "tighten_any") [false,false] zdr:=by obtain ⟨f,fd,U,hm⟩:=T.u_tighten_any;refine ⟨f,fd,zeP,?_,hm,U.kp,U.binds (ps:=zeP) λ_ _ _ _ _ _ us hl=>match us,hl with|[_,_],_=>rfl,zar⟩;refine za9 (k:=67) false za8 U zce rfl rfl λX C hX hpp hxv hnw hr hx hpo=>?_;subst hxv;obtain ⟨cdv,A,outer,s,H,E,rfl⟩:=hX;exact (zaf (zaR (i:=2) zce.nd rfl xwO (by rw[hpp];decide) (zaD (zb2 T) hr xwo za2 (zac (zaa 0) (zac (zaa 1) (zac (zca rfl T.g_SOME_OF_THEM.choose_spec) zan))))) (zaf (zaR (i:=3) zce.nd rfl xwO (by rw[hpp];decide) (zaz (zgx (zhb T) hr xwo za2 (zac (zaD (zb2 T) hr xwo za2 (zac (zaa 0) (zac (zaa 1) (zac (zca rfl T.g_ALL_OF_THEM.choose_spec) zan)))) zan)))) (zaf (zaR (i:=4) zce.nd rfl xwO (by rw[hpp];decide) (zaD (zkk T) hr xwo za2 (zac (zaz (zjj (zaz (zjj (zaz (zm8 (zaa 2) zgh (zeM zal))) (zaa 3))) (zaz (zm8 (zaa 2) (zeM zal) zgh)))) (zac (zaa 1) zan)))) (zaf (zbx (zoE (zaa 4)) (zah (za3 hnw zi2)) zaA) (zaf (zaR (i:=5) zce.nd rfl xwO (by rw[hpp];decide) (ziy (zdF (ze7 hr) (zee T.b_len (zaa 4)) zal) (zaV (zaa 4) zal) (zcz (zau zdp (zau (zd8 T.b_tuple (zaa 4)) za7))))) (zah (za3 hnw (zaV (zaz (zgx (zhb T) hr xwo za2 (zac (zaz (zjj (zaD (zb2 T) hr xwo za2 (zac (zaa 0) (zac (zaa 1) (zac (zca rfl T.g_NONE_OF_THEM.choose_spec) zan)))) (zaz (zb3 (zau (zaa 5) za7))))) zan))) zal))))))))
abbrev zl2:List Str:=["branches","party","pieces"]
abbrev zeO:List Str:=["branches","party"]
theorem zfV:za0 zl2 zeO (zam (top 26)):=⟨rfl,rfl,rfl,xwD,rfl,xwD,xwD⟩
noncomputable def zk4:DS:=(zax (zaX 2 (zai zd0 (dR (zab 0) (dR (zab 1) dR0)))) (zbb (zkf (zl6 true (zab 2)) (dC .non) (zd1 (dA (dC (.str (Str.ofString "row"))) (dA (dFn zbI (dA (zab 2) dA0)) dA0))))))
noncomputable def zdy:FD:=zav false [false,false] 1 zk4
theorem zkK(T:Tx K mg):Dfn false P w K mg base CX0 xv 68 (Str.ofString "tighten_row") [false,false] zdy:=by obtain ⟨f,fd,U,hm⟩:=T.u_tighten_row;refine ⟨f,fd,zeO,?_,hm,U.kp,U.binds (ps:=zeO) λ_ _ _ _ _ _ us hl=>match us,hl with|[_,_],_=>rfl,zar⟩;refine za9 (k:=67) false za8 U zfV rfl rfl λX C hX hpp hxv hnw hr hx hpo=>?_;subst hxv;obtain ⟨cdv,A,outer,s,H,E,rfl⟩:=hX;exact (zaf (zaR (i:=2) zfV.nd rfl xwO (by rw[hpp];decide) (zaD (zkk T) hr xwo za2 (zac (zaa 0) (zac (zaa 1) zan)))) (zah (za3 hnw (ziy (zoE (zaa 2)) zi2 (zcz (zau zdp (zau (zd8 T.b_tuple (zaa 2)) za7)))))))
abbrev zhK:List Str:=["tree","party","branches","branch"]
abbrev zdo:List Str:=["tree","party"]
theorem zcJ:za0 zhK zdo (zam (top 27)):=⟨rfl,rfl,rfl,xwD,rfl,xwD,xwD⟩
noncomputable def zdi(F_m:FD):DS:=(zax (zcY 2 (zc7 dA0)) (zax (zh1 (dIt (dOp gIx (zab 0) (dC (.int 1)))) (zbr 3) (dIf (dTB (dOp (gEq false) (zai zbz (dR (zab 3) (dR (zab 1) dR0))) (dC (.int 0)))) (dEx (zew 2 (zab 3))) (dEx (zew 2 (zai F_m (dR (zab 3) (dR (zab 1) dR0))))))) (zbb (zkf (dTB (zqj false 2 (dC .non))) (dC .non) (zd1 (dA (dOp gIx (zab 0) (dC (.int 0))) (dA (dFn zbI (dA (zhc 2) dA0)) dA0)))))))
noncomputable def zco(F_m:FD):FD:=zav false [false,false] 2 (zdi F_m)
theorem zhP(T:Tx K mg){F_m:FD}{km:Nat}(hkm:19<=km)(DM:Dfn false P w K mg base CX0 xv km (Str.ofString "tighten") [false,false] F_m):Dfn false P w K mg base CX0 xv (km+3) (Str.ofString "tighten_within") [false,false] (zco F_m):=by obtain ⟨f,fd,U,hm⟩:=T.u_tighten_within;refine ⟨f,fd,zdo,?_,hm,U.kp,U.binds (ps:=zdo) λ_ _ _ _ _ _ us hl=>match us,hl with|[_,_],_=>rfl,zar⟩;refine za9 (k:=km+2) false za8 U zcJ rfl rfl λX C hX hpp hxv hnw hr hx hpo=>?_;subst hxv;obtain ⟨cdv,A,outer,s,H,E,rfl⟩:=hX;exact (zaf (zec (i:=2) zcJ.nd rfl xwO (by rw[hpp];decide) (zb3 za7)) (zaf (zf8 hpo rfl (zbJ (zaV (zaa 0) zal)) (zaT (i:=3) zcJ.nd rfl xwO (by rw[hpp];decide)) (zah (zbx (zdF (ze7 hr) (zaD (zgw T) hr xwo za2 (zac (zaa 3) (zac (zaa 1) zan))) (zca rfl T.g_NONE_OF_THEM.choose_spec)) (zah (zcG (zja 2 (zaa 3)))) (zah (zcG (zja 2 (zaD DM hr xwo za2 (zac (zaa 3) (zac (zaa 1) zan))))))))) (zah (za3 hnw (ziy (zuU 2 (zr9 hr) zi2) zi2 (zcz (zau (zaV (zaa 0) zal) (zau (zd8 T.b_tuple (zgY 2)) za7))))))))
abbrev zq7:List Str:=["tree","party","strange"]
abbrev zgG:List Str:=["tree","party"]
theorem zkc:za0 zq7 zgG (zam (top 28)):=⟨rfl,rfl,rfl,xwD,rfl,xwD,xwD⟩
noncomputable def ziP(F_self:FD):DS:=(zax (dIf (dTB (dOp (gEq false) (zai zbz (dR (zab 0) (dR (zab 1) dR0))) (dC (.int 2)))) (zbb (zab 0)) dNx) (zax (zaX 2 (zai za6 (dR (dOp gIx (zab 0) (dC (.int 1))) (dR (zab 1) (dR (dC (.int 0)) dR0))))) (zax (dIf (dTB (dOp (gEq false) (dFn zcb (dA (zab 2) dA0)) (dOp zi1 (dFn zcb (dA (dOp gIx (zab 0) (dC (.int 1))) dA0)) (dC (.int 1))))) (zbb (zai (zco F_self) (dR (zab 0) (dR (zab 1) dR0)))) dNx) (zax (dIf (dTB (dOp (gEq false) (dOp gIx (zab 0) (dC (.int 0))) (dC (.str (Str.ofString "any"))))) (zbb (zai zdr (dR (dOp gIx (zab 0) (dC (.int 1))) (dR (zab 1) dR0)))) dNx) (zbb (zai zdy (dR (dOp gIx (zab 0) (dC (.int 1))) (dR (zab 1) dR0))))))))
noncomputable def zfB:Nat->FD
 |0=>λ_=>.no
 |n+1=>zav false [false,false] 1 (ziP (zfB n))
theorem zm9(T:Tx K mg):∀ n,Dfn false P w K mg base CX0 xv (4 * n+70) (Str.ofString "tighten") [false,false] (zfB n)
 |0=>by obtain ⟨f,fd,U,hm⟩:=T.u_tighten;exact zcN rfl U hm (U.binds (ps:=zgG) λ_ _ _ _ _ _ us hl=>match us,hl with|[_,_],_=>rfl)
 |n+1=>by have DS:=zm9 T n;obtain ⟨f,fd,U,hm⟩:=T.u_tighten;refine ⟨f,fd,zgG,?_,hm,U.kp,U.binds (ps:=zgG) λ_ _ _ _ _ _ us hl=>match us,hl with|[_,_],_=>rfl,zar⟩;refine zgi.mono (j:=(4 * n+73)+1) ?_ xwo;refine za9 (k:=4 * n+73) false za8 U zkc rfl rfl λX C hX hpp hxv hnw hr hx hpo=>?_;subst hxv;obtain ⟨cdv,A,outer,s,H,E,rfl⟩:=hX;exact (zaf (zbx (zdF (ze7 hr) (zaD (zgw T) hr xwo za2 (zac (zaa 0) (zac (zaa 1) zan))) (zca rfl T.g_ALL_OF_THEM.choose_spec)) (zah (za3 hnw (zaa 0))) zaA) (zaf (zaR (i:=2) zkc.nd rfl xwO (by rw[hpp];decide) (zaD (zb2 T) hr xwo za2 (zac (zaV (zaa 0) zal) (zac (zaa 1) (zac (zca rfl T.g_NONE_OF_THEM.choose_spec) zan))))) (zaf (zbx (zdF (ze7 hr) (zee T.b_len (zaa 2)) (ziK (zee T.b_len (zaV (zaa 0) zal)) zal)) (zah (za3 hnw (zaD (zhP T xwo DS) hr xwo za2 (zac (zaa 0) (zac (zaa 1) zan))))) zaA) (zaf (zbx (zdF (ze7 hr) (zaV (zaa 0) zal) zdp) (zah (za3 hnw (zaD (zk0 T) hr xwo za2 (zac (zaV (zaa 0) zal) (zac (zaa 1) zan))))) zaA) (zah (za3 hnw (zaD (zkK T) hr xwo za2 (zac (zaV (zaa 0) zal) (zac (zaa 1) zan)))))))))
abbrev zol:List Str:=["n","tree","party","tight"]
abbrev zg0:List Str:=["n","tree","party"]
theorem zh9:za0 zol zg0 (zam (top 29)):=⟨rfl,rfl,rfl,xwD,rfl,xwD,xwD⟩
noncomputable def znW:DS:=(zax (dEx (zai zbD (dR (zab 0) dR0))) (zax (zaX 3 (zai (zfB 8) (dR (zab 1) (dR (zab 2) dR0)))) (zbb (zkf (zl6 true (zab 3)) (dC .non) (zai (zb8 8) (dR (zab 3) dR0))))))
noncomputable def zb5:FD:=zav false [false,false,false] 1 znW
theorem zjq(T:Tx K mg):Dfn false P w K mg base CX0 xv 105 (Str.ofString "tightened") [false,false,false] zb5:=by obtain ⟨f,fd,U,hm⟩:=T.u_tightened;refine ⟨f,fd,zg0,?_,hm,U.kp,U.binds (ps:=zg0) λ_ _ _ _ _ _ us hl=>match us,hl with|[_,_,_],_=>rfl,zar⟩;refine za9 (k:=104) false za8 U zh9 rfl rfl λX C hX hpp hxv hnw hr hx hpo=>?_;subst hxv;obtain ⟨cdv,A,outer,s,H,E,rfl⟩:=hX;exact (zaf (zcG (zaD (zed T) hr xwo za2 (zac (zaa 0) zan))) (zaf (zaR (i:=3) zh9.nd rfl xwO (by rw[hpp];decide) (zaD (zm9 T 8) hr xwo za2 (zac (zaa 1) (zac (zaa 2) zan)))) (zah (za3 hnw (ziy (zoE (zaa 3)) zi2 (zaD (zg2 T 8) hr xwo za2 (zac (zaa 3) zan)))))))
abbrev zj6:List Str:=["n","tree","parties","tight","party"]
abbrev zej:List Str:=["n","tree","parties"]
theorem zc6:za0 zj6 zej (zam (top 31)):=⟨rfl,rfl,rfl,xwD,rfl,xwD,xwD⟩
noncomputable def zj2:DS:=(zax (zaX 3 (zai zdN (dR (zab 0) (dR (zab 1) dR0)))) (zax (zh1 (dIt (zab 2)) (zbr 4) (zax (zaX 3 (zai zb5 (dR (zab 0) (dR (zab 3) (dR (zab 4) dR0))))) (dIf (zl6 true (zab 3)) (zbb (dC .non)) dNx))) (zbb (zab 3))))
noncomputable def zel:FD:=zav false [false,false,false] 2 zj2
theorem zjx(T:Tx K mg):Dfn false P w K mg base CX0 xv 108 (Str.ofString "tightened_by") [false,false,false] zel:=by obtain ⟨f,fd,U,hm⟩:=T.u_tightened_by;refine ⟨f,fd,zej,?_,hm,U.kp,U.binds (ps:=zej) λ_ _ _ _ _ _ us hl=>match us,hl with|[_,_,_],_=>rfl,zar⟩;refine za9 (k:=107) false za8 U zc6 rfl rfl λX C hX hpp hxv hnw hr hx hpo=>?_;subst hxv;obtain ⟨cdv,A,outer,s,H,E,rfl⟩:=hX;exact (zaf (zaR (i:=3) zc6.nd rfl xwO (by rw[hpp];decide) (zaD (zmv T) hr xwo za2 (zac (zaa 0) (zac (zaa 1) zan)))) (zaf (zf8 hpo rfl (zbJ (zaa 2)) (zaT (i:=4) zc6.nd rfl xwO (by rw[hpp];decide)) (zaf (zaR (i:=3) zc6.nd rfl xwO (by rw[hpp];decide) (zaD (zjq T) hr xwo za2 (zac (zaa 0) (zac (zaa 3) (zac (zaa 4) zan))))) (zah (zbx (zoE (zaa 3)) (zah (za3 hnw zi2)) zaA)))) (zah (za3 hnw (zaa 3)))))
abbrev zlJ:List Str:=["branches"]
abbrev zf2:List Str:=["branches"]
theorem zll:za0 zlJ zf2 (zam (top 32)):=⟨rfl,rfl,rfl,xwD,rfl,xwD,xwD⟩
abbrev ze1:List Str:=["branches","k"]
theorem zje:ze1.Nodup:=by decide +kernel
noncomputable def zmB:DS:=(zeb (zbh (zdw (dOp zi1 (dFn zcb (dA (zab 0) dA0)) (dC (.int 1)))) (zbr 1) dTT (dFn zbI (dA (dFz (zem zbl (dA (dFz (zjt (zai zbf (dR (dOp gIx (zab 0) (zab 1)) dR0)) (zai zbf (dR (dOp gIx (zab 0) (dOp zeL (zab 1) (dC (.int 1)))) dR0)))) dA0))) dA0)) 1))
noncomputable def zcW:FD:=zav true [false] 0 zmB
theorem zlQ(T:Tx K mg):Dfn true P w K mg base CX0 xv 19 (Str.ofString "neighbours") [false] zcW:=by obtain ⟨f,fd,U,hm⟩:=T.u_neighbours;refine ⟨f,fd,zf2,?_,hm,U.kp,U.binds (ps:=zf2) λ_ _ _ _ _ _ us hl=>match us,hl with|[_],_=>rfl,zar⟩;refine za9 (k:=18) true za8 U zll rfl rfl λX C hX hpp hxv hnw hr hx hpo=>?_;subst hxv;obtain ⟨cdv,A,outer,s,H,E,rfl⟩:=hX;exact (zah (zdl hnw (zbZ (zdE rfl T.b_range (ziK (zee T.b_len (zaa 0)) zal)) rfl (N':=ze1) (m:=1) xwk rfl (zaP xwk) (zbu xwk) (zbv xwk) (λcl L s H fp G H' w Y=>⟨(zaT (i:=1) zje rfl xwO (xwN rfl)),zfw,(zd8 T.b_tuple (zaz (zeE rfl T.b_sorted (zaz (zjj (zaD (zd6 T) hr xwo za2 (zac (zaV (zaa 0) (zaa 1)) zan)) (zaD (zd6 T) hr xwo za2 (zac (zaV (zaa 0) (zf5 (zaa 1) zal)) zan)))))))⟩))))
abbrev zhj:List Str:=["tree","parties","branch"]
abbrev zbT:List Str:=["tree"]
theorem zc2:za0 zhj zbT (zam (top 33)):=⟨rfl,rfl,rfl,xwD,rfl,xwD,xwD⟩
noncomputable def zet(F_self:FD):DS:=(zax (dIf (dTB (zai zcc (dR (zab 0) dR0))) (zeb (zc7 dA0)) dNx) (zax (zcY 1 (zyU (dTB (dOp (gEq false) (dOp gIx (zab 0) (dC (.int 0))) (dC (.str (Str.ofString "row"))))) (zaZ zcW (dR (dOp gIx (zab 0) (dC (.int 1))) dR0)) (zc7 (dA (dFn zbI (dA (zai zbf (dR (zab 0) dR0)) dA0)) dA0)))) (zax (zh1 (dIt (dOp gIx (zab 0) (dC (.int 1)))) (zbr 2) (dEx (zg7 1 (dFz (zaZ F_self (dR (zab 2) dR0)))))) (zud 1))))
noncomputable def zbR:Nat->FD
 |0=>λ_=>.no
 |n+1=>zav true [false] 2 (zet (zbR n))
theorem zen(T:Tx K mg):∀ n,Dfn true P w K mg base CX0 xv (n+21) (Str.ofString "binding_parties") [false] (zbR n)
 |0=>by obtain ⟨f,fd,U,hm⟩:=T.u_binding_parties;exact zcN rfl U hm (U.binds (ps:=zbT) λ_ _ _ _ _ _ us hl=>match us,hl with|[_],_=>rfl)
 |n+1=>by have DS:=zen T n;obtain ⟨f,fd,U,hm⟩:=T.u_binding_parties;refine ⟨f,fd,zbT,?_,hm,U.kp,U.binds (ps:=zbT) λ_ _ _ _ _ _ us hl=>match us,hl with|[_],_=>rfl,zar⟩;refine zgi.mono (j:=(n+21)+1) ?_ xwo;refine zsM (k:=n+21) true za8 U zc2 rfl rfl xws λX C hw0 hX hpp hxv hnw hr hx hpo=>?_;subst hxv;obtain ⟨cdv,A,outer,s,H,E,rfl⟩:=hX;exact (zaf (zbx (zcg (zaD (zis T) hr xwo za2 (zac (zaa 0) zan))) (zah (zdl hnw (zb3 za7))) zaA) (zaf (zec (i:=1) zc2.nd rfl xwO (by rw[hpp];decide) (zxG (zdF (ze7 hr) (zaV (zaa 0) zal) zdp) (zgx (zlQ T) hr xwo za2 (zac (zaV (zaa 0) zal) zan)) (zb3 (zau (zd8 T.b_tuple (zaD (zd6 T) hr xwo za2 (zac (zaa 0) zan))) za7)))) (zaf (zf8 hpo rfl (zbJ (zaV (zaa 0) zal)) (zaT (i:=2) zc2.nd rfl xwO (by rw[hpp];decide)) (zah (zcG (zkI 1 (zaz (zgx DS hr (wal _) za2 (zac (zaa 2) zan))))))) (zah (zwj 1 hnw hw0)))))
abbrev zlZ:List Str:=["n","tree"]
abbrev zfx:List Str:=["n","tree"]
theorem zkz:za0 zlZ zfx (zam (top 34)):=⟨rfl,rfl,rfl,xwD,rfl,xwD,xwD⟩
noncomputable def zmC:DS:=(zax (dEx (zai zbD (dR (zab 0) dR0))) (zeb (zaZ (zbR 8) (dR (zab 1) dR0))))
noncomputable def zcv:FD:=zav true [false,false] 0 zmC
theorem zhD(T:Tx K mg):Dfn true P w K mg base CX0 xv 32 (Str.ofString "parties_by") [false,false] zcv:=by obtain ⟨f,fd,U,hm⟩:=T.u_parties_by;refine ⟨f,fd,zfx,?_,hm,U.kp,U.binds (ps:=zfx) λ_ _ _ _ _ _ us hl=>match us,hl with|[_,_],_=>rfl,zar⟩;refine za9 (k:=31) true za8 U zkz rfl rfl λX C hX hpp hxv hnw hr hx hpo=>?_;subst hxv;obtain ⟨cdv,A,outer,s,H,E,rfl⟩:=hX;exact (zaf (zcG (zaD (zed T) hr xwo za2 (zac (zaa 0) zan))) (zah (zdl hnw (zgx (zen T 8) hr xwo za2 (zac (zaa 1) zan)))))
abbrev zyi:List Str:=["n","one","other"]
abbrev zsi:List Str:=["n","one","other"]
theorem zv0:za0 zyi zsi (zam (top 35)):=⟨rfl,rfl,rfl,xwD,rfl,xwD,xwD⟩
noncomputable def zxw:DS:=(zbb (zai zel (dR (zab 0) (dR (zab 1) (dR (dFz (zaZ zcv (dR (zab 0) (dR (zab 2) dR0)))) dR0)))))
noncomputable def zi9:FD:=zav false [false,false,false] 0 zxw
theorem zuL(T:Tx K mg):Dfn false P w K mg base CX0 xv 111 (Str.ofString "both") [false,false,false] zi9:=by obtain ⟨f,fd,U,hm⟩:=T.u_both;refine ⟨f,fd,zsi,?_,hm,U.kp,U.binds (ps:=zsi) λ_ _ _ _ _ _ us hl=>match us,hl with|[_,_,_],_=>rfl,zar⟩;refine za9 (k:=110) false za8 U zv0 rfl rfl λX C hX hpp hxv hnw hr hx hpo=>?_;subst hxv;obtain ⟨cdv,A,outer,s,H,E,rfl⟩:=hX;exact (zah (za3 hnw (zaD (zjx T) hr xwo za2 (zac (zaa 0) (zac (zaa 1) (zac (zaz (zgx (zhD T) hr xwo za2 (zac (zaa 0) (zac (zaa 2) zan)))) zan))))))
end
section
variable{P:Program}{w:World}{K:W.Frag}{mg:Str->Option Value}{base:Heap}{xv:Nat->Value}{cls:Nat->Addr}
abbrev zj3:List Str:=["script","k"]
abbrev zdZ:List Str:=["script","k"]
theorem zi4:za0 zj3 zdZ (zam (top 37)):=⟨rfl,rfl,rfl,xwD,rfl,xwD,xwD⟩
noncomputable def zcj:DS:=(zax (dIf (dTB (dOp gLt (zab 1) (dFn zcb (dA (zab 0) dA0)))) (zbb (dOp gIx (zab 0) (zab 1))) dNx) (zbb (dC (.int 0))))
noncomputable def zcO:FD:=zav false [false,false] 0 zcj
theorem zjI(T:Tx K mg):Dfn false P w K mg base CX0 xv 3 (Str.ofString "_law_cell_at") [false,false] zcO:=by obtain ⟨f,fd,U,hm⟩:=T.u__law_cell_at;refine ⟨f,fd,zdZ,?_,hm,U.kp,U.binds (ps:=zdZ) λ_ _ _ _ _ _ us hl=>match us,hl with|[_,_],_=>rfl,zar⟩;refine za9 (k:=2) false za8 U zi4 rfl rfl λX C hX hpp hxv hnw hr hx hpo=>?_;subst hxv;obtain ⟨cdv,A,outer,s,H,E,rfl⟩:=hX;exact (zaf (zbx (zqe (zaa 1) (zee T.b_len (zaa 0))) (zah (za3 hnw (zaV (zaa 0) (zaa 1)))) zaA) (zah (za3 hnw zal)))
abbrev zma:List Str:=["script","k","cell"]
abbrev zfy:List Str:=["script","k"]
theorem zgJ:za0 zma zfy (zam (top 38)):=⟨rfl,rfl,rfl,xwD,rfl,xwD,xwD⟩
noncomputable def zcT:DS:=(zax (zaX 2 (zai zcO (dR (zab 0) (dR (zab 1) dR0)))) (zax (dIf (dTB (dOp gGe (zab 2) (dOp ztX (dC (.int 10)) (dC (.int 18))))) (zeb (zc7 (dA (dOp zi1 (zab 2) (dOp ztX (dC (.int 10)) (dC (.int 18)))) (dA (dC (.bl true)) dA0)))) dNx) (zeb (zc7 (dA (dOp zqf (zab 2) (dC (.int 2147483647))) (dA (dC (.bl false)) dA0))))))
noncomputable def zcZ:FD:=zav true [false,false] 1 zcT
theorem zlF(T:Tx K mg):Dfn true P w K mg base CX0 xv 6 (Str.ofString "_law_state") [false,false] zcZ:=by obtain ⟨f,fd,U,hm⟩:=T.u__law_state;refine ⟨f,fd,zfy,?_,hm,U.kp,U.binds (ps:=zfy) λ_ _ _ _ _ _ us hl=>match us,hl with|[_,_],_=>rfl,zar⟩;refine za9 (k:=5) true za8 U zgJ rfl rfl λX C hX hpp hxv hnw hr hx hpo=>?_;subst hxv;obtain ⟨cdv,A,outer,s,H,E,rfl⟩:=hX;exact (zaf (zaR (i:=2) zgJ.nd rfl xwO (by rw[hpp];decide) (zaD (zjI T) hr xwo za2 (zac (zaa 0) (zac (zaa 1) zan)))) (zaf (zbx (zzG (zaa 2) (zu8 zal zal)) (zah (zdl hnw (zb3 (zau (ziK (zaa 2) (zu8 zal zal)) (zau zfs za7))))) zaA) (zah (zdl hnw (zb3 (zau (zjX (zaa 2) zal) (zau zfs za7)))))))
abbrev znj:List Str:=["state","many","found","stirred"]
abbrev zgj:List Str:=["state","many"]
theorem zdR:za0 znj zgj (zam (top 39)):=⟨rfl,rfl,rfl,xwD,rfl,xwD,xwD⟩
noncomputable def zg4:DS:=(zax (dIf (dTB (zsC 0 (dC (.int 1)))) (zax (zaX 2 (dOp zqf (zsC 0 (dC (.int 0))) (zab 1))) (zax (zsx 0 (dOp zte (zsC 0 (dC (.int 0))) (zab 1)) (dC (.int 0))) (zbb (zab 2)))) dNx) (zax (zsx 0 (dOp zqf (dOp zeL (dOp zrb (zsC 0 (dC (.int 0))) (dC (.int 48271))) (dC (.int 29))) (dC (.int 2147483647))) (dC (.int 0))) (zax (zaX 3 (dOp zqf (dOp zeL (dOp zeL (dOp zrb (zsC 0 (dC (.int 0))) (zsC 0 (dC (.int 0)))) (dOp zrb (dC (.int 39373)) (zsC 0 (dC (.int 0))))) (dC (.int 7))) (dC (.int 2147483629)))) (zax (zaX 3 (dOp zqf (dOp zeL (dOp zrb (zab 3) (zab 3)) (dOp zrb (dC (.int 16807)) (zab 3))) (dC (.int 2147483587)))) (zbb (dOp zqf (dOp zte (zab 3) (dC (.int 8))) (zab 1)))))))
noncomputable def zap:FD:=zav false [true,false] 2 zg4
theorem zbP(T:Tx K mg):Dfn false P w K mg base CX0 xv 3 (Str.ofString "_law_take") [true,false] zap:=by obtain ⟨f,fd,U,hm⟩:=T.u__law_take;refine ⟨f,fd,zgj,?_,hm,U.kp,U.binds (ps:=zgj) λ_ _ _ _ _ _ us hl=>match us,hl with|[_,_],_=>rfl,zar⟩;refine za9 (k:=2) false za8 U zdR rfl rfl λX C hX hpp hxv hnw hr hx hpo=>?_;subst hxv;obtain ⟨cdv,A,outer,s,H,E,rfl⟩:=hX;exact (zaf (zbx (zcg (ziM 0 (hb:=zal))) (zaf (zaR (i:=2) zdR.nd rfl xwO (by rw[hpp];decide) (zjX (ziM 0 (hb:=zal)) (zaa 1))) (zaf (zsf 0 (zup (ziM 0 (hb:=zal)) (zaa 1)) zal) (zah (za3 hnw (zaa 2))))) zaA) (zaf (zsf 0 (zjX (zf5 (zlV (ziM 0 (hb:=zal)) zal) zal) zal) zal) (zaf (zaR (i:=3) zdR.nd rfl xwO (by rw[hpp];decide) (zjX (zf5 (zf5 (zlV (ziM 0 (hb:=zal)) (ziM 0 (hb:=zal))) (zlV zal (ziM 0 (hb:=zal)))) zal) zal)) (zaf (zaR (i:=3) zdR.nd rfl xwO (by rw[hpp];decide) (zjX (zf5 (zlV (zaa 3) (zaa 3)) (zlV zal (zaa 3))) zal)) (zah (za3 hnw (zjX (zup (zaa 3) zal) (zaa 1))))))))
abbrev zhO:List Str:=["state","things","left","found"]
abbrev zdk:List Str:=["state","things"]
theorem zcD:za0 zhO zdk (zam (top 40)):=⟨rfl,rfl,rfl,xwD,rfl,xwD,xwD⟩
noncomputable def zdn:DS:=(zax (zcY 2 (zem zjB (dA (zab 1) dA0))) (zax (zcY 3 (zc7 dA0)) (zax (zbG (dTB (zwP true 2 (dFz (zc7 dA0)))) (dEx (zew 3 (zjS 2 (zai zap (dRO 0 (dR (zpN 2) dR0)))))) 10) (zbb (zhc 3)))))
noncomputable def zcl:FD:=zav false [true,false] 2 zdn
theorem zhF(T:Tx K mg):Dfn false P w K mg base CX0 xv 6 (Str.ofString "_law_mixed_row") [true,false] zcl:=by obtain ⟨f,fd,U,hm⟩:=T.u__law_mixed_row;refine ⟨f,fd,zdk,?_,hm,U.kp,U.binds (ps:=zdk) λ_ _ _ _ _ _ us hl=>match us,hl with|[_,_],_=>rfl,zar⟩;refine za9 (k:=5) false za8 U zcD rfl rfl λX C hX hpp hxv hnw hr hx hpo=>?_;subst hxv;obtain ⟨cdv,A,outer,s,H,E,rfl⟩:=hX;exact (zaf (zec (i:=2) zcD.nd rfl xwO (by rw[hpp];decide) (zrU T.b_list (zaa 1))) (zaf (zec (i:=3) zcD.nd rfl xwO (by rw[hpp];decide) (zb3 za7)) (zaf (zoO 10 hpo (zwS 2 (ze7 hr) (zaz (zb3 za7))) (zah (zcG (zja 3 (zsN 2 (zaD (zbP T) hr xwo za2 (ze3 0 (zac (zvg 2 rfl T.b_len) zan)))))))) (zah (za3 hnw (zgY 3))))))
abbrev znB:List Str:=["state","guests","row","many","pieces","guest","branches"]
abbrev zeR:List Str:=["state","guests"]
theorem zc1:za0 znB zeR (zam (top 41)):=⟨rfl,rfl,rfl,xwD,rfl,xwD,xwD⟩
abbrev zfh:List Str:=["state","guests","row","many","pieces","%5","branches","guest"]
theorem zj4:zfh.Nodup:=by decide +kernel
abbrev zfj:List Str:=["state","guests","row","many","pieces","guest","branches","piece"]
theorem zj1:zfj.Nodup:=by decide +kernel
noncomputable def zcE(F_self:FD):DS:=(zax (dIf (dTB (dOp (gEq false) (dFn zcb (dA (zab 1) dA0)) (dC (.int 1)))) (zbb (dOp gIx (zab 1) (dC (.int 0)))) dNx) (zax (zaX 2 (zai zcl (dRO 0 (dR (zab 1) dR0)))) (zax (zaX 3 (dOp zeL (dC (.int 2)) (zai zap (dRO 0 (dR (dOp zi1 (dFn zcb (dA (zab 2) dA0)) (dC (.int 1))) dR0))))) (zax (zo5 4 (dIt (dFz (zlS (zab 2) dO0 (dO1 (zab 3))))) (zbr 7) dTT (zc7 (dA (zab 7) dA0)) 1) (zax (zh1 (dIt (dFz (zlS (zab 2) (dO1 (zab 3)) dO0))) (zbr 5) (dEx (zlA 4 5 (zai zap (dRO 0 (dR (zab 3) dR0)))))) (zax (zaX 6 (dFn zbI (dA (dFz (zbh (dIt (zhc 4)) (zbr 7) dTT (zai F_self (dRO 0 (dR (zab 7) dR0))) 1)) dA0))) (zax (dIf (zk5 (dTB (dOp gGt (zab 3) (dC (.int 2)))) (dTB (dOp (gEq false) (zai zap (dRO 0 (dR (dC (.int 2)) dR0))) (dC (.int 1))))) (zbb (zd1 (dA (dC (.str (Str.ofString "row"))) (dA (zab 6) dA0)))) dNx) (zbb (zd1 (dA (dC (.str (Str.ofString "any"))) (dA (zab 6) dA0)))))))))))
noncomputable def zbe:Nat->FD
 |0=>λ_=>.no
 |n+1=>zav false [true,false] 5 (zcE (zbe n))
theorem zgg(T:Tx K mg):∀ n,Dfn false P w K mg base CX0 xv (n+8) (Str.ofString "_law_tree") [true,false] (zbe n)
 |0=>by obtain ⟨f,fd,U,hm⟩:=T.u__law_tree;exact zcN rfl U hm (U.binds (ps:=zeR) λ_ _ _ _ _ _ us hl=>match us,hl with|[_,_],_=>rfl)
 |n+1=>by have DS:=zgg T n;obtain ⟨f,fd,U,hm⟩:=T.u__law_tree;refine ⟨f,fd,zeR,?_,hm,U.kp,U.binds (ps:=zeR) λ_ _ _ _ _ _ us hl=>match us,hl with|[_,_],_=>rfl,zar⟩;refine zgi.mono (j:=(n+8)+1) ?_ xwo;refine za9 (k:=n+8) false za8 U zc1 rfl rfl λX C hX hpp hxv hnw hr hx hpo=>?_;subst hxv;obtain ⟨cdv,A,outer,s,H,E,rfl⟩:=hX;exact (zaf (zbx (zdF (ze7 hr) (zee T.b_len (zaa 1)) zal) (zah (za3 hnw (zaV (zaa 1) zal))) zaA) (zaf (zaR (i:=2) zc1.nd rfl xwO (by rw[hpp];decide) (zaD (zhF T) hr xwo za2 (ze3 0 (zac (zaa 1) zan)))) (zaf (zaR (i:=3) zc1.nd rfl xwO (by rw[hpp];decide) (zf5 zal (zaD (zbP T) hr xwo za2 (ze3 0 (zac (ziK (zee T.b_len (zaa 2)) zal) zan))))) (zaf (znv (i:=4) zc1.nd rfl xwO (by rw[hpp];decide) (zbJ (zaz (zm8 (zaa 2) zgh (zeM (zaa 3))))) rfl (N':=zfh) (m:=1) xwk rfl (zaP xwk) (zbu xwk) (zbv xwk) (λcl L s H fp G H' w Y=>⟨(zaT (i:=7) zj4 rfl xwO (xwN rfl)),zfw,(zb3 (zau (zaa 7) za7))⟩)) (zaf (zf8 hpo rfl (zbJ (zaz (zm8 (zaa 2) (zeM (zaa 3)) zgh))) (zaT (i:=5) zc1.nd rfl xwO (by rw[hpp];decide)) (zah (zcG (zw3 4 5 (zaD (zbP T) hr xwo za2 (ze3 0 (zac (zaa 3) zan))))))) (zaf (zaR (i:=6) zc1.nd rfl xwO (by rw[hpp];decide) (zd8 T.b_tuple (zaz (zbZ (zbJ (zgY 4)) rfl (N':=zfj) (m:=1) xwk rfl (zaP xwk) (zbu xwk) (zbv xwk) (λcl L s H fp G H' w Y=>⟨(zaT (i:=7) zj1 rfl xwO (xwN rfl)),zfw,(zaD DS hr (wal _) za2 (ze3 0 (zac (zaa 7) zan)))⟩))))) (zaf (zbx (JW.jt (zuo (zp1 (zaa 3) zal) (zr3 (zdF (ze7 hr) (zaD (zbP T) hr xwo za2 (ze3 0 (zac zal zan))) zal)))) (zah (za3 hnw (zcz (zau zdp (zau (zaa 6) za7))))) zaA) (zah (za3 hnw (zcz (zau zdp (zau (zaa 6) za7))))))))))))
abbrev zmZ:List Str:=["state","n","found"]
abbrev zf9:List Str:=["state","n"]
theorem zg9:za0 zmZ zf9 (zam (top 42)):=⟨rfl,rfl,rfl,xwD,rfl,xwD,xwD⟩
abbrev ze6:List Str:=["state","n","found","guest"]
theorem zjo:ze6.Nodup:=by decide +kernel
noncomputable def zde:DS:=(zax (zaX 2 (dFn zbI (dA (dFz (zbh (zdw (zab 1)) (zbr 3) (dTB (dOp (gEq false) (zai zap (dRO 0 (dR (dC (.int 2)) dR0))) (dC (.int 1)))) (zab 3) 1)) dA0))) (zax (dIf (dTB (dOp (gEq false) (zab 2) (zd1 dA0))) (zbb (zd1 (dA (zai zap (dRO 0 (dR (zab 1) dR0))) dA0))) dNx) (zbb (zab 2))))
noncomputable def zcx:FD:=zav false [true,false] 1 zde
theorem zmR(T:Tx K mg):Dfn false P w K mg base CX0 xv 6 (Str.ofString "_law_party") [true,false] zcx:=by obtain ⟨f,fd,U,hm⟩:=T.u__law_party;refine ⟨f,fd,zf9,?_,hm,U.kp,U.binds (ps:=zf9) λ_ _ _ _ _ _ us hl=>match us,hl with|[_,_],_=>rfl,zar⟩;refine za9 (k:=5) false za8 U zg9 rfl rfl λX C hX hpp hxv hnw hr hx hpo=>?_;subst hxv;obtain ⟨cdv,A,outer,s,H,E,rfl⟩:=hX;exact (zaf (zaR (i:=2) zg9.nd rfl xwO (by rw[hpp];decide) (zd8 T.b_tuple (zaz (zbZ (zdE rfl T.b_range (zaa 1)) rfl (N':=ze6) (m:=1) xwk rfl (zaP xwk) (zbu xwk) (zbv xwk) (λcl L s H fp G H' w Y=>⟨(zaT (i:=3) zjo rfl xwO (xwN rfl)),(zc4 (zdF (ze7 hr) (zaD (zbP T) hr xwo za2 (ze3 0 (zac zal zan))) zal)),(zaa 3)⟩))))) (zaf (zbx (zdF (ze7 hr) (zaa 2) (zcz za7)) (zah (za3 hnw (zcz (zau (zaD (zbP T) hr xwo za2 (ze3 0 (zac (zaa 1) zan))) za7)))) zaA) (zah (za3 hnw (zaa 2)))))
abbrev zmc:List Str:=["n","found","turn","longer","row"]
abbrev zfC:List Str:=["n"]
theorem zbS:za0 zmc zfC (zam (top 43)):=⟨rfl,rfl,rfl,xwD,rfl,xwD,xwD⟩
abbrev zes:List Str:=["n","found","turn","longer","row","guest"]
theorem zix:zes.Nodup:=by decide +kernel
noncomputable def zfA:DS:=(zax (zaX 1 (dFz (zc7 (dA (zd1 dA0) dA0)))) (zax (zh1 (zdw (zab 0)) (zbr 2) (zax (zcY 3 (zc7 dA0)) (zax (zh1 (dIt (zab 1)) (zbr 4) (dEx (zg7 3 (dFz (zbh (zdw (zab 0)) (zbr 5) (dTB (dOp (gIn true) (zab 5) (zab 4))) (dOp zlk (zab 4) (zd1 (dA (zab 5) dA0))) 1))))) (zaX 1 (zhc 3))))) (zbb (zab 1))))
noncomputable def zdd:FD:=zav false [false] 4 zfA
theorem zmn(T:Tx K mg):Dfn false P w K mg base CX0 xv 3 (Str.ofString "_law_perms") [false] zdd:=by obtain ⟨f,fd,U,hm⟩:=T.u__law_perms;refine ⟨f,fd,zfC,?_,hm,U.kp,U.binds (ps:=zfC) λ_ _ _ _ _ _ us hl=>match us,hl with|[_],_=>rfl,zar⟩;refine za9 (k:=2) false za8 U zbS rfl rfl λX C hX hpp hxv hnw hr hx hpo=>?_;subst hxv;obtain ⟨cdv,A,outer,s,H,E,rfl⟩:=hX;exact (zaf (zaR (i:=1) zbS.nd rfl xwO (by rw[hpp];decide) (zaz (zb3 (zau (zcz za7) za7)))) (zaf (zf8 hpo rfl (zdE rfl T.b_range (zaa 0)) (zaT (i:=2) zbS.nd rfl xwO (by rw[hpp];decide)) (zaf (zec (i:=3) zbS.nd rfl xwO (by rw[hpp];decide) (zb3 za7)) (zaf (zf8 hpo rfl (zbJ (zaa 1)) (zaT (i:=4) zbS.nd rfl xwO (by rw[hpp];decide)) (zah (zcG (zkI 3 (zaz (zbZ (zdE rfl T.b_range (zaa 0)) rfl (N':=zes) (m:=1) xwk rfl (zaP xwk) (zbu xwk) (zbv xwk) (λcl L s H fp G H' w Y=>⟨(zaT (i:=5) zix rfl xwO (xwN rfl)),(zc4 (zpe (zr9 hr) (zaa 5) (zaa 4))),(zvn (zaa 4) (zcz (zau (zaa 5) za7)))⟩))))))) (zah (zaR (i:=1) zbS.nd rfl xwO (by rw[hpp];decide) (zgY 3)))))) (zah (za3 hnw (zaa 1)))))
end
section
variable{P:Program}{w:World}{K:W.Frag}{mg:Str->Option Value}{base:Heap}{xv:Nat->Value}{cls:Nat->Addr}
abbrev znK:List Str:=["row","party","inside","first"]
abbrev zgc:List Str:=["row","party"]
theorem zfD:za0 znK zgc (zam (top 44)):=⟨rfl,rfl,rfl,xwD,rfl,xwD,xwD⟩
abbrev zfg:List Str:=["row","party","inside","first","guest"]
theorem zjw:zfg.Nodup:=by decide +kernel
noncomputable def zom:DS:=(zax (zaX 2 (dFz (zbh (dIt (zab 0)) (zbr 4) dTT (dOp (gIn false) (zab 4) (zab 1)) 1))) (zax (zaX 3 (zvT (zab 2) (dC (.bl true)))) (zbb (dOp (gEq false) (dFz (zlS (zab 2) (dO1 (zab 3)) (dO1 (dOp zeL (zab 3) (dFn zcb (dA (zab 1) dA0)))))) (dFz (zyM (dFz (zc7 (dA (dC (.bl true)) dA0))) (dFn zcb (dA (zab 1) dA0))))))))
noncomputable def zeT:FD:=zav false [false,false] 2 zom
theorem zoa(T:Tx K mg):Dfn false P w K mg base CX0 xv 3 (Str.ofString "_law_sits") [false,false] zeT:=by obtain ⟨f,fd,U,hm⟩:=T.u__law_sits;refine ⟨f,fd,zgc,?_,hm,U.kp,U.binds (ps:=zgc) λ_ _ _ _ _ _ us hl=>match us,hl with|[_,_],_=>rfl,zar⟩;refine za9 (k:=2) false za8 U zfD rfl rfl λX C hX hpp hxv hnw hr hx hpo=>?_;subst hxv;obtain ⟨cdv,A,outer,s,H,E,rfl⟩:=hX;exact (zaf (ze2 (i:=2) zfD.nd rfl xwO (by rw[hpp];decide) (zbJ (zaa 0)) rfl (N':=zfg) (m:=1) xwk rfl (zaP xwk) (zbu xwk) (zbv xwk) (λcl L s H fp G H' w Y=>⟨(zaT (i:=4) zjw rfl xwO (xwN rfl)),zfw,(zwZ (zr9 hr) (zaa 4) (zaa 1))⟩)) (zaf (zaR (i:=3) zfD.nd rfl xwO (by rw[hpp];decide) (zuA (zr9 hr) (zaa 2) zfs)) (zah (za3 hnw (znu (ze7 hr) (zaz (zm8 (zaa 2) (zeM (zaa 3)) (zeM (zf5 (zaa 3) (zee T.b_len (zaa 1)))))) (zaz (by refine zxY (zaz (zb3 (zau zfs za7))) ?_;exact (zee T.b_len (zaa 1)))))))))
abbrev znq:List Str:=["rows","parties"]
abbrev zgm:List Str:=["rows","parties"]
theorem zml:za0 znq zgm (zam (top 45)):=⟨rfl,rfl,rfl,xwD,rfl,xwD,xwD⟩
abbrev zeX:List Str:=["rows","parties","row"]
theorem zj7:zeX.Nodup:=by decide +kernel
abbrev zfl:List Str:=["rows","parties","row","party"]
theorem zj9:zfl.Nodup:=by decide +kernel
noncomputable def znF:DS:=(zeb (zbh (dIt (zab 0)) (zbr 2) (dTB (dOp (gEq false) (dFz (zbh (dIt (zab 1)) (zbr 3) (zcp (dTB (zai zeT (dR (zab 2) (dR (zab 3) dR0))))) (zab 3) 1)) (dFz (zc7 dA0)))) (zab 2) 1))
noncomputable def zd7:FD:=zav true [false,false] 0 znF
theorem zns(T:Tx K mg):Dfn true P w K mg base CX0 xv 6 (Str.ofString "_law_kept") [false,false] zd7:=by obtain ⟨f,fd,U,hm⟩:=T.u__law_kept;refine ⟨f,fd,zgm,?_,hm,U.kp,U.binds (ps:=zgm) λ_ _ _ _ _ _ us hl=>match us,hl with|[_,_],_=>rfl,zar⟩;refine za9 (k:=5) true za8 U zml rfl rfl λX C hX hpp hxv hnw hr hx hpo=>?_;subst hxv;obtain ⟨cdv,A,outer,s,H,E,rfl⟩:=hX;exact (zah (zdl hnw (zbZ (zbJ (zaa 0)) rfl (N':=zeX) (m:=1) xwk rfl (zaP xwk) (zbu xwk) (zbv xwk) (λcl L s H fp G H' w Y=>⟨(zaT (i:=2) zj7 rfl xwO (xwN rfl)),(zc4 (zdF (ze7 hr) (zaz (zbZ (zbJ (zaa 1)) rfl (N':=zfl) (m:=1) xwk rfl (zaP xwk) (zbu xwk) (zbv xwk) (λcl L s H fp G H' w Y=>⟨(zaT (i:=3) zj9 rfl xwO (xwN rfl)),(zc4 (zfi (zcg (zaD (zoa T) hr xwo za2 (zac (zaa 2) (zac (zaa 3) zan)))))),(zaa 3)⟩))) (zaz (zb3 za7)))),(zaa 2)⟩))))
abbrev zk7:List Str:=["tree","found","branch"]
abbrev zds:List Str:=["tree"]
theorem zcS:za0 zk7 zds (zam (top 46)):=⟨rfl,rfl,rfl,xwD,rfl,xwD,xwD⟩
noncomputable def zeA(F_self:FD):DS:=(zax (dIf (dTB (zhw "int" (zab 0))) (zbb (dFz (zc7 (dA (zab 0) dA0)))) dNx) (zax (zaX 1 (dFz (zc7 dA0))) (zax (zh1 (dIt (dOp gIx (zab 0) (dC (.int 1)))) (zbr 2) (zaX 1 (dFz (zjt (zab 1) (zai F_self (dR (zab 2) dR0)))))) (zbb (zab 1)))))
noncomputable def zaI:Nat->FD
 |0=>λ_=>.no
 |n+1=>zav false [false] 2 (zeA (zaI n))
theorem zbV(T:Tx K mg):∀ n,Dfn false P w K mg base CX0 xv (n+2) (Str.ofString "_law_leaves") [false] (zaI n)
 |0=>by obtain ⟨f,fd,U,hm⟩:=T.u__law_leaves;exact zcN rfl U hm (U.binds (ps:=zds) λ_ _ _ _ _ _ us hl=>match us,hl with|[_],_=>rfl)
 |n+1=>by have DS:=zbV T n;obtain ⟨f,fd,U,hm⟩:=T.u__law_leaves;refine ⟨f,fd,zds,?_,hm,U.kp,U.binds (ps:=zds) λ_ _ _ _ _ _ us hl=>match us,hl with|[_],_=>rfl,zar⟩;refine zgi.mono (j:=(n+2)+1) ?_ xwo;refine za9 (k:=n+2) false za8 U zcS rfl rfl λX C hX hpp hxv hnw hr hx hpo=>?_;subst hxv;obtain ⟨cdv,A,outer,s,H,E,rfl⟩:=hX;exact (zaf (zbx (zcg (zdO zhu rfl T.b_isinstance zdT rfl T.b_int zjW (zaa 0))) (zah (za3 hnw (zaz (zb3 (zau (zaa 0) za7))))) zaA) (zaf (zaR (i:=1) zcS.nd rfl xwO (by rw[hpp];decide) (zaz (zb3 za7))) (zaf (zf8 hpo rfl (zbJ (zaV (zaa 0) zal)) (zaT (i:=2) zcS.nd rfl xwO (by rw[hpp];decide)) (zah (zaR (i:=1) zcS.nd rfl xwO (by rw[hpp];decide) (zaz (zjj (zaa 1) (zaD DS hr (wal _) za2 (zac (zaa 2) zan))))))) (zah (za3 hnw (zaa 1))))))
abbrev zjv:List Str:=["tree","row","left","places","here","many"]
abbrev zcP:List Str:=["tree","row"]
theorem zb0:za0 zjv zcP (zam (top 47)):=⟨rfl,rfl,rfl,xwD,rfl,xwD,xwD⟩
abbrev zd3:List Str:=["tree","row","left","places","here","many","at"]
theorem zhd:zd3.Nodup:=by decide +kernel
noncomputable def zbC(F_self:FD):DS:=(zax (dIf (dTB (zhw "int" (zab 0))) (zbb (dOp (gEq false) (zab 1) (zd1 (dA (zab 0) dA0)))) dNx) (zax (zaX 2 (zab 1)) (zax (zcY 3 (zc7 dA0)) (zax (zbG (dTB (dOp (gEq true) (zab 2) (zd1 dA0))) (zax (zaX 4 (dOp gIx (dFz (zbh (zdw (dFn zcb (dA (dOp gIx (zab 0) (dC (.int 1))) dA0))) (zbr 6) (dTB (dOp (gIn false) (dOp gIx (zab 2) (dC (.int 0))) (zai (zaI 8) (dR (dOp gIx (dOp gIx (zab 0) (dC (.int 1))) (zab 6)) dR0)))) (zab 6) 1)) (dC (.int 0)))) (zax (zaX 5 (dFn zcb (dA (zai (zaI 8) (dR (dOp gIx (dOp gIx (zab 0) (dC (.int 1))) (zab 4)) dR0)) dA0))) (zax (dIf (zgH (dTB (zqj false 3 (zab 4))) (dTB (dOp (gEq true) (dFz (zem zez (dA (zhf (zab 2) dO0 (dO1 (zab 5))) dA0))) (dFz (zem zbl (dA (zai (zaI 8) (dR (dOp gIx (dOp gIx (zab 0) (dC (.int 1))) (zab 4)) dR0)) dA0)))))) (zbb (dC (.bl false))) dNx) (zax (dIf (zcp (dTB (zai F_self (dR (dOp gIx (dOp gIx (zab 0) (dC (.int 1))) (zab 4)) (dR (zhf (zab 2) dO0 (dO1 (zab 5))) dR0))))) (zbb (dC (.bl false))) dNx) (zax (dEx (zew 3 (zab 4))) (zaX 2 (zhf (zab 2) (dO1 (zab 5)) dO0))))))) 10) (zbb (dOr (dOp (gEq false) (dOp gIx (zab 0) (dC (.int 0))) (dC (.str (Str.ofString "any")))) (dOp (gIn false) (zhc 3) (zd1 (dA (dFz (zem zbl (dA (zhc 3) dA0))) (dA (dFz (zgB (dFz (zem zbl (dA (zhc 3) dA0))))) dA0))))))))))
noncomputable def zci:Nat->FD
 |0=>λ_=>.no
 |n+1=>zav false [false,false] 4 (zbC (zci n))
theorem zga(T:Tx K mg):∀ n,Dfn false P w K mg base CX0 xv (n+12) (Str.ofString "_law_of_tree") [false,false] (zci n)
 |0=>by obtain ⟨f,fd,U,hm⟩:=T.u__law_of_tree;exact zcN rfl U hm (U.binds (ps:=zcP) λ_ _ _ _ _ _ us hl=>match us,hl with|[_,_],_=>rfl)
 |n+1=>by have DS:=zga T n;obtain ⟨f,fd,U,hm⟩:=T.u__law_of_tree;refine ⟨f,fd,zcP,?_,hm,U.kp,U.binds (ps:=zcP) λ_ _ _ _ _ _ us hl=>match us,hl with|[_,_],_=>rfl,zar⟩;refine zgi.mono (j:=(n+12)+1) ?_ xwo;refine za9 (k:=n+12) false za8 U zb0 rfl rfl λX C hX hpp hxv hnw hr hx hpo=>?_;subst hxv;obtain ⟨cdv,A,outer,s,H,E,rfl⟩:=hX;exact (zaf (zbx (zcg (zdO zhu rfl T.b_isinstance zdT rfl T.b_int zjW (zaa 0))) (zah (za3 hnw (znu (ze7 hr) (zaa 1) (zcz (zau (zaa 0) za7))))) zaA) (zaf (zaR (i:=2) zb0.nd rfl xwO (by rw[hpp];decide) (zaa 1)) (zaf (zec (i:=3) zb0.nd rfl xwO (by rw[hpp];decide) (zb3 za7)) (zaf (zoO 10 hpo (zih (ze7 hr) (zaa 2) (zcz za7)) (zaf (zaR (i:=4) zb0.nd rfl xwO (by rw[hpp];decide) (zaV (zaz (zbZ (zdE rfl T.b_range (zee T.b_len (zaV (zaa 0) zal))) rfl (N':=zd3) (m:=1) xwk rfl (zaP xwk) (zbu xwk) (zbv xwk) (λcl L s H fp G H' w Y=>⟨(zaT (i:=6) zhd rfl xwO (xwN rfl)),(zc4 (zvW (zr9 hr) (zaV (zaa 2) zal) (zaD (zbV T 8) hr xwo za2 (zac (zaV (zaV (zaa 0) zal) (zaa 6)) zan)))),(zaa 6)⟩))) zal)) (zaf (zaR (i:=5) zb0.nd rfl xwO (by rw[hpp];decide) (zee T.b_len (zaD (zbV T 8) hr xwo za2 (zac (zaV (zaV (zaa 0) zal) (zaa 4)) zan)))) (zaf (zbx (JW.jt (zhM (zuU 3 (zr9 hr) (zaa 4)) (zh8 (zih (ze7 hr) (zaz (ztJ rfl T.b_sorted (znJ (zaa 2) zgh (zeM (zaa 5))))) (zaz (zeE rfl T.b_sorted (zaD (zbV T 8) hr xwo za2 (zac (zaV (zaV (zaa 0) zal) (zaa 4)) zan)))))))) (zah (za3 hnw zfs)) zaA) (zaf (zbx (zfi (zcg (zaD DS hr (wal _) za2 (zac (zaV (zaV (zaa 0) zal) (zaa 4)) (zac (znJ (zaa 2) zgh (zeM (zaa 5))) zan))))) (zah (za3 hnw zfs)) zaA) (zaf (zcG (zja 3 (zaa 4))) (zah (zaR (i:=2) zb0.nd rfl xwO (by rw[hpp];decide) (znJ (zaa 2) (zeM (zaa 5)) zgh))))))))) (zah (za3 hnw (zzL (znu (ze7 hr) (zaV (zaa 0) zal) zdp) (zjL (zwZ (zr9 hr) (zgY 3) (zcz (zau (zaz (zeE rfl T.b_sorted (zgY 3))) (zau (zaz (zuR (zaz (zeE rfl T.b_sorted (zgY 3))))) za7))))))))))))
abbrev zj0:List Str:=["tree","rows"]
abbrev zeh:List Str:=["tree","rows"]
theorem zik:za0 zj0 zeh (zam (top 48)):=⟨rfl,rfl,rfl,xwD,rfl,xwD,xwD⟩
abbrev zdB:List Str:=["tree","rows","row"]
theorem zh0:zdB.Nodup:=by decide +kernel
noncomputable def zjH:DS:=(zeb (zbh (dIt (zab 1)) (zbr 2) (dTB (zai (zci 8) (dR (zab 0) (dR (zab 2) dR0)))) (zab 2) 1))
noncomputable def zbj:FD:=zav true [false,false] 0 zjH
theorem zdY(T:Tx K mg):Dfn true P w K mg base CX0 xv 23 (Str.ofString "_law_rows_by") [false,false] zbj:=by obtain ⟨f,fd,U,hm⟩:=T.u__law_rows_by;refine ⟨f,fd,zeh,?_,hm,U.kp,U.binds (ps:=zeh) λ_ _ _ _ _ _ us hl=>match us,hl with|[_,_],_=>rfl,zar⟩;refine za9 (k:=22) true za8 U zik rfl rfl λX C hX hpp hxv hnw hr hx hpo=>?_;subst hxv;obtain ⟨cdv,A,outer,s,H,E,rfl⟩:=hX;exact (zah (zdl hnw (zbZ (zbJ (zaa 1)) rfl (N':=zdB) (m:=1) xwk rfl (zaP xwk) (zbu xwk) (zbv xwk) (λcl L s H fp G H' w Y=>⟨(zaT (i:=2) zh0 rfl xwO (xwN rfl)),(zc4 (zcg (zaD (zga T 8) hr xwo za2 (zac (zaa 0) (zac (zaa 2) zan))))),(zaa 2)⟩))))
abbrev znb:List Str:=["thing"]
abbrev zfE:List Str:=["thing"]
theorem zk3:za0 znb zfE (zam (top 49)):=⟨rfl,rfl,rfl,xwD,rfl,xwD,xwD⟩
noncomputable def zmG:DS:=(zbb (zql (zhw "int" (zab 0)) (zyP (zhw "bool" (zab 0)))))
noncomputable def zc0:FD:=zav false [false] 0 zmG
theorem zh7(T:Tx K mg):Dfn false P w K mg base CX0 xv 3 (Str.ofString "_law_whole") [false] zc0:=by obtain ⟨f,fd,U,hm⟩:=T.u__law_whole;refine ⟨f,fd,zfE,?_,hm,U.kp,U.binds (ps:=zfE) λ_ _ _ _ _ _ us hl=>match us,hl with|[_],_=>rfl,zar⟩;refine za9 (k:=2) false za8 U zk3 rfl rfl λX C hX hpp hxv hnw hr hx hpo=>?_;subst hxv;obtain ⟨cdv,A,outer,s,H,E,rfl⟩:=hX;exact (zah (za3 hnw (zmI (zdO zhu rfl T.b_isinstance zdT rfl T.b_int zjW (zaa 0)) (zjL (zqM (zdO zoZ rfl T.b_isinstance zdT rfl T.b_bool zsg (zaa 0)))))))
abbrev zjC:List Str:=["thing"]
abbrev zcL:List Str:=["thing"]
theorem zjp:za0 zjC zcL (zam (top 50)):=⟨rfl,rfl,rfl,xwD,rfl,xwD,xwD⟩
abbrev zdC:List Str:=["thing","branch"]
theorem zhi:zdC.Nodup:=by decide +kernel
noncomputable def zei(F_self:FD):DS:=(zax (dIf (dTB (zhw "int" (zab 0))) (zbb (zai zc0 (dR (zab 0) dR0))) dNx) (zax (dIf (zgH (zcp (dTB (zhw "tuple" (zab 0)))) (zgH (dTB (dOp (gEq true) (dFn zcb (dA (zab 0) dA0)) (dC (.int 2)))) (zcp (dTB (zhw "tuple" (dOp gIx (zab 0) (dC (.int 1)))))))) (zbb (dC (.bl false))) dNx) (zax (dIf (zgH (zcp (dTB (zhw "str" (dOp gIx (zab 0) (dC (.int 0)))))) (zgH (dTB (dOp (gIn true) (dOp gIx (zab 0) (dC (.int 0))) (zd1 (dA (dC (.str (Str.ofString "any"))) (dA (dC (.str (Str.ofString "row"))) dA0))))) (dTB (dOp gLt (dFn zcb (dA (dOp gIx (zab 0) (dC (.int 1))) dA0)) (dC (.int 2)))))) (zbb (dC (.bl false))) dNx) (zax (dIf (zk5 (dTB (dOp (gEq false) (dOp gIx (zab 0) (dC (.int 0))) (dC (.str (Str.ofString "row"))))) (dTB (dOp gLt (dFn zcb (dA (dOp gIx (zab 0) (dC (.int 1))) dA0)) (dC (.int 3))))) (zbb (dC (.bl false))) dNx) (zbb (dOp (gEq false) (dFz (zbh (dIt (dOp gIx (zab 0) (dC (.int 1)))) (zbr 1) (zcp (dTB (zai F_self (dR (zab 1) dR0)))) (zab 1) 1)) (dFz (zc7 dA0))))))))
noncomputable def zbm:Nat->FD
 |0=>λ_=>.no
 |n+1=>zav false [false] 0 (zei (zbm n))
theorem zfX(T:Tx K mg):∀ n,Dfn false P w K mg base CX0 xv (n+5) (Str.ofString "_law_is_node") [false] (zbm n)
 |0=>by obtain ⟨f,fd,U,hm⟩:=T.u__law_is_node;exact zcN rfl U hm (U.binds (ps:=zcL) λ_ _ _ _ _ _ us hl=>match us,hl with|[_],_=>rfl)
 |n+1=>by have DS:=zfX T n;obtain ⟨f,fd,U,hm⟩:=T.u__law_is_node;refine ⟨f,fd,zcL,?_,hm,U.kp,U.binds (ps:=zcL) λ_ _ _ _ _ _ us hl=>match us,hl with|[_],_=>rfl,zar⟩;refine zgi.mono (j:=(n+5)+1) ?_ xwo;refine za9 (k:=n+5) false za8 U zjp rfl rfl λX C hX hpp hxv hnw hr hx hpo=>?_;subst hxv;obtain ⟨cdv,A,outer,s,H,E,rfl⟩:=hX;exact (zaf (zbx (zcg (zdO zhu rfl T.b_isinstance zdT rfl T.b_int zjW (zaa 0))) (zah (za3 hnw (zaD (zh7 T) hr xwo za2 (zac (zaa 0) zan)))) zaA) (zaf (zbx (JW.jt (zhM (zfi (zcg (zdO zgQ rfl T.b_isinstance zdT rfl T.b_tuple zgV (zaa 0)))) (zhM (zih (ze7 hr) (zee T.b_len (zaa 0)) zal) (zh8 (zfi (zcg (zdO zgQ rfl T.b_isinstance zdT rfl T.b_tuple zgV (zaV (zaa 0) zal)))))))) (zah (za3 hnw zfs)) zaA) (zaf (zbx (JW.jt (zhM (zfi (zcg (zdO zwH rfl T.b_isinstance zdT rfl T.b_str zyL (zaV (zaa 0) zal)))) (zhM (zpe (zr9 hr) (zaV (zaa 0) zal) (zcz (zau zdp (zau zdp za7)))) (zh8 (zqe (zee T.b_len (zaV (zaa 0) zal)) zal))))) (zah (za3 hnw zfs)) zaA) (zaf (zbx (JW.jt (zuo (zdF (ze7 hr) (zaV (zaa 0) zal) zdp) (zr3 (zqe (zee T.b_len (zaV (zaa 0) zal)) zal)))) (zah (za3 hnw zfs)) zaA) (zah (za3 hnw (znu (ze7 hr) (zaz (zbZ (zbJ (zaV (zaa 0) zal)) rfl (N':=zdC) (m:=1) xwk rfl (zaP xwk) (zbu xwk) (zbv xwk) (λcl L s H fp G H' w Y=>⟨(zaT (i:=1) zhi rfl xwO (xwN rfl)),(zc4 (zfi (zcg (zaD DS hr (wal _) za2 (zac (zaa 1) zan))))),(zaa 1)⟩))) (zaz (zb3 za7)))))))))
abbrev zjy:List Str:=["n","thing"]
abbrev zeg:List Str:=["n","thing"]
theorem zit:za0 zjy zeg (zam (top 51)):=⟨rfl,rfl,rfl,xwD,rfl,xwD,xwD⟩
noncomputable def zjz:DS:=(zbb (zql (zai (zbm 8) (dR (zab 1) dR0)) (dOp (gEq false) (dFz (zem zbl (dA (zai (zaI 8) (dR (zab 1) dR0)) dA0))) (dFz (zjF (zab 0))))))
noncomputable def zcR:FD:=zav false [false,false] 0 zjz
theorem zj5(T:Tx K mg):Dfn false P w K mg base CX0 xv 16 (Str.ofString "_law_is_tree") [false,false] zcR:=by obtain ⟨f,fd,U,hm⟩:=T.u__law_is_tree;refine ⟨f,fd,zeg,?_,hm,U.kp,U.binds (ps:=zeg) λ_ _ _ _ _ _ us hl=>match us,hl with|[_,_],_=>rfl,zar⟩;refine za9 (k:=15) false za8 U zit rfl rfl λX C hX hpp hxv hnw hr hx hpo=>?_;subst hxv;obtain ⟨cdv,A,outer,s,H,E,rfl⟩:=hX;exact (zah (za3 hnw (zmI (zaD (zfX T 8) hr xwo za2 (zac (zaa 1) zan)) (zjL (znu (ze7 hr) (zaz (zeE rfl T.b_sorted (zaD (zbV T 8) hr xwo za2 (zac (zaa 1) zan)))) (zaz (znw rfl rfl T.b_list rfl T.b_range (zaa 0))))))))
abbrev zlI:List Str:=["tree","some","firsts"]
abbrev zdL:List Str:=["tree"]
theorem zeI:za0 zlI zdL (zam (top 52)):=⟨rfl,rfl,rfl,xwD,rfl,xwD,xwD⟩
abbrev ze5:List Str:=["tree","some","firsts","branch"]
theorem ziU:ze5.Nodup:=by decide +kernel
abbrev zeo:List Str:=["tree","some","firsts","branch"]
theorem zjr:zeo.Nodup:=by decide +kernel
abbrev zeq:List Str:=["tree","some","firsts","first"]
theorem ziJ:zeq.Nodup:=by decide +kernel
noncomputable def zf6(F_self:FD):DS:=(zax (dIf (dTB (zhw "int" (zab 0))) (zbb (zab 0)) dNx) (zax (zaX 1 (dFz (zbh (dIt (dOp gIx (zab 0) (dC (.int 1)))) (zbr 3) dTT (zai F_self (dR (zab 3) dR0)) 1))) (zax (zaX 2 (dFz (zbh (dIt (zab 1)) (zbr 3) dTT (dFn zk6 (dA (zai (zaI 8) (dR (zab 3) dR0)) dA0)) 1))) (zax (dIf (dTB (dOp (gEq false) (dOp gIx (zab 0) (dC (.int 0))) (dC (.str (Str.ofString "row"))))) (zbb (zd1 (dA (dC (.str (Str.ofString "row"))) (dA (dFn zbI (dA (zkf (dTB (dOp gLt (dOp gIx (zab 2) (dC (.int 0))) (dOp gIx (zab 2) (znf (dC (.int 1)))))) (zab 1) (dFz (zgB (zab 1)))) dA0)) dA0)))) dNx) (zbb (zd1 (dA (dC (.str (Str.ofString "any"))) (dA (dFn zbI (dA (dFz (zbh (dIt (dFz (zem zbl (dA (zab 2) dA0)))) (zbr 3) dTT (dOp gIx (zab 1) (zvT (zab 2) (zab 3))) 1)) dA0)) dA0))))))))
noncomputable def zb4:Nat->FD
 |0=>λ_=>.no
 |n+1=>zav false [false] 2 (zf6 (zb4 n))
theorem zh4(T:Tx K mg):∀ n,Dfn false P w K mg base CX0 xv (n+12) (Str.ofString "_law_least") [false] (zb4 n)
 |0=>by obtain ⟨f,fd,U,hm⟩:=T.u__law_least;exact zcN rfl U hm (U.binds (ps:=zdL) λ_ _ _ _ _ _ us hl=>match us,hl with|[_],_=>rfl)
 |n+1=>by have DS:=zh4 T n;obtain ⟨f,fd,U,hm⟩:=T.u__law_least;refine ⟨f,fd,zdL,?_,hm,U.kp,U.binds (ps:=zdL) λ_ _ _ _ _ _ us hl=>match us,hl with|[_],_=>rfl,zar⟩;refine zgi.mono (j:=(n+12)+1) ?_ xwo;refine za9 (k:=n+12) false za8 U zeI rfl rfl λX C hX hpp hxv hnw hr hx hpo=>?_;subst hxv;obtain ⟨cdv,A,outer,s,H,E,rfl⟩:=hX;exact (zaf (zbx (zcg (zdO zhu rfl T.b_isinstance zdT rfl T.b_int zjW (zaa 0))) (zah (za3 hnw (zaa 0))) zaA) (zaf (zaR (i:=1) zeI.nd rfl xwO (by rw[hpp];decide) (zaz (zbZ (zbJ (zaV (zaa 0) zal)) rfl (N':=ze5) (m:=1) xwk rfl (zaP xwk) (zbu xwk) (zbv xwk) (λcl L s H fp G H' w Y=>⟨(zaT (i:=3) ziU rfl xwO (xwN rfl)),zfw,(zaD DS hr (wal _) za2 (zac (zaa 3) zan))⟩)))) (zaf (zaR (i:=2) zeI.nd rfl xwO (by rw[hpp];decide) (zaz (zbZ (zbJ (zaa 1)) rfl (N':=zeo) (m:=1) xwk rfl (zaP xwk) (zbu xwk) (zbv xwk) (λcl L s H fp G H' w Y=>⟨(zaT (i:=3) zjr rfl xwO (xwN rfl)),zfw,(zxd rfl T.b_min (zaD (zbV T 8) hr xwo za2 (zac (zaa 3) zan)))⟩)))) (zaf (zbx (zdF (ze7 hr) (zaV (zaa 0) zal) zdp) (zah (za3 hnw (zcz (zau zdp (zau (zd8 T.b_tuple (ziy (zqe (zaV (zaa 2) zal) (zaV (zaa 2) (zm4 zal))) (zaa 1) (zaz (zuR (zaa 1))))) za7))))) zaA) (zah (za3 hnw (zcz (zau zdp (zau (zd8 T.b_tuple (zaz (zbZ (zbJ (zaz (zeE rfl T.b_sorted (zaa 2)))) rfl (N':=zeq) (m:=1) xwk rfl (zaP xwk) (zbu xwk) (zbv xwk) (λcl L s H fp G H' w Y=>⟨(zaT (i:=3) ziJ rfl xwO (xwN rfl)),zfw,(zaV (zaa 1) (zuA (zr9 hr) (zaa 2) (zaa 3)))⟩)))) za7)))))))))
abbrev zhL:List Str:=["n","thing","falls"]
abbrev zdj:List Str:=["n","thing"]
theorem ze8:za0 zhL zdj (zam (top 53)):=⟨rfl,rfl,rfl,xwD,rfl,xwD,xwD⟩
abbrev zda:List Str:=["n","thing","falls","one"]
theorem zgz:zda.Nodup:=by decide +kernel
abbrev zcU:List Str:=["n","thing","falls","at"]
theorem zgq:zcU.Nodup:=by decide +kernel
noncomputable def zeZ:DS:=(zax (dIf (zgH (zcp (dTB (zhw "tuple" (zab 1)))) (zgH (dTB (dOp (gEq false) (zab 1) (zd1 dA0))) (dTB (dOp (gEq true) (dFz (zbh (dIt (zab 1)) (zbr 3) (zcp (dTB (zai zc0 (dR (zab 3) dR0)))) (zab 3) 1)) (dFz (zc7 dA0)))))) (zbb (dC (.bl false))) dNx) (zax (zaX 2 (dFz (zbh (zno (dC (.int 1)) (dFn zcb (dA (zab 1) dA0))) (zbr 3) (dTB (dOp gLe (dOp gIx (zab 1) (zab 3)) (dOp gIx (zab 1) (dOp zi1 (zab 3) (dC (.int 1)))))) (zab 3) 1))) (zbb (zql (dOp gLe (dC (.int 0)) (dOp gIx (zab 1) (dC (.int 0)))) (zql (dOp gLt (dOp gIx (zab 1) (znf (dC (.int 1)))) (zab 0)) (dOp (gEq false) (zab 2) (dFz (zc7 dA0))))))))
noncomputable def zbA:FD:=zav false [false,false] 1 zeZ
theorem zhN(T:Tx K mg):Dfn false P w K mg base CX0 xv 6 (Str.ofString "_law_party_due") [false,false] zbA:=by obtain ⟨f,fd,U,hm⟩:=T.u__law_party_due;refine ⟨f,fd,zdj,?_,hm,U.kp,U.binds (ps:=zdj) λ_ _ _ _ _ _ us hl=>match us,hl with|[_,_],_=>rfl,zar⟩;refine za9 (k:=5) false za8 U ze8 rfl rfl λX C hX hpp hxv hnw hr hx hpo=>?_;subst hxv;obtain ⟨cdv,A,outer,s,H,E,rfl⟩:=hX;exact (zaf (zbx (JW.jt (zhM (zfi (zcg (zdO zgQ rfl T.b_isinstance zdT rfl T.b_tuple zgV (zaa 1)))) (zhM (zdF (ze7 hr) (zaa 1) (zcz za7)) (zh8 (zih (ze7 hr) (zaz (zbZ (zbJ (zaa 1)) rfl (N':=zda) (m:=1) xwk rfl (zaP xwk) (zbu xwk) (zbv xwk) (λcl L s H fp G H' w Y=>⟨(zaT (i:=3) zgz rfl xwO (xwN rfl)),(zc4 (zfi (zcg (zaD (zh7 T) hr xwo za2 (zac (zaa 3) zan))))),(zaa 3)⟩))) (zaz (zb3 za7))))))) (zah (za3 hnw zfs)) zaA) (zaf (ze2 (i:=2) ze8.nd rfl xwO (by rw[hpp];decide) (zq6 rfl T.b_range zal (zee T.b_len (zaa 1))) rfl (N':=zcU) (m:=1) xwk rfl (zaP xwk) (zbu xwk) (zbv xwk) (λcl L s H fp G H' w Y=>⟨(zaT (i:=3) zgq rfl xwO (xwN rfl)),(zc4 (zzt (zaV (zaa 1) (zaa 3)) (zaV (zaa 1) (ziK (zaa 3) zal)))),(zaa 3)⟩)) (zah (za3 hnw (zmI (zzl zal (zaV (zaa 1) zal)) (zmI (zzb (zaV (zaa 1) (zm4 zal)) (zaa 0)) (zjL (znu (ze7 hr) (zaa 2) (zaz (zb3 za7))))))))))
abbrev zzo:List Str:=["script","k","state","n","one","other","rows","mine","theirs","turn","parties","due","found"]
abbrev zxC:List Str:=["script"]
theorem zex:za0 zzo zxC (zam (top 54)):=⟨rfl,rfl,rfl,xwD,rfl,xwD,xwD⟩
abbrev zkv:List Str:=["script","k","state","n","one","other","rows","mine","theirs","turn","parties","due","found","party"]
theorem ztw:zkv.Nodup:=by decide +kernel
abbrev zkj:List Str:=["script","k","state","n","one","other","rows","mine","theirs","turn","parties","due","found","row"]
theorem zsQ:zkj.Nodup:=by decide +kernel
noncomputable def zvM:DS:=(zax (zh1 (zdw (dFn zk2 (dA (dC (.int 1)) (dA (dFn zk9 (dA (dFn zcb (dA (zab 0) dA0)) (dA (dC (.int 4)) dA0))) dA0)))) (zbr 1) (zax (zcY 2 (zaZ zcZ (dR (zab 0) (dR (zab 1) dR0)))) (zax (zaX 3 (dOp zeL (dC (.int 1)) (zai zap (dRO 2 (dR (dC (.int 6)) dR0))))) (zax (zaX 4 (zai (zbe 8) (dRO 2 (dR (dFz (zjF (zab 3))) dR0)))) (zax (zaX 5 (zai (zbe 8) (dRO 2 (dR (dFz (zjF (zab 3))) dR0)))) (zax (dIf (dTB (dOp (gEq false) (zai zap (dRO 2 (dR (dC (.int 2)) dR0))) (dC (.int 1)))) (zaX 5 (zxO (zai zb5 (dR (zab 3) (dR (zab 4) (dR (zai zcx (dRO 2 (dR (zab 3) dR0))) dR0)))) (zab 4))) dNx) (zax (zaX 6 (zai zdd (dR (zab 3) dR0))) (zax (zyH (zd1 (dA (dFz (zaZ zbj (dR (zab 4) (dR (zab 6) dR0)))) (dA (dFz (zaZ zbj (dR (zab 5) (dR (zab 6) dR0)))) dA0))) (zlw 7 8)) (zax (zh1 (zdw (dC (.int 2))) (zbr 9) (zax (zcY 10 (zaZ zcv (dR (zab 3) (dR (zab 4) dR0)))) (zax (dIf (zju 10 (zgH (zcp (dTB (zhw "list" (zab 10)))) (dTB (dOp gGt (dFn zcb (dA (zab 10) dA0)) (dC (.int 20)))))) (zbb (dC (.bl false))) dNx) (zax (dIf (zju 10 (dTB (dOp (gEq true) (dFz (zbh (dIt (zab 10)) (zbr 13) (zcp (dTB (zai zbA (dR (zab 3) (dR (zab 13) dR0))))) (zab 13) 1)) (dFz (zc7 dA0))))) (zbb (dC (.bl false))) dNx) (zax (dIf (zju 10 (dTB (dOp (gEq true) (dFz (zaZ zd7 (dR (zab 6) (dR (zab 10) dR0)))) (zab 7)))) (zbb (dC (.bl false))) dNx) (dEx (zew 10 (zd1 dA0)))))))) (zax (zaX 11 (dFz (zbh (dIt (zab 7)) (zbr 13) (dTB (dOp (gIn false) (zab 13) (zab 8))) (zab 13) 1))) (zax (zaX 12 (zai zi9 (dR (zab 3) (dR (zab 4) (dR (zab 5) dR0))))) (zax (dIf (zgH (dTB (dOp (gEq true) (zxk (zab 12)) (dOp (gEq false) (zab 11) (dFz (zc7 dA0))))) (dTB (dOp (gEq true) (zab 12) (zai zi9 (dR (zab 3) (dR (zab 5) (dR (zab 4) dR0))))))) (zbb (dC (.bl false))) dNx) (dIf (zl6 false (zab 12)) (zax (dIf (zgH (zcp (dTB (zai zcR (dR (zab 3) (dR (zab 12) dR0))))) (dTB (dOp (gEq true) (zai (zb4 8) (dR (zab 12) dR0)) (zab 12)))) (zbb (dC (.bl false))) dNx) (dIf (dTB (dOp (gEq true) (dFz (zaZ zbj (dR (zab 12) (dR (zab 6) dR0)))) (zab 11))) (zbb (dC (.bl false))) dNx)) dNx))))))))))))) (zbb (dC (.bl true))))
noncomputable def zpB:FD:=zav false [false] 12 zvM
theorem zz5(T:Tx K mg){f:Addr}{fd:FuncData}(U:Fun K "law" "law" (top 54) f fd):zgi P w K mg base CX0 114 f fd zxC (zph false K xv [false] zpB):=by refine za9 (k:=113) false za8 U zex rfl rfl λX C hX hpp hxv hnw hr hx hpo=>?_;subst hxv;obtain ⟨cdv,A,outer,s,H,E,rfl⟩:=hX;exact (zaf (zf8 hpo rfl (zdE rfl T.b_range (zxT rfl T.b_max zal (zxn rfl T.b_min (zee T.b_len (zaa 0)) zal))) (zaT (i:=1) zex.nd rfl xwO (by rw[hpp];decide)) (zaf (zec (i:=2) zex.nd rfl xwO (by rw[hpp];decide) (zgx (zlF T) hr xwo za2 (zac (zaa 0) (zac (zaa 1) zan)))) (zaf (zaR (i:=3) zex.nd rfl xwO (by rw[hpp];decide) (zf5 zal (zaD (zbP T) hr xwo za2 (ze3 2 (zac zal zan))))) (zaf (zaR (i:=4) zex.nd rfl xwO (by rw[hpp];decide) (zaD (zgg T 8) hr xwo za2 (ze3 2 (zac (zaz (znw rfl rfl T.b_list rfl T.b_range (zaa 3))) zan)))) (zaf (zaR (i:=5) zex.nd rfl xwO (by rw[hpp];decide) (zaD (zgg T 8) hr xwo za2 (ze3 2 (zac (zaz (znw rfl rfl T.b_list rfl T.b_range (zaa 3))) zan)))) (zaf (zbx (zdF (ze7 hr) (zaD (zbP T) hr xwo za2 (ze3 2 (zac zal zan))) zal) (zah (zaR (i:=5) zex.nd rfl xwO (by rw[hpp];decide) (zwX (zaD (zjq T) hr xwo za2 (zac (zaa 3) (zac (zaa 4) (zac (zaD (zmR T) hr xwo za2 (ze3 2 (zac (zaa 3) zan))) zan)))) (zjL (zaa 4))))) zaA) (zaf (zaR (i:=6) zex.nd rfl xwO (by rw[hpp];decide) (zaD (zmn T) hr xwo za2 (zac (zaa 3) zan))) (zaf (zy7 (zcz (zau (zaz (zgx (zdY T) hr xwo za2 (zac (zaa 4) (zac (zaa 6) zan)))) (zau (zaz (zgx (zdY T) hr xwo za2 (zac (zaa 5) (zac (zaa 6) zan)))) za7))) (zqz (i:=7) (j:=8) rfl zex.nd rfl rfl xwO xwO (by rw[hpp];decide) (by rw[hpp];decide)) (hw:=by kernel_rfl)) (zaf (zf8 hpo rfl (zdE rfl T.b_range zal) (zaT (i:=9) zex.nd rfl xwO (by rw[hpp];decide)) (zaf (zec (i:=10) zex.nd rfl xwO (by rw[hpp];decide) (zgx (zhD T) hr xwo za2 (zac (zaa 3) (zac (zaa 4) zan)))) (zaf (zbx (zr8 10 (JW.jt (zhM (zfi (zcg (zdO ztS rfl T.b_isinstance zdT rfl T.b_list zqI (zaa 10)))) (zh8 (zp1 (zee T.b_len (zaa 10)) zal))))) (zah (za3 hnw zfs)) zaA) (zaf (zbx (zr8 10 (zih (ze7 hr) (zaz (zbZ (zbJ (zaa 10)) rfl (N':=zkv) (m:=1) xwk rfl (zaP xwk) (zbu xwk) (zbv xwk) (λcl L s H fp G H' w Y=>⟨(zaT (i:=13) ztw rfl xwO (xwN rfl)),(zc4 (zfi (zcg (zaD (zhN T) hr xwo za2 (zac (zaa 3) (zac (zaa 13) zan)))))),(zaa 13)⟩))) (zaz (zb3 za7)))) (zah (za3 hnw zfs)) zaA) (zaf (zbx (zr8 10 (zih (ze7 hr) (zaz (zgx (zns T) hr xwo za2 (zac (zaa 6) (zac (zaa 10) zan)))) (zaa 7))) (zah (za3 hnw zfs)) zaA) (zah (zcG (zja 10 (zcz za7))))))))) (zaf (ze2 (i:=11) zex.nd rfl xwO (by rw[hpp];decide) (zbJ (zaa 7)) rfl (N':=zkj) (m:=1) xwk rfl (zaP xwk) (zbu xwk) (zbv xwk) (λcl L s H fp G H' w Y=>⟨(zaT (i:=13) zsQ rfl xwO (xwN rfl)),(zc4 (zvW (zr9 hr) (zaa 13) (zaa 8))),(zaa 13)⟩)) (zaf (zaR (i:=12) zex.nd rfl xwO (by rw[hpp];decide) (zaD (zuL T) hr xwo za2 (zac (zaa 3) (zac (zaa 4) (zac (zaa 5) zan))))) (zaf (zbx (JW.jt (zhM (zih (ze7 hr) (zyk (zaa 12)) (znu (ze7 hr) (zaa 11) (zaz (zb3 za7)))) (zh8 (zih (ze7 hr) (zaa 12) (zaD (zuL T) hr xwo za2 (zac (zaa 3) (zac (zaa 5) (zac (zaa 4) zan)))))))) (zah (za3 hnw zfs)) zaA) (zah (zbx (zwJ (zaa 12)) (zaf (zbx (JW.jt (zhM (zfi (zcg (zaD (zj5 T) hr xwo za2 (zac (zaa 3) (zac (zaa 12) zan))))) (zh8 (zih (ze7 hr) (zaD (zh4 T 8) hr xwo za2 (zac (zaa 12) zan)) (zaa 12))))) (zah (za3 hnw zfs)) zaA) (zah (zbx (zih (ze7 hr) (zaz (zgx (zdY T) hr xwo za2 (zac (zaa 12) (zac (zaa 6) zan)))) (zaa 11)) (zah (za3 hnw zfs)) zaA))) zaA)))))))))))))) (zah (za3 hnw zfs)))
end
theorem znZ{x y:Dt}{bs:List B}:∀{Z:Ev}{k:Nat},zjD [.d x,.d y] bs k Z = Z
 |[],_=>rfl
 |o::r,k=>by show (match zf3 [.d x,.d y] k with|some j=>bs[j]?|none=>o)::zjD [.d x,.d y] bs (k+1) r=_;rw[znZ (Z:=r)];rfl
theorem zdf{F:FD}{fa:De}{Z Z':Ev}{d y:Dt}{l:List B}(h:fa Z=.ok (d,Z'))(hF:F [.val d]=.ok (y,l)):zai F (dR fa dR0) Z=.ok (y,Z'):=by unfold zai dR dR0;rw[h];simp only[R.bind_ok,zpI,zbH,if_true,zaM,hF];rw[zpo]
theorem zdv{F:FD}{fa fb:De}{Z Z' Z'':Ev}{d e y:Dt}{l:List B}(h:fa Z=.ok (d,Z'))(h2:fb Z'=.ok (e,Z''))(hF:F [.val d,.val e]=.ok (y,l)):zai F (dR fa (dR fb dR0)) Z=.ok (y,Z''):=by unfold zai dR dR0;rw[h];simp only[R.bind_ok,h2,zpI,zbH,if_true,zaM,hF];rw[znZ]
theorem znI{i k:Nat}{d:Dt}:zf3 [.s i,.d d] k=if i=k then some 0 else none:=by unfold zf3 zfr;split <;> rfl
theorem zuN{i:Nat}{d:Dt}{b:B}{bs:List B}:∀{Z:Ev}{k:Nat},k<=i->zjD [.s i,.d d] (b::bs) k Z = Z.set (i-k) (some b)
 |[],k,_=>by simp[zjD]
 |o::r,k,h=>by
  unfold zjD;rw[znI];by_cases e:i=k
  ·subst e;simp only[if_true,Nat.sub_self,List.set_cons_zero];have:∀(r:Ev)(m:Nat),i<m->zjD [.s i,.d d] (b::bs) m r=r:=by
    intro r
    induction r with
    |nil=>intro m _;rfl
    |cons o r ih =>
     intro m hm;unfold zjD;rw[znI,if_neg xwl,ih (m+1) xwl]
   rw[this r (i+1) xwl];rfl
  ·rw[if_neg e,zuN (k:=k+1) xwl];have:i-k=(i-(k+1))+1:=by lia
   rw[this,List.set_cons_succ]
theorem zhG{F:FD}{fb:De}{i:Nat}{Z:Ev}{d y:Dt}{st st':List Dt}{l:List B}(hi:Z[i]? = some (some (.own st)))(h:fb Z=.ok (d,Z))(hF:F [.own st,.val d]=.ok (y,.own st'::l)):zai F (dRO i (dR fb dR0)) Z=.ok (y,Z.set i (some (.own st'))):=by
 have u:zpI [.s i,.d d]=true:=by unfold zpI zbH;rw[znI];simp[zbH]
 unfold zai dRO dR dR0;simp only[hi,h,R.bind_ok,u,if_true,zaM,zsH,hF];rw[zuN (Nat.zero_le _)];rfl
theorem zak{nw:Bool}{ks:List Bool}{m:Nat}{body:DS}{bs:List B}{d:Dt}{Z':Ev}{l:List B}(hk:zdX bs=ks)(hb:body (bs.map some++List.replicate m none)=.ok (.rt d,Z'))(hl:zaU ks Z'=.ok l):zav nw ks m body bs=.ok (d,l):=by unfold zav;rw[if_pos hk,hb];simp only[R.bind_ok,hl]
noncomputable def St(st:List Dt):Prop:=∃ s b,st=[.int s,.bl b]
theorem zdb{st:List Dt}{m:Int}(h:St st)(h0:0<m)(h1:m<1073741824):∃(v:Int)(st':List Dt),zap [.own st,.val (.int m)]=.ok (.int v,[.own st',.val .non])/\St st'/\0<=v/\v<m:=by
 obtain ⟨s,b,rfl⟩:=h;cases b with
 |true =>
  refine ⟨s % m,[.int (s / m),.bl true],?_,⟨_,_,rfl⟩,Int.emod_nonneg _ xwl,Int.emod_lt_of_pos _ h0⟩;unfold zap zav zg4;simp[zdX,zsH,zax,dIf,dTB,zsC,dC,atI,ixN,zaX,dOp,zqf,zab,zsx,zte,zbb,zaU,h0,h1]
 |false =>
  have e1:∃ a,(s * 48271+29) % 2147483647=a/\0<=a/\a<2147483647:=⟨_,rfl,Int.emod_nonneg _ xwd,Int.emod_lt_of_pos _ xwd⟩
  obtain ⟨a,ea,a0,a1⟩:=e1;have e2:∃ c,(a * a+39373 * a+7) % 2147483629=c/\0<=c/\c<2147483629:=⟨_,rfl,Int.emod_nonneg _ xwd,Int.emod_lt_of_pos _ xwd⟩
  obtain ⟨c,ec,c0,c1⟩:=e2;have sa:zd5 a=true:=by unfold zd5;simp;lia
  have sc:zd5 c=true:=by unfold zd5;simp;lia
  have s1:zd5 48271=true:=by decide
  have s2:zd5 39373=true:=by decide
  have s3:zd5 16807=true:=by decide
  refine ⟨(c * c+16807 * c) % 2147483587 / 8 % m,[.int a,.bl false],?_,⟨_,_,rfl⟩,Int.emod_nonneg _ xwl,Int.emod_lt_of_pos _ h0⟩;unfold zap zav zg4;simp[zdX,zsH,zax,dIf,dTB,zsC,dC,atI,ixN,zaX,dOp,zqf,zrb,zeL,zab,zsx,zte,zbb,dNx,zaU,h0,h1,ea,ec,sa,sc,s1,s2,s3]
theorem zlj:∀(n:Nat)(d:Dt),okN n d=true->okN (n+1) d=true
 |_,.non,_=>by simp[okN]
 |_,.bl _,_=>by simp[okN]
 |_,.int _,_=>by simp[okN]
 |n,.str x,h=>by cases n <;> simpa [okN] using h
 |0,.tup l,h=>by simp[okN] at h
 |0,.lst l,h=>by simp[okN] at h
 |n+1,.tup l,h=>by simp only[okN,List.all_eq_true] at h ⊢;exact λd hd=>zlj n d (h d hd)
 |n+1,.lst l,h=>by simp only[okN,List.all_eq_true] at h ⊢;exact λd hd=>zlj n d (h d hd)
 |n,.dct _,h=>by cases n <;> simp[okN] at h
 |n,.scr _,h=>by cases n <;> simp[okN] at h
theorem zpm{n m:Nat}{d:Dt}(h:okN n d=true)(hl:n<=m):okN m d=true:=by
 induction hl with
 |refl=>exact h
 |step _ ih=>exact zlj _ _ ih
theorem zls{n:Nat}{v:Int}(h0:0<=v)(h1:v<n):ixN n v=some v.toNat:=by unfold ixN;rw[if_pos h0,if_pos h1]
theorem zfM{α:Type}:∀{l:List α}{j:Nat}{d:α},l[j]? = some d->(d::l.eraseIdx j).Perm l
 |[],_,_,h=>by simp at h
 |a::l,0,d,h=>by simp at h;subst h;exact .refl _
 |a::l,j+1,d,h=>by have:=zfM (l:=l) (j:=j) (d:=d) (by simpa using h);exact (List.Perm.swap a d _).trans (this.cons a)
theorem zbt{neg:Bool}{x y:Dt}(h1:okN 60 x=true)(h2:okN 60 y=true):gEq neg x y=.ok (.bl (if neg then !eqD x y else eqD x y)):=by unfold gEq;rw[h1,h2];rfl
theorem zfo{d:Dt}{l:List Dt}:eqD (.lst (d::l)) (.lst [])=false:=by rw[eqD];simp[zg6]
theorem zcq:eqD (.lst []) (.lst [])=true:=by rw[eqD,zg6]
theorem zyN{st found l:List Dt}{o:Option B}{b:Bool}(h:okN 60 (.lst l)=true)(e:(!eqD (.lst l) (.lst []))=b):dTB (zwP true 2 (dFz (zc7 dA0))) [some (.own st),o,some (.own l),some (.own found)]=.ok (b,[some (.own st),o,some (.own l),some (.own found)]):=by show (((gEq true (.lst l) (.lst [])).bind λz=>.ok (z,[some (.own st),o,some (.own l),some (.own found)])).bind λ(a:Dt×Ev)=>match a.1 with|.bl b=>.ok (b,a.2)|_=>.no)=_;rw[zbt h rfl];simp only[if_true,e];rfl
theorem zjU{things:Option B}:∀(n:Nat)(left found:List Dt)(st:List Dt),left.length<n->left.length+found.length<=1000->(∀ d∈left,okN 59 d=true)->St st->∃ st' p,St st'/\p.Perm left /\
  zbG (dTB (zwP true 2 (dFz (zc7 dA0)))) (dEx (zew 3 (zjS 2 (zai zap (dRO 0 (dR (zpN 2) dR0)))))) n [some (.own st),things,some (.own left),some (.own found)]=.ok (.nx,[some (.own st'),things,some (.own []),some (.own (found++p))])
 |0,left,found,st,h,_,_,_=>absurd h (Nat.not_lt_zero _)
 |n+1,[],found,st,h,hl,hk,hs=>by refine ⟨st,[],hs,.refl _,?_⟩;unfold zbG;rw[zyN (b:=false) rfl (by rw[zcq];rfl)];simp
 |n+1,d::left,found,st,h,hl,hk,hs=>by
  obtain ⟨v,st1,e,hs1,v0,v1⟩:=zdb (m:=((d::left).length:Nat)) hs (by simp only[wan];lia) (by simp only[wan] at hl ⊢;lia);have hv:v.toNat<(d::left).length:=by lia
  have hget:(d::left)[v.toNat]? = some (d::left)[v.toNat]:=by simp[hv]
  have hel:=zfM hget;have hlen:((d::left).eraseIdx v.toNat).length=left.length:=by have:=hel.length_eq;simp only[wan] at this;lia
  obtain ⟨st',p,hs',hp,hw⟩:=zjU (things:=things) n ((d::left).eraseIdx v.toNat) (found++[(d::left)[v.toNat]]) st1 (by simp only[wan] at h;lia) (by simp only[wav,wan,List.length_nil] at hl ⊢;lia)
   (λx hx=>hk x (hel.mem_iff.mp (wah _ hx))) hs1
  refine ⟨st',(d::left)[v.toNat]::p,hs',((hp.cons _).trans hel),?_⟩;have hall:((d::left).all (okN 59))=true:=List.all_eq_true.mpr hk;have ec:zai zap (dRO 0 (dR (zpN 2) dR0)) [some (.own st),things,some (.own (d::left)),some (.own found)]=.ok (.int v,[some (.own st1),things,some (.own (d::left)),some (.own found)]):=zhG (Z:=[some (.own st),things,some (.own (d::left)),some (.own found)]) rfl rfl e;have hm:zdx v=true:=by unfold zdx;simp;simp only[wan] at hl v1;lia
  unfold zbG;have t1:=zyN (st:=st) (found:=found) (l:=d::left) (o:=things) (b:=true) (show okN 60 (.lst (d::left))=true from hall) (by rw[zfo];rfl);rw[t1];simp only[R.bind_ok,if_true];have t2:dEx (zew 3 (zjS 2 (zai zap (dRO 0 (dR (zpN 2) dR0))))) [some (.own st),things,some (.own (d::left)),some (.own found)]=.ok (.nx,[some (.own st1),things,some (.own ((d::left).eraseIdx v.toNat)),some (.own (found++[(d::left)[v.toNat]]))]):=by
   have hpop:zts (d::left) v=some ((d::left)[v.toNat],(d::left).eraseIdx v.toNat):=by unfold zts;rw[if_pos hm,zls v0 v1];simp only[hget]
   unfold dEx zew zjS;simp only[List.getElem?_cons_succ,List.getElem?_cons_zero,ec,R.bind_ok,hpop,List.set_cons_succ,List.set_cons_zero];rw[if_pos xwl];rfl
  rw[t2];simp only[R.bind_ok];rw[hw];simp
theorem zp6{l:List Dt}{st:List Dt}(hs:St st)(hl:l.length<10)(hk:∀ d∈l,okN 59 d=true):∃ st' p,St st'/\p.Perm l/\zcl [.own st,.val (.lst l)]=.ok (.lst p,[.own st',.val .non]):=by
 obtain ⟨st',p,hs',hp,hw⟩:=zjU (things:=some (.val (.lst l))) 10 l [] st hl (by simp;lia) hk hs;refine ⟨st',p,hs',hp,?_⟩;have hd:zdn [some (.own st),some (.val (.lst l)),none,none]=.ok (.rt (.lst p),[some (.own st'),some (.val (.lst l)),some (.own []),some (.val (.lst p))]):=by unfold zdn;have e1:zcY 2 (zem zjB (dA (zab 1) dA0)) [some (.own st),some (.val (.lst l)),none,none]=.ok (.nx,[some (.own st),some (.val (.lst l)),some (.own l),none]):=rfl;have e2:zcY 3 (zc7 dA0) [some (.own st),some (.val (.lst l)),some (.own l),none]=.ok (.nx,[some (.own st),some (.val (.lst l)),some (.own l),some (.own [])]):=rfl;unfold zax;rw[e1];simp only[R.bind_ok];rw[e2];simp only[R.bind_ok];rw[hw];rfl
 exact zak rfl hd rfl
theorem zao{g:Dt->Dt->R Dt}{fa fb:De}{Z Z1 Z2:Ev}{d e z:Dt}(h1:fa Z=.ok (d,Z1))(h2:fb Z1=.ok (e,Z2))(h3:g d e=.ok z):dOp g fa fb Z=.ok (z,Z2):=by unfold dOp;rw[h1];simp only[R.bind_ok,h2,h3]
theorem za4{f:De}{Z Z1:Ev}{b:Bool}(h:f Z=.ok (.bl b,Z1)):dTB f Z=.ok (b,Z1):=by unfold dTB;rw[h];rfl
theorem zdG{c:DT}{f g:DS}{Z Z1:Ev}(h:c Z=.ok (true,Z1)):dIf c f g Z=f Z1:=by unfold dIf;rw[h];rfl
theorem zbF{c:DT}{f g:DS}{Z Z1:Ev}(h:c Z=.ok (false,Z1)):dIf c f g Z=g Z1:=by unfold dIf;rw[h];rfl
theorem zag{f g:DS}{Z Z1:Ev}(h:f Z=.ok (.nx,Z1)):zax f g Z=g Z1:=by unfold zax;rw[h];rfl
theorem zb1{f g:DS}{Z Z1:Ev}{d:Dt}(h:f Z=.ok (.rt d,Z1)):zax f g Z=.ok (.rt d,Z1):=by unfold zax;rw[h];rfl
theorem zba{f:De}{Z Z1:Ev}{d:Dt}(h:f Z=.ok (d,Z1)):zbb f Z=.ok (.rt d,Z1):=by unfold zbb;rw[h];rfl
theorem zaE{f:De}{i:Nat}{Z Z1:Ev}{d:Dt}(h:f Z=.ok (d,Z1))(hi:i < Z1.length):zaX i f Z=.ok (.nx,Z1.set i (some (.val d))):=by unfold zaX;rw[h];simp only[R.bind_ok,hi,if_true]
theorem zlp{f:DN}{i:Nat}{Z Z1:Ev}{d:List Dt}(h:f Z=.ok (d,Z1))(hi:i < Z1.length):zcY i f Z=.ok (.nx,Z1.set i (some (.own d))):=by unfold zcY;rw[h];simp only[R.bind_ok,hi,if_true]
theorem zaL{f:DN}{Z Z1:Ev}{d:List Dt}(h:f Z=.ok (d,Z1)):dFz f Z=.ok (.lst d,Z1):=by unfold dFz;rw[h];rfl
theorem zeY{f:De}{Z Z1:Ev}{d:Dt}(h:f Z=.ok (d,Z1)):dEx f Z=.ok (.nx,Z1):=by unfold dEx;rw[h];rfl
theorem zcf{g:List Dt->R Dt}{f:De}{Z Z1:Ev}{d z:Dt}(h:f Z=.ok (d,Z1))(hg:g [d]=.ok z):dFn g (dA f dA0) Z=.ok (z,Z1):=by unfold dFn dA dA0;rw[h];simp only[R.bind_ok,hg]
theorem zgE{f g:DT}{Z Z1:Ev}(h:f Z=.ok (false,Z1)):zgH f g Z=g Z1:=by unfold zgH;rw[h];rfl
theorem zn6{f g:DT}{Z Z1:Ev}(h:f Z=.ok (true,Z1)):zk5 f g Z=g Z1:=by unfold zk5;rw[h];rfl
theorem zsm{f g:DT}{Z Z1:Ev}(h:f Z=.ok (false,Z1)):zk5 f g Z=.ok (false,Z1):=by unfold zk5;rw[h];rfl
theorem zfJ{f:DT}{Z Z1:Ev}{b:Bool}(h:f Z=.ok (b,Z1)):zcp f Z=.ok (!b,Z1):=by unfold zcp;rw[h];rfl
theorem zrE{Z0:Ev}{o:Option B}{d:Dt}:zbr Z0.length d (Z0++[o])=.ok (Z0++[some (.val d)]):=by unfold zbr;rw[if_pos xws];simp
theorem zlC{α:Type}{u f:α->Dt}{fe:De}{Z0:Ev}:∀{l:List α}{o:Option B},(∀ a∈l,fe (Z0++[some (.val (u a))])=.ok (f a,Z0++[some (.val (u a))]))->∃ o',zc8 (zbr Z0.length) dTT fe (l.map u) (Z0++[o])=.ok (l.map f,Z0++[o'])
 |[],o,_=>⟨o,rfl⟩
 |a::l,o,h=>by obtain ⟨o',e⟩:=zlC (l:=l) (o:=some (.val (u a))) λb hb=>h b (by simp[hb]);refine ⟨o',?_⟩;rw[List.map_cons,zc8,zrE];simp only[R.bind_ok,dTT,if_true];rw[h a xws];simp only[R.bind_ok];rw[e];rfl
theorem zdz{α:Type}{u f:α->Dt}{fe:De}{Z0:Ev}{fi:DA}{l:List α}{ds:List Dt}(hi:fi Z0=.ok (ds,Z0))(hd:ds=l.map u)(hl:l.length<=1000)(h:∀ a∈l,fe (Z0++[some (.val (u a))])=.ok (f a,Z0++[some (.val (u a))])){j:Nat}(hj:j = Z0.length) :
  zbh fi (zbr j) dTT fe 1 Z0=.ok (l.map f,Z0):=by
 subst hd;subst hj;obtain ⟨o',e⟩:=zlC (o:=none) h;unfold zbh;rw[hi];simp only[R.bind_ok];rw[if_pos (by unfold zia;simp;lia)];show (match zc8 (zbr Z0.length) dTT fe (l.map u) (Z0++[none]) with|.ok z=>R.ok (z.1,z.2.take Z0.length)|_=>.no)=_;rw[e];simp
theorem zfI{α:Type}{a:α}{l:List α}:atI (a::l) 0=some a:=by unfold atI ixN;simp
theorem eqI{a b:Int}:eqD (.int a) (.int b)=(a == b):=by rw[eqD]
theorem zlx{x:Option B}{zby:Ev}{o:Option B}{d:Dt}:zbr (zby.length+1) d (x::(zby++[o]))=.ok (x::(zby++[some (.val d)])):=by unfold zbr;rw[if_pos xws];simp
theorem zrL{α β:Type}{Rl:α->β->Prop}{u:α->Dt}{v:β->Dt}{fe:De}{zby:Ev}:∀{l:List α}{st:List Dt}{o:Option B},
  (∀ a∈l,∀ st,St st->∃ y st',St st'/\Rl a y/\fe (some (.own st)::(zby++[some (.val (u a))]))=.ok (v y,some (.own st')::(zby++[some (.val (u a))])))->St st ->
  ∃ ys st' o',St st'/\Paired Rl l ys/\zc8 (zbr (zby.length+1)) dTT fe (l.map u) (some (.own st)::(zby++[o]))=.ok (ys.map v,some (.own st')::(zby++[o']))
 |[],st,o,_,hs=>⟨[],st,o,hs,.nil,rfl⟩
 |a::l,st,o,h,hs=>by obtain ⟨y,st1,hs1,hr,e1⟩:=h a xws st hs;obtain ⟨ys,st',o',hs',hp,e⟩:=zrL (l:=l) (st:=st1) (o:=some (.val (u a))) (λb hb=>h b (wah _ hb)) hs1;refine ⟨y::ys,st',o',hs',.cons hr hp,?_⟩;rw[List.map_cons,zc8,zlx];simp only[R.bind_ok,dTT,if_true];rw[e1];simp only[R.bind_ok];rw[e];rfl
theorem zta{α β:Type}{Rl:α->β->Prop}{u:α->Dt}{v:β->Dt}{fe:De}{zby:Ev}{fi:DA}{Z:Ev}{l:List α}{ds:List Dt}{st:List Dt}{j:Nat}(hi:fi Z=.ok (ds,some (.own st)::zby))(hd:ds=l.map u)(hl:l.length<=1000)(hj:j=zby.length+1)
  (h:∀ a∈l,∀ st,St st->∃ y st',St st'/\Rl a y/\fe (some (.own st)::(zby++[some (.val (u a))]))=.ok (v y,some (.own st')::(zby++[some (.val (u a))]))) (hs:St st) :
  ∃ ys st',St st'/\Paired Rl l ys/\zbh fi (zbr j) dTT fe 1 Z=.ok (ys.map v,some (.own st')::zby):=by
 subst hd;subst hj;obtain ⟨ys,st',o',hs',hp,e⟩:=zrL (o:=none) h hs;refine ⟨ys,st',hs',hp,?_⟩;unfold zbh;rw[hi];simp only[R.bind_ok];rw[if_pos (by unfold zia;simp only[List.length_map,decide_eq_true_eq];lia)];show (match zc8 (zbr (zby.length+1)) dTT fe (l.map u) (some (.own st)::(zby++[none])) with|.ok z=>R.ok (z.1,z.2.take (zby.length+1))|_=>.no)=_;rw[e];simp
theorem zmq{p:List Dt}{l:List Int}(h:p.Perm (l.map .int)):∃ q:List Int,q.Perm l/\p=q.map .int:=by
 refine ⟨p.map λd=>match d with|.int i=>i|_=>0,?_,?_⟩
 ·have:=h.map λd=>match d with|.int i=>i|_=>0
  rw[List.map_map] at this;have e:((λd=>match d with|.int i=>i|_=>0) ∘ Dt.int)=(id:Int->Int):=rfl;rw[e,List.map_id] at this;exact this
 ·rw[List.map_map]
  conv=>lhs;rw[<- List.map_id p]
  refine List.map_congr_left λd hd=>?_;obtain ⟨i,_,rfl⟩:=List.mem_map.mp (h.mem_iff.mp hd);rfl
noncomputable def isW:Dt->Bool
 |.int _=>true
 |_=>false
theorem zqh(d:Dt):zer [.val d]=.ok (.bl (isW d),[.val .non]):=by
 cases d <;> simp[zer,zav,zjR,zdX,zsH,zbb,zql,zhw,zab,zyP,zyZ,tyD,zaU,isW]
theorem zkU{n:Int}(h1:1<=n)(h7:n<=7):zbD [.val (.int n)]=.ok (.non,[.val .non]):=by
 have e:zai zer (dR (zab 0) dR0) [some (.val (.int n))]=.ok (.bl true,[some (.val (.int n))]):=zdf (Z':=[some (.val (.int n))]) rfl (zqh _);have a1:decide (n<1)=false:=by simp;lia
 have a2:decide (7<n)=false:=by simp;lia
 simp[zbD,zav,zgb,zdX,zsH,dIf,zgH,zcp,dTB,e,dOp,zab,dC,zrl,a1,a2,dNx,zaU]
theorem zsd{neg:Bool}{i j:Int}:gEq neg (.int i) (.int j)=.ok (.bl (if neg then !(i == j) else (i == j))):=by rw[zbt rfl rfl,eqI]
theorem zub{Z0:Ev}{o:Option B}{d:Dt}:zbr Z0.length d (Z0++[o])=.ok (Z0++[some (.val d)]):=by unfold zbr;rw[if_pos xws];simp
theorem zlb:∀ a b:List Int,zg6 (a.map .int) (b.map .int)=(a == b)
 |[],[]=>by rw[List.map_nil,zg6];rfl
 |[],b::r=>by rw[List.map_nil,List.map_cons,zg6];rfl;all_goals (intros;simp at *)
 |a::r,[]=>by rw[List.map_nil,List.map_cons,zg6];rfl;all_goals (intros;simp at *)
 |a::r,b::q=>by rw[List.map_cons,List.map_cons,zg6,eqI,zlb r q];rfl
theorem ztG(l:List Int)(n:Nat):okN (n+1) (.lst (l.map .int))=true:=by simp[okN]
noncomputable def zaW(n:Nat):List Int:=(List.range n).map λ(k:Nat)=>(k:Int)
theorem zkM(n:Nat):zch 0 n=(zaW n).map .int:=by unfold zch zaW;rw[List.map_map];refine List.map_congr_left λk _=>?_;simp
theorem zho(i:Int):∀ l:List Int,inD (.int i) (l.map .int)=decide (i∈l)
 |[]=>by simp[inD]
 |a::r=>by
  have:=zho i r;unfold inD at this ⊢;rw[List.map_cons,List.any_cons,this,eqI];by_cases h:a=i
  ·subst h;simp
  ·have h':¬ i=a:=λz=>h z.symm;by_cases h2:i∈r <;> simp[h,h',h2]
theorem zfN:∀(a b:List Int),a.Nodup->(∀ x∈a,x∈b)->b.length<=a.length->a.Perm b
 |[],b,_,_,h=>by have:b=[]:=List.length_eq_zero_iff.mp (by simpa using h);subst this;exact .refl _
 |x::a,b,hn,hs,hl=>by rw[List.nodup_cons] at hn;have hx:x∈b:=hs x xws;have hp:=List.perm_cons_erase hx;have hlen:=hp.length_eq;simp only[wan] at hlen hl;have:=zfN a (b.erase x) hn.2 (λy hy=>(List.mem_erase_of_ne (λ(e:y=x)=>hn.1 (e ▸ hy))).mpr (hs y (by simp[hy]))) xwl;exact (this.cons x).trans hp.symm
theorem zcw{n:Nat}{x:Int}:x∈zaW n ↔ 0<=x/\x<n:=by
 unfold zaW;rw[List.mem_map];constructor
 ·rintro ⟨k,hk,rfl⟩;have:=List.mem_range.mp hk;lia
 ·rintro ⟨h0,h1⟩;exact ⟨x.toNat,List.mem_range.mpr xwl,xwl⟩
theorem zbB(n:Nat):(zaW n).length=n:=by unfold zaW;simp
theorem zpy(n:Nat):(zaW n).Pairwise (· <= ·):=by unfold zaW;rw[List.pairwise_map];refine List.Pairwise.imp (R:=λa b=>a<b) (λ{a b} h=>by lia) List.pairwise_lt_range
theorem zdI(n:Nat):(zaW n).Nodup:=by unfold zaW;unfold List.Nodup;rw[List.pairwise_map];refine List.Pairwise.imp (R:=λa b=>a<b) (λ{a b} h=>by lia) List.pairwise_lt_range
theorem zjO{n:Nat}{l:List Int}:zaK l=zaW n ↔ l.Nodup/\(∀ x∈l,0<=x/\x<n)/\l.length=n:=by
 constructor
 ·intro h;have hp:l.Perm (zaW n):=by rw[<- h];exact (zaw l).symm
  exact ⟨hp.nodup_iff.mpr (zdI n),λx hx=>zcw.mp (hp.mem_iff.mp hx),by rw[hp.length_eq,zbB]⟩
 ·rintro ⟨h1,h2,h3⟩;have hp:l.Perm (zaW n):=zfN _ _ h1 (λx hx=>zcw.mpr (h2 x hx)) (by rw[zbB];lia);exact W.lks_uniq ((zaw l).trans hp) (zbO l) (zpy n)
theorem ziL{α:Type}{l:List α}{v:Int}(h0:0<=v)(h1:v<l.length):atI l v=l[v.toNat]? := by unfold atI;rw[zls h0 h1];rfl
theorem zn4{l:List Dt}{v:Int}{d:Dt}(h0:0<=v)(h1:v<l.length)(hd:l[v.toNat]? = some d):gIx (.tup l) (.int v)=.ok d:=by unfold gIx;simp only[ziL h0 h1,hd]
theorem zpD{fa:De}{fr:DA}{Z Z1 Z2:Ev}{d:Dt}{ds:List Dt}(h1:fa Z=.ok (d,Z1))(h2:fr Z1=.ok (ds,Z2)):dA fa fr Z=.ok (d::ds,Z2):=by unfold dA;rw[h1];simp only[R.bind_ok];rw[h2];rfl
theorem zvR{f:DA}{Z Z1:Ev}{ds:List Dt}(h:f Z=.ok (ds,Z1))(hl:ds.length<=16777216):zc7 f Z=.ok (ds,Z1):=by unfold zc7;rw[h];simp only[R.bind_ok];rw[if_pos (by unfold zia;simpa using hl)]
theorem zrz{f:DA}{Z Z1:Ev}{ds:List Dt}(h:f Z=.ok (ds,Z1))(hl:ds.length<=16777216):zd1 f Z=.ok (.tup ds,Z1):=by unfold zd1;rw[h];simp only[R.bind_ok];rw[if_pos (by unfold zia;simpa using hl)]
theorem zs4{ns:List Int}{k:Nat}:∃ c:Int,zcO [.val (.scr ns),.val (.int k)]=.ok (.int c,[.val .non,.val .non]):=by
 have e0:dTB (dOp gLt (zab 1) (dFn zcb (dA (zab 0) dA0))) [some (.val (.scr ns)),some (.val (.int k))]=.ok (decide ((k:Int)<ns.length),[some (.val (.scr ns)),some (.val (.int k))]):=za4 (zao (d:=.int k) (e:=.int ns.length) rfl rfl rfl);by_cases h:k<ns.length
 ·refine ⟨ns[k],zak (Z':=[some (.val (.scr ns)),some (.val (.int k))]) rfl ?_ rfl⟩;show zcj [some (.val (.scr ns)),some (.val (.int k))]=_;unfold zcj;refine zb1 ?_;rw[zdG (by rw[e0,decide_eq_true xwl])];refine zba (zao (d:=.scr ns) (e:=.int k) rfl rfl ?_);unfold gIx;simp only[ziL (l:=ns) (v:=(k:Int)) xwl xwl,Int.toNat_natCast,wac h]
 ·refine ⟨0,zak (Z':=[some (.val (.scr ns)),some (.val (.int k))]) rfl ?_ rfl⟩;show zcj [some (.val (.scr ns)),some (.val (.int k))]=_;unfold zcj;rw[zag (Z1:=[some (.val (.scr ns)),some (.val (.int k))]) (by rw[zbF (by rw[e0,decide_eq_false xwl])];rfl)];rfl
theorem zpH{ns:List Int}{k:Nat}:∃ st,St st/\zcZ [.val (.scr ns),.val (.int k)]=.ok (.lst st,[.val .non,.val .non]):=by
 obtain ⟨c,hc⟩:=zs4 (ns:=ns) (k:=k);have e1:zaX 2 (zai zcO (dR (zab 0) (dR (zab 1) dR0))) [some (.val (.scr ns)),some (.val (.int k)),none]=.ok (.nx,[some (.val (.scr ns)),some (.val (.int k)),some (.val (.int c))]):=zaE (zdv (Z':=[some (.val (.scr ns)),some (.val (.int k)),none]) (Z'':=[some (.val (.scr ns)),some (.val (.int k)),none]) rfl rfl hc) xws;have ep:dOp ztX (dC (.int 10)) (dC (.int 18)) [some (.val (.scr ns)),some (.val (.int k)),some (.val (.int c))]=.ok (.int 1000000000000000000,[some (.val (.scr ns)),some (.val (.int k)),some (.val (.int c))]):=by refine zao rfl rfl ?_;show (if 0<=(18:Int)/\(18:Int)<=1000/\(10:Int).natAbs<18446744073709551616 then R.ok (Dt.int ((10:Int) ^ (18:Int).toNat)) else R.no)=_;rw[if_pos xwd];rfl
 have e2:dTB (dOp gGe (zab 2) (dOp ztX (dC (.int 10)) (dC (.int 18)))) [some (.val (.scr ns)),some (.val (.int k)),some (.val (.int c))]=.ok (decide ((1000000000000000000:Int)<=c),[some (.val (.scr ns)),some (.val (.int k)),some (.val (.int c))]):=za4 (zao (d:=.int c) rfl ep rfl);by_cases h:(1000000000000000000:Int)<=c
 ·refine ⟨[.int (c-1000000000000000000),.bl true],⟨_,_,rfl⟩,zak (Z':=[some (.val (.scr ns)),some (.val (.int k)),some (.val (.int c))]) rfl ?_ rfl⟩;show zcT [some (.val (.scr ns)),some (.val (.int k)),none]=_;unfold zcT;rw[zag e1];refine zb1 ?_;rw[zdG (by rw[e2,decide_eq_true h])];unfold zeb zc7;rw[dA,zao (d:=.int c) (z:=.int (c-1000000000000000000)) rfl ep rfl];rfl
 ·refine ⟨[.int (c % 2147483647),.bl false],⟨_,_,rfl⟩,zak (Z':=[some (.val (.scr ns)),some (.val (.int k)),some (.val (.int c))]) rfl ?_ rfl⟩;show zcT [some (.val (.scr ns)),some (.val (.int k)),none]=_;unfold zcT;rw[zag e1,zag (Z1:=[some (.val (.scr ns)),some (.val (.int k)),some (.val (.int c))]) (by rw[zbF (by rw[e2,decide_eq_false h])];rfl)];unfold zeb zc7;rw[dA,zao (d:=.int c) (z:=.int (c % 2147483647)) rfl rfl rfl];rfl
theorem zhA{F:FD}{fa fb:De}{Z Z' Z'':Ev}{d e:Dt}{y:List Dt}{l:List B}(h:fa Z=.ok (d,Z'))(h2:fb Z'=.ok (e,Z''))(hF:F [.val d,.val e]=.ok (.lst y,l)):zaZ F (dR fa (dR fb dR0)) Z=.ok (y,Z''):=by unfold zaZ dR dR0;rw[h];simp only[R.bind_ok,h2,zpI,zbH,if_true,zaM,hF];rw[znZ]
inductive Tr where
 |lf (i:Int)|nd (row:Bool) (l:List Tr)
noncomputable def wd(r:Bool):Str:=if r then Str.ofString "row" else Str.ofString "any"
mutual
noncomputable def toD:Tr->Dt
 |.lf i=>.int i
 |.nd r l=>.tup [.str (wd r),.tup (zka l)]
noncomputable def zka:List Tr->List Dt
 |[]=>[]
 |t::r=>toD t::zka r
end
mutual
noncomputable def zad:Tr->List Int
 |.lf i=>[i]
 |.nd _ l=>zae l
noncomputable def zae:List Tr->List Int
 |[]=>[]
 |t::r=>zad t++zae r
end
mutual
noncomputable def dep:Tr->Nat
 |.lf _=>1
 |.nd _ l=>zdt l+1
noncomputable def zdt:List Tr->Nat
 |[]=>0
 |t::r=>max (dep t) (zdt r)
end
mutual
noncomputable def okT:Tr->Bool
 |.lf _=>true
 |.nd r l=>decide ((if r then 3 else 2)<=l.length) && ziC l
noncomputable def ziC:List Tr->Bool
 |[]=>true
 |t::r=>okT t && ziC r
end
theorem zaY:∀ l:List Tr,zka l=l.map toD
 |[]=>by simp[zka]
 |t::r=>by simp[zka,zaY r]
theorem zaO:∀ l:List Tr,zae l=l.flatMap zad
 |[]=>by simp[zae]
 |t::r=>by simp[zae,zaO r]
theorem zcM:∀ l:List Tr,ziC l=l.all okT
 |[]=>by simp[ziC]
 |t::r=>by simp[ziC,zcM r]
theorem zaS{n:Nat}:∀{l:List Tr},zdt l<=n ↔ ∀ t∈l,dep t<=n
 |[]=>by simp[zdt]
 |t::r=>by have:=zaS (n:=n) (l:=r);simp only[zdt,wap,forall_eq_or_imp];rw[<- this];lia
theorem zbL:∀(n:Nat)(t:Tr),dep t<=n->okT t=true->zad t≠[]
 |n,.lf i,_,_=>by simp[zad]
 |0,.nd r l,h,_=>by simp[dep] at h
 |n+1,.nd r l,h,ho=>by
  simp only[dep,okT,wae,war] at h ho;cases l with
  |nil=>have:=ho.1;cases r <;> simp at this
  |cons t q =>
   simp only[ziC,wae] at ho;have:=zbL n t (by simp only[zdt] at h;lia) ho.2.1;simp only[zad,zae];intro z;exact this (List.append_eq_nil_iff.mp z).1
theorem zkr{α:Type}{u:α->Dt}{f:α->List Dt}{fe:DN}{Z0:Ev}:∀{l:List α}{o:Option B},(∀ a∈l,fe (Z0++[some (.val (u a))])=.ok (f a,Z0++[some (.val (u a))]))->∃ o',zeV (zbr Z0.length) dTT fe (l.map u) (Z0++[o])=.ok (l.map f,Z0++[o'])
 |[],o,_=>⟨o,rfl⟩
 |a::l,o,h=>by obtain ⟨o',e⟩:=zkr (l:=l) (o:=some (.val (u a))) λb hb=>h b (wah _ hb);refine ⟨o',?_⟩;rw[List.map_cons,zeV,zrE];simp only[R.bind_ok,dTT,if_true];rw[h a xws];simp only[R.bind_ok];rw[e];rfl
theorem ziH{g:Int}:∀{l:List (List Int)}{j:Nat}{p:List Int},l[j]? = some p->(l.set j (p++[g])).flatten.Perm (l.flatten++[g])
 |[],j,p,h=>by simp at h
 |a::l,0,p,h=>by simp at h;subst h;simp only[List.set_cons_zero,List.flatten_cons,List.append_assoc];exact List.Perm.append_left _ List.perm_append_comm
 |a::l,j+1,p,h=>by have:=ziH (g:=g) (l:=l) (j:=j) (p:=p) (by simpa using h);simp only[List.set_cons_succ,List.flatten_cons,List.append_assoc];exact this.append_left a
noncomputable def lz(p:List Int):List Dt:=p.map .int
theorem zna{g r b6:Option B}{m:Nat}:∀{gs:List Int}{pss:List (List Int)}{st:List Dt}{o:Option B},0<m->m<=100->pss.length=m->(∀ p∈pss,p≠[])->pss.flatten.length+gs.length<=1000->St st ->
  ∃(pss':List (List Int))(st':List Dt)(o':Option B),St st'/\pss'.length=m/\(∀ p∈pss',p≠[])/\pss'.flatten.Perm (pss.flatten++gs) /\
   zps (zbr 5) (dEx (zlA 4 5 (zai zap (dRO 0 (dR (zab 3) dR0))))) (gs.map .int) [some (.own st),g,r,some (.val (.int m)),some (.own2 (pss.map lz)),o,b6]=.ok (.nx,[some (.own st'),g,r,some (.val (.int m)),some (.own2 (pss'.map lz)),o',b6])
 |[],pss,st,o,_,_,hl,hne,_,hs=>⟨pss,st,o,hs,hl,hne,xws,rfl⟩
 |x::gs,pss,st,o,m0,m1,hl,hne,hb,hs=>by
  obtain ⟨v,st1,e,hs1,v0,v1⟩:=zdb (m:=(m:Nat)) hs xwl xwl;have hj:v.toNat<pss.length:=by lia
  obtain ⟨p,hp⟩ : ∃ p,pss[v.toNat]? = some p:=⟨_,wac hj⟩
  have hfs:=ziH (g:=x) hp;have hpl:p.length<=pss.flatten.length:=(List.sublist_flatten_of_mem (waH hp)).length_le;obtain ⟨pss',st',o',hs',hl',hne',hp',e'⟩:=zna (g:=g) (r:=r) (b6:=b6) (m:=m) (gs:=gs) (pss:=pss.set v.toNat (p++[x])) (st:=st1) (o:=some (.val (.int x))) m0 m1 (by simpa using hl) (λq hq=>by
    rcases List.mem_or_eq_of_mem_set hq with z|z
    ·exact hne q z
    ·rw[z];simp) (by rw[hfs.length_eq];simp only[wav,wan,List.length_nil] at hb ⊢;lia) hs1
  refine ⟨pss',st',o',hs',hl',hne',?_,?_⟩
  ·refine hp'.trans ((hfs.append_right gs).trans ?_);simp
  ·rw[List.map_cons,zps];show ((dEx (zlA 4 5 (zai zap (dRO 0 (dR (zab 3) dR0))))) [some (.own st),g,r,some (.val (.int m)),some (.own2 (pss.map lz)),some (.val (.int x)),b6]).bind _=_;have ec:=zhG (F:=zap) (fb:=zab 3) (i:=0) (Z:=[some (.own st),g,r,some (.val (.int m)),some (.own2 (pss.map lz)),some (.val (.int x)),b6]) rfl rfl e;have eB:dEx (zlA 4 5 (zai zap (dRO 0 (dR (zab 3) dR0)))) [some (.own st),g,r,some (.val (.int m)),some (.own2 (pss.map lz)),some (.val (.int x)),b6]=.ok (.nx,[some (.own st1),g,r,some (.val (.int m)),some (.own2 ((pss.set v.toNat (p++[x])).map lz)),some (.val (.int x)),b6]):=by
    refine zeY (d:=.non) ?_;have hx:(pss.map lz)[v.toNat]? = some (lz p):=by rw[List.getElem?_map,hp];rfl
    have hix:ixN (pss.map lz).length v=some v.toNat:=zls v0 (by rw[List.length_map];lia);unfold zlA;simp only[List.getElem?_cons_succ,List.getElem?_cons_zero,ec,R.bind_ok,List.set_cons_zero,hix,hx];rw[if_pos (by unfold lz;rw[List.length_map];simp only[wan] at hb;lia)];simp only[List.set_cons_succ,List.set_cons_zero];rw[List.map_set];unfold lz;simp
   rw[eB];simp only[R.bind_ok];exact e'
theorem zyl{m:Nat}{pss:List (List Int)}(hl:pss.length=m)(h2:2<=m)(hne:∀ p∈pss,p≠[]):∀ p∈pss,p.length<pss.flatten.length:=by
 intro p hp;obtain ⟨a,b,rfl⟩:=List.append_of_mem hp;have:0<a.flatten.length+b.flatten.length:=by
  cases a with
  |cons q a =>
   have:=List.length_pos_iff.mpr (hne q xws);simp only[List.flatten_cons,wav];lia
  |nil =>
   cases b with
   |cons q b =>
    have:=List.length_pos_iff.mpr (hne q xws);simp only[List.flatten_cons,wav];lia
   |nil=>simp at hl;lia
 simp only[List.flatten_append,List.flatten_cons,wav];lia
noncomputable def zxc(p:List Int)(t:Tr):Prop:=okT t=true/\(zad t).Perm p/\dep t<=p.length
theorem zl9{k:Nat}:∀{pss:List (List Int)}{ts:List Tr},Paired zxc pss ts->(∀ p∈pss,p.length<=k)->ziC ts=true/\(zae ts).Perm pss.flatten/\zdt ts<=k/\ts.length=pss.length
 |_,_,.nil,_=>by simp[ziC,zae,zdt]
 |p::pss,t::ts,.cons h r,hk=>by obtain ⟨a1,a2,a3,a4⟩:=zl9 (k:=k) r λq hq=>hk q (wah _ hq);have:=hk p xws;obtain ⟨b1,b2,b3⟩:=h;simp only[ziC,zae,zdt,List.flatten_cons,wan];exact ⟨by rw[b1,a1];rfl,b2.append a2,xwl,xwl⟩
theorem ziW:∀(n:Nat)(gs:List Int)(st:List Dt),gs.length<=n->n<=8->1<=gs.length->gs.length<=7->St st->∃ t st',St st'/\zxc gs t/\zbe n [.own st,.val (.lst (gs.map .int))]=.ok (toD t,[.own st',.val .non])
 |0,gs,st,h,_,h1,_,_=>by lia
 |n+1,gs,st,h,h8,h1,h7,hs=>by
  by_cases hone:gs.length=1
  ·obtain ⟨g,rfl⟩:=List.length_eq_one_iff.mp hone;refine ⟨.lf g,st,hs,⟨rfl,.refl _,by simp[dep]⟩,zak (Z':=[some (.own st),some (.val (.lst [.int g])),none,none,none,none,none]) rfl ?_ rfl⟩;rw[toD];show zcE (zbe n) [some (.own st),some (.val (.lst [.int g])),none,none,none,none,none]=_;unfold zcE;refine zb1 ?_;rw[zdG (Z1:=[some (.own st),some (.val (.lst [.int g])),none,none,none,none,none]) (za4 (zao (d:=.int 1) (e:=.int 1) rfl rfl (by rw[zbt rfl rfl,eqI];rfl)))];rfl
  ·
   obtain ⟨st1,p,hs1,hp,e1⟩:=zp6 (l:=gs.map .int) hs (by rw[List.length_map];lia) (λd hd=>by obtain ⟨i,_,rfl⟩:=List.mem_map.mp hd;rfl);obtain ⟨q,hq,rfl⟩:=zmq hp;have hql:=hq.length_eq;obtain ⟨v,st2,e2,hs2,v0,v1⟩:=zdb (m:=(q.length:Int)-1) hs1 xwl xwl;obtain ⟨m,hm⟩ : ∃ m:Nat,(m:Int)=2+v:=⟨(2+v).toNat,xwl⟩
   have m2:2<=m:=by lia
   have mq:m<=q.length:=by lia
   have cut1:zjs (q.map Dt.int) none (some (m:Int))=(q.take m).map .int:=by unfold zjs;rw[HT.sIx_nat];simp only[HT.sIx_none,List.drop_zero,Nat.sub_zero,wag];rw[Nat.min_eq_left mq,List.map_take]
   have cut2:zjs (q.map Dt.int) (some (m:Int)) none=(q.drop m).map .int:=by unfold zjs;rw[HT.sIx_nat];simp only[HT.sIx_none,wag];rw[Nat.min_eq_left mq,List.map_drop,List.take_of_length_le xws]
   let G:Option B:=some (.val (.lst (gs.map .int)));let Rw:Option B:=some (.val (.lst (q.map .int)));let Mn:Option B:=some (.val (.int m));have x1:zaX 2 (zai zcl (dRO 0 (dR (zab 1) dR0))) [some (.own st),G,none,none,none,none,none]=.ok (.nx,[some (.own st1),G,Rw,none,none,none,none]) :=
    zaE (zhG (Z:=[some (.own st),G,none,none,none,none,none]) rfl rfl e1) xws
   have x2:zaX 3 (dOp zeL (dC (.int 2)) (zai zap (dRO 0 (dR (dOp zi1 (dFn zcb (dA (zab 2) dA0)) (dC (.int 1))) dR0)))) [some (.own st1),G,Rw,none,none,none,none]=.ok (.nx,[some (.own st2),G,Rw,Mn,none,none,none]):=by
    have ea:dOp zi1 (dFn zcb (dA (zab 2) dA0)) (dC (.int 1)) [some (.own st1),G,Rw,none,none,none,none]=.ok (.int ((q.length:Int)-1),[some (.own st1),G,Rw,none,none,none,none]):=by refine zao (d:=.int (q.map Dt.int).length) rfl rfl ?_;rw[List.length_map];rfl
    refine zaE (zao rfl (zhG (Z:=[some (.own st1),G,Rw,none,none,none,none]) rfl ea e2) (z:=.int m) ?_) xws;rw[hm];rfl
   obtain ⟨o7,c1⟩:=zkr (Z0:=[some (.own st2),G,Rw,Mn,none,none,none]) (u:=Dt.int) (f:=λg=>[.int g]) (fe:=zc7 (dA (zab 7) dA0)) (l:=q.take m) (o:=none) λg _=>rfl;have hpm:(q.take m).map (λg=>[Dt.int g])=((q.take m).map λg=>[g]).map lz:=by rw[List.map_map];rfl
   have x3:zo5 4 (dIt (dFz (zlS (zab 2) dO0 (dO1 (zab 3))))) (zbr 7) dTT (zc7 (dA (zab 7) dA0)) 1 [some (.own st2),G,Rw,Mn,none,none,none]=.ok (.nx,[some (.own st2),G,Rw,Mn,some (.own2 (((q.take m).map λg=>[g]).map lz)),none,none]):=by
    have ei:dIt (dFz (zlS (zab 2) dO0 (dO1 (zab 3)))) [some (.own st2),G,Rw,Mn,none,none,none]=.ok ((q.take m).map .int,[some (.own st2),G,Rw,Mn,none,none,none]):=by show R.ok (zjs (q.map Dt.int) none (some (m:Int)),_)=_;rw[cut1]
    unfold zo5;rw[ei];simp only[R.bind_ok];rw[if_pos (by unfold zia;simp only[List.length_map,List.length_take,decide_eq_true_eq];lia)];show (match zeV (zbr 7) dTT (zc7 (dA (zab 7) dA0)) ((q.take m).map .int) ([some (.own st2),G,Rw,Mn,none,none,none]++[none]) with|.ok z=>if 4<7 then R.ok (Fl.nx,(z.2.take 7).set 4 (some (.own2 z.1))) else .no|_=>.no)=_;have c1':zeV (zbr 7) dTT (zc7 (dA (zab 7) dA0)) ((q.take m).map .int) ([some (.own st2),G,Rw,Mn,none,none,none]++[none])=.ok ((q.take m).map (λg=>[Dt.int g]),[some (.own st2),G,Rw,Mn,none,none,none]++[o7]):=c1;rw[c1',hpm];rfl
   have hfl:((q.take m).map λg=>[g]).flatten=q.take m:=by
    induction q.take m with
    |nil=>rfl
    |cons a r ih=>simp[ih]
   obtain ⟨pss,st3,o5,hs3,hl3,hne3,hp3,e3⟩:=zna (g:=G) (r:=Rw) (b6:=none) (m:=m) (gs:=q.drop m) (pss:=(q.take m).map λg=>[g]) (st:=st2) (o:=none) xwl xwl (by rw[List.length_map,List.length_take];lia) (λp hp=>by obtain ⟨g,_,rfl⟩:=List.mem_map.mp hp;simp) (by rw[hfl,List.length_take,List.length_drop];lia) hs2;have hflp:pss.flatten.Perm gs:=by refine hp3.trans ?_;rw[hfl,List.take_append_drop];exact hq
   have x4:zh1 (dIt (dFz (zlS (zab 2) (dO1 (zab 3)) dO0))) (zbr 5) (dEx (zlA 4 5 (zai zap (dRO 0 (dR (zab 3) dR0))))) [some (.own st2),G,Rw,Mn,some (.own2 (((q.take m).map λg=>[g]).map lz)),none,none]=.ok (.nx,[some (.own st3),G,Rw,Mn,some (.own2 (pss.map lz)),o5,none]):=by
    have ei:dIt (dFz (zlS (zab 2) (dO1 (zab 3)) dO0)) [some (.own st2),G,Rw,Mn,some (.own2 (((q.take m).map λg=>[g]).map lz)),none,none]=.ok ((q.drop m).map .int,[some (.own st2),G,Rw,Mn,some (.own2 (((q.take m).map λg=>[g]).map lz)),none,none]):=by show R.ok (zjs (q.map Dt.int) (some (m:Int)) none,_)=_;rw[cut2]
    unfold zh1;rw[ei];exact e3
   have hlt:=zyl hl3 m2 hne3;have hfll:=hflp.length_eq;let Fz:Option B:=some (.val (.lst ((pss.map lz).map .lst)));obtain ⟨ts,st4,hs4,hp4,e4⟩:=zta (Rl:=zxc) (u:=λp=>.lst (lz p)) (v:=toD) (zby:=[G,Rw,Mn,Fz,o5,none]) (fi:=dIt (zhc 4)) (fe:=zai (zbe n) (dRO 0 (dR (zab 7) dR0))) (l:=pss) (ds:=(pss.map lz).map .lst) (j:=7) (Z:=[some (.own st3),G,Rw,Mn,some (.own2 (pss.map lz)),o5,none]) (st:=st3) rfl (by rw[List.map_map];rfl) xwl rfl
    (λp hp st' hs'=>by have:=hlt p hp;have hpos:=List.length_pos_iff.mpr (hne3 p hp);obtain ⟨t,st5,h5,h6,h7'⟩:=ziW n p st' xwl xwl xwl xwl hs';exact ⟨t,st5,h5,h6,zhG (Z:=some (.own st')::([G,Rw,Mn,Fz,o5,none]++[some (.val (.lst (lz p)))])) rfl rfl h7'⟩) hs3
   obtain ⟨k1,k2,k3,k4⟩:=zl9 (k:=gs.length-1) hp4 λp hp=>by have:=hlt p hp;lia
   have x5:zaX 6 (dFn zbI (dA (dFz (zbh (dIt (zhc 4)) (zbr 7) dTT (zai (zbe n) (dRO 0 (dR (zab 7) dR0))) 1)) dA0)) [some (.own st3),G,Rw,Mn,some (.own2 (pss.map lz)),o5,none]=.ok (.nx,[some (.own st4),G,Rw,Mn,Fz,o5,some (.val (.tup (ts.map toD)))]):=zaE (zcf (zaL e4) rfl) xws;have pre:∀ X,zcE (zbe n) [some (.own st),G,none,none,none,none,none]=X ↔ zax (dIf (zk5 (dTB (dOp gGt (zab 3) (dC (.int 2)))) (dTB (dOp (gEq false) (zai zap (dRO 0 (dR (dC (.int 2)) dR0))) (dC (.int 1))))) (zbb (zd1 (dA (dC (.str (Str.ofString "row"))) (dA (zab 6) dA0)))) dNx) (zbb (zd1 (dA (dC (.str (Str.ofString "any"))) (dA (zab 6) dA0)))) [some (.own st4),G,Rw,Mn,Fz,o5,some (.val (.tup (ts.map toD)))]=X:=λX=>by
    unfold zcE;have x0:dTB (dOp (gEq false) (dFn zcb (dA (zab 1) dA0)) (dC (.int 1))) [some (.own st),G,none,none,none,none,none]=.ok (false,[some (.own st),G,none,none,none,none,none]):=by
     refine za4 (zao (d:=.int (gs.map Dt.int).length) rfl rfl ?_);rw[zbt rfl rfl,eqI,List.length_map];have:((gs.length:Int) == 1)=false:=by simp;lia
     rw[this];rfl
    rw[zag (Z1:=[some (.own st),G,none,none,none,none,none]) (by rw[zbF x0];rfl),zag x1,zag x2,zag x3,zag x4,zag x5]
   have fin:∀(r:Bool)(st5:List Dt),(r=true->3<=m)->St st5->zcE (zbe n) [some (.own st),G,none,none,none,none,none]=.ok (.rt (toD (.nd r ts)),[some (.own st5),G,Rw,Mn,Fz,o5,some (.val (.tup (ts.map toD)))])->∃ t st',St st'/\zxc gs t/\zbe (n+1) [.own st,.val (.lst (gs.map .int))]=.ok (toD t,[.own st',.val .non]):=λr st5 hr hs5 hd=>by
    refine ⟨.nd r ts,st5,hs5,⟨?_,k2.trans hflp,?_⟩,zak (Z':=[some (.own st5),G,Rw,Mn,Fz,o5,some (.val (.tup (ts.map toD)))]) rfl hd rfl⟩
    ·simp only[okT,k1,Bool.and_true,war,k4,hl3];cases r with
     |false=>simpa using m2
     |true=>simpa using hr rfl
    ·simp only[dep];lia
   have hD:∀ r,toD (.nd r ts)=.tup [.str (wd r),.tup (ts.map toD)]:=λr=>by rw[toD,zaY]
   by_cases h3:2<m
   ·have y1:dTB (dOp gGt (zab 3) (dC (.int 2))) [some (.own st4),G,Rw,Mn,Fz,o5,some (.val (.tup (ts.map toD)))]=.ok (true,[some (.own st4),G,Rw,Mn,Fz,o5,some (.val (.tup (ts.map toD)))]):=by refine za4 (zao (d:=.int m) rfl rfl ?_);simp only[zrl];rw[decide_eq_true (by lia:(2:Int)<m)]
    obtain ⟨u,st5,e5,hs5,u0,u1⟩:=zdb (m:=2) hs4 xwd xwd;have ec:=zhG (F:=zap) (fb:=dC (.int 2)) (i:=0) (Z:=[some (.own st4),G,Rw,Mn,Fz,o5,some (.val (.tup (ts.map toD)))]) rfl rfl e5;have y2:dTB (dOp (gEq false) (zai zap (dRO 0 (dR (dC (.int 2)) dR0))) (dC (.int 1))) [some (.own st4),G,Rw,Mn,Fz,o5,some (.val (.tup (ts.map toD)))]=.ok (u == 1,[some (.own st5),G,Rw,Mn,Fz,o5,some (.val (.tup (ts.map toD)))]):=za4 (zao ec rfl (by rw[zbt rfl rfl,eqI];rfl));by_cases hu:u=1
    ·refine fin true st5 (λ_=>by lia) hs5 ((pre _).mpr (zb1 ?_));rw[zdG (by rw[zn6 y1,y2,hu];rfl),hD];rfl
    ·have hu':(u == 1)=false:=by simpa using hu
     refine fin false st5 (λz=>by cases z) hs5 ((pre _).mpr ?_);rw[zag (Z1:=[some (.own st5),G,Rw,Mn,Fz,o5,some (.val (.tup (ts.map toD)))]) (by rw[zbF (by rw[zn6 y1,y2,hu'])];rfl),hD];rfl
   ·have y1:dTB (dOp gGt (zab 3) (dC (.int 2))) [some (.own st4),G,Rw,Mn,Fz,o5,some (.val (.tup (ts.map toD)))]=.ok (false,[some (.own st4),G,Rw,Mn,Fz,o5,some (.val (.tup (ts.map toD)))]):=by refine za4 (zao (d:=.int m) rfl rfl ?_);simp only[zrl];rw[decide_eq_false (by lia:¬ (2:Int)<m)]
    refine fin false st4 (λz=>by cases z) hs4 ((pre _).mpr ?_);rw[zag (Z1:=[some (.own st4),G,Rw,Mn,Fz,o5,some (.val (.tup (ts.map toD)))]) (by rw[zbF (by rw[zsm y1])];rfl),hD];rfl
noncomputable def tz(p:List Int):Dt:=.tup (p.map .int)
noncomputable def lp(ps:List (List Int)):List Dt:=ps.map tz
theorem zfK(r:Bool):PySem.PyData.strOk (wd r)=true:=by cases r <;> decide +kernel
theorem zrt:∀(n:Nat)(t:Tr),dep t<=n->okN (2 * n) (toD t)=true
 |n,.lf i,_=>by simp[toD,okN]
 |0,.nd r l,h=>by simp[dep] at h
 |n+1,.nd r l,h=>by
  simp only[dep] at h;have e:2 * (n+1)=(2 * n+1)+1:=by omega
  rw[e,toD];have h2:okN (2 * n+1) (.tup (zka l))=true:=by simp only[okN,zaY,List.all_eq_true,List.mem_map];rintro d ⟨t,ht,rfl⟩;exact zrt n t (zaS.mp (by omega:zdt l<=n) t ht)
  have h1:okN (2 * n+1) (.str (wd r))=true:=by rw[okN];exact zfK r
  rw[okN];simp only[List.all_cons,List.all_nil,h1,h2,Bool.and_self]
theorem zzB{t:Tr}(h:dep t<=9):okN 59 (toD t)=true:=zpm (zrt 9 t h) xwd
noncomputable def zzj:Tr->Bool
 |.lf _=>true
 |.nd _ _=>false
theorem zmN(t:Tr):zcc [.val (toD t)]=.ok (.bl (zzj t),[.val .non]):=by
 cases t with
 |lf i=>rw[toD];rfl
 |nd r l=>rw[toD];rfl
theorem zdh:∀{l:List Tr}{t:Tr},t∈l->(zad t).length<=(zae l).length
 |[],_,h=>by cases h
 |u::l,t,h=>by
  simp only[zae,wav];rcases wap.mp h with rfl|h
  ·omega
  ·have:=zdh h;omega
theorem eqS{x y:Str}:eqD (.str x) (.str y)=(x == y):=by rw[eqD]
theorem zuW(r:Bool):(wd r == Str.ofString "any") = !r:=by cases r <;> decide +kernel
theorem zuY(r:Bool):(wd r == Str.ofString "row")=r:=by cases r <;> decide +kernel
theorem ziz:PySem.PyData.strOk (Str.ofString "any")=true:=by decide +kernel
theorem zi3:PySem.PyData.strOk (Str.ofString "row")=true:=by decide +kernel
theorem znX{n:Nat}:∀(l:List Tr),zdt l<=n->ziC l=true->l.length<=(zae l).length
 |[],_,_=>by simp
 |t::q,hd,ho=>by simp only[zdt] at hd;simp only[ziC,wae] at ho;have h1:=List.length_pos_iff.mpr (zbL n t xwo ho.1);have h2:=znX (n:=n) q xwo ho.2;simp only[zae,wav,wan];omega
theorem eqB{a b:Bool}:eqD (.bl a) (.bl b)=(a == b):=by rw[eqD]
theorem zi7{F:FD}{x:Option B}:∀{l:List Tr}{acc:List Int}{o:Option B},(∀ t∈l,F [.val (toD t)]=.ok (.lst ((zad t).map .int),[.val .non]))->acc.length+(zae l).length<=1000 ->
  ∃ o',zps (zbr 2) (zaX 1 (dFz (zjt (zab 1) (zai F (dR (zab 2) dR0))))) (zka l) [x,some (.val (.lst (acc.map .int))),o]=.ok (.nx,[x,some (.val (.lst ((acc++zae l).map .int))),o'])
 |[],acc,o,_,_=>⟨o,by simp[zka,zps,zae]⟩
 |t::l,acc,o,h,hl=>by
  simp only[zae,wav] at hl;obtain ⟨o',e⟩:=zi7 (F:=F) (x:=x) (l:=l) (acc:=acc++zad t) (o:=some (.val (toD t))) (λu hu=>h u (wah _ hu)) (by simp only[wav];omega);refine ⟨o',?_⟩;rw[zka,zps];show ((zaX 1 (dFz (zjt (zab 1) (zai F (dR (zab 2) dR0))))) [x,some (.val (.lst (acc.map .int))),some (.val (toD t))]).bind _=_;have e1:zaX 1 (dFz (zjt (zab 1) (zai F (dR (zab 2) dR0)))) [x,some (.val (.lst (acc.map .int))),some (.val (toD t))]=.ok (.nx,[x,some (.val (.lst ((acc++zad t).map .int))),some (.val (toD t))]):=by
   have ec:=zdf (F:=F) (fa:=zab 2) (Z:=[x,some (.val (.lst (acc.map .int))),some (.val (toD t))]) (Z':=[x,some (.val (.lst (acc.map .int))),some (.val (toD t))]) rfl (h t xws);have e2:zjt (zab 1) (zai F (dR (zab 2) dR0)) [x,some (.val (.lst (acc.map .int))),some (.val (toD t))]=.ok ((acc++zad t).map .int,[x,some (.val (.lst (acc.map .int))),some (.val (toD t))]):=by have ev:zab 1 [x,some (.val (.lst (acc.map .int))),some (.val (toD t))]=.ok (.lst (acc.map .int),[x,some (.val (.lst (acc.map .int))),some (.val (toD t))]):=rfl;unfold zjt;rw[ev];simp only[R.bind_ok];rw[ec];simp only[R.bind_ok];rw[if_pos (by simp only[List.length_map];omega),List.map_append]
   exact zaE (zaL e2) xws
  rw[e1];simp only[R.bind_ok];rw[e,zae,List.append_assoc]
theorem zeF:∀(n:Nat)(t:Tr),dep t<=n->(zad t).length<=1000->zaI n [.val (toD t)]=.ok (.lst ((zad t).map .int),[.val .non])
 |0,t,h,_=>by cases t <;> simp[dep] at h
 |n+1,.lf i,h,hl=>by refine zak (Z':=[some (.val (.int i)),none,none]) rfl ?_ rfl;rw[toD,zad];rfl
 |n+1,.nd r l,h,hl=>by
  simp only[dep] at h;simp only[zad] at hl ⊢;obtain ⟨o',e⟩:=zi7 (F:=zaI n) (x:=some (.val (toD (.nd r l)))) (l:=l) (acc:=[]) (o:=none) (λt ht=>zeF n t (zaS.mp (by omega:zdt l<=n) t ht) (by have:=zdh ht;omega)) (by simp;omega);have hD:toD (.nd r l)=.tup [.str (wd r),.tup (zka l)]:=by rw[toD]
  refine zak (Z':=[some (.val (toD (.nd r l))),some (.val (.lst ((zae l).map .int))),o']) rfl ?_ rfl;show zeA (zaI n) [some (.val (toD (.nd r l))),none,none]=_;unfold zeA;rw[zag (Z1:=[some (.val (toD (.nd r l))),none,none]) (by rw[hD];rfl)];rw[zag (Z1:=[some (.val (toD (.nd r l))),some (.val (.lst [])),none]) rfl];rw[zag (Z1:=[some (.val (toD (.nd r l))),some (.val (.lst ((zae l).map .int))),o'])]
  ·rfl
  ·unfold zh1;have:dIt (dOp gIx (zab 0) (dC (.int 1))) [some (.val (toD (.nd r l))),some (.val (.lst [])),none]=.ok (zka l,[some (.val (toD (.nd r l))),some (.val (.lst [])),none]):=by rw[hD];rfl
   rw[this];simpa using e
noncomputable def znn{α:Type}:Nat->List α->List (List α)
 |0,_=>[[]]
 |n+1,l=>(List.range l.length).flatMap λk=>match l[k]? with
  |some a=>(znn n (l.eraseIdx k)).map (a::·)
  |none=>[]
theorem zrF{α:Type}{l:List α}{n k:Nat}(h:l.length=n+1)(hk:k<l.length):(l.eraseIdx k).length=n:=by rw[List.length_eraseIdx,if_pos hk,h];rfl
theorem zu3{α β:Type}(f:α->β):∀(l:List α)(k:Nat),(l.map f).eraseIdx k=(l.eraseIdx k).map f
 |[],_=>rfl
 |a::l,0=>rfl
 |a::l,k+1=>by simp[zu3 f l k]
theorem zcB{α:Type}:∀(n:Nat)(l p:List α),l.length=n->(p∈znn n l ↔ p.Perm l)
 |0,l,p,h=>by have:l=[]:=List.length_eq_zero_iff.mp h;subst this;simp[znn]
 |n+1,l,p,h=>by
  rw[znn,List.mem_flatMap];constructor
  ·rintro ⟨k,hk,hp⟩;have hk':=List.mem_range.mp hk;rw[List.getElem?_eq_getElem hk'] at hp;obtain ⟨r,hr,rfl⟩:=List.mem_map.mp hp;have:=(zcB n _ r (zrF h hk')).mp hr;exact (this.cons _).trans (zfM (wac hk'))
  ·intro hp;cases p with
   |nil=>have:=hp.length_eq;simp at this;lia
   |cons a r =>
    obtain ⟨k,hk,e⟩:=List.mem_iff_getElem.mp (hp.mem_iff.mp wau);have e':l[k]? = some a:=by rw[List.getElem?_eq_getElem hk,e]
    refine ⟨k,List.mem_range.mpr hk,?_⟩;rw[e'];refine List.mem_map.mpr ⟨r,(zcB n _ r (zrF h hk)).mpr ?_,rfl⟩;exact List.Perm.cons_inv (hp.trans (zfM e').symm)
theorem zqC{α β:Type}(f:α->β):∀(n:Nat)(l:List α),znn n (l.map f)=(znn n l).map (List.map f)
 |0,l=>rfl
 |n+1,l=>by
  rw[znn,znn,List.length_map,List.map_flatMap];congr 1;funext k;rw[List.getElem?_map];cases l[k]? with
  |none=>rfl
  |some a =>
   show List.map (f a::·) (znn n ((l.map f).eraseIdx k))=_;rw[zu3,zqC f n,List.map_map,List.map_map];rfl
noncomputable def fac:Nat->Nat
 |0=>1
 |n+1=>(n+1) * fac n
theorem zgX{α:Type}{f:α->Nat}{c:Nat}:∀{l:List α},(∀ a∈l,f a=c)->(l.map f).sum=l.length * c
 |[],_=>by simp
 |a::l,h=>by rw[List.map_cons,List.sum_cons,zgX (λb hb=>h b (List.mem_cons_of_mem _ hb)),h a List.mem_cons_self,List.length_cons,Nat.succ_mul,Nat.add_comm]
theorem zrY{α:Type}:∀(n:Nat)(l:List α),l.length=n->(znn n l).length=fac n
 |0,l,_=>rfl
 |n+1,l,h=>by
  rw[znn,List.length_flatMap,zgX (c:=fac n) λk hk=>?_,List.length_range,h]
  ·rfl
  ·have hk':=List.mem_range.mp hk;rw[List.getElem?_eq_getElem hk'];show (List.map _ (znn n _)).length=_;rw[List.length_map];exact zrY n _ (zrF h hk')
noncomputable def zlm:List (List (List Int))->List (List Int)
 |[]=>[[]]
 |c::cs=>c.flatMap λx=>(zlm cs).map (x++·)
theorem zkX:∀{cs:List (List (List Int))}{r:List Int},r∈zlm cs ↔ ∃ ys,Paired (λy c=>y∈c) ys cs/\ys.flatten=r
 |[],r=>by
  simp only[zlm,List.mem_singleton];constructor
  ·rintro rfl;exact ⟨[],.nil,rfl⟩
  ·rintro ⟨ys,h,rfl⟩;cases h;rfl
 |c::cs,r=>by
  simp only[zlm,List.mem_flatMap,List.mem_map];constructor
  ·rintro ⟨x,hx,s,hs,rfl⟩;obtain ⟨ys,h1,rfl⟩:=zkX.mp hs;exact ⟨x::ys,.cons hx h1,rfl⟩
  ·rintro ⟨ys,h,rfl⟩;cases h with
   |cons h t=>exact ⟨_,h,_,zkX.mpr ⟨_,t,rfl⟩,rfl⟩
noncomputable def zjA:List Nat->Nat
 |[]=>1
 |n::l=>n * zjA l
theorem zow:∀ cs:List (List (List Int)),(zlm cs).length=zjA (cs.map List.length)
 |[]=>rfl
 |c::cs=>by
  rw[zlm,List.length_flatMap,zgX (c:=zjA (cs.map List.length)) λx hx=>?_]
  ·rfl
  ·rw[List.length_map,zow cs]
theorem zp3{a b:List Nat}(h:a.Perm b):zjA a=zjA b:=by
 induction h with
 |nil=>rfl
 |cons x h ih=>simp[zjA,ih]
 |swap x y l=>simp only[zjA];rw[<- Nat.mul_assoc,<- Nat.mul_assoc,Nat.mul_comm x y]
 |trans h1 h2 i1 i2=>exact i1.trans i2
mutual
noncomputable def zaq:Tr->List (List Int)
 |.lf g=>[[g]]
 |.nd r bs=>(if r=true then [zi6 bs,(zi6 bs).reverse] else znn bs.length (zi6 bs)).flatMap zlm
noncomputable def zi6:List Tr->List (List (List Int))
 |[]=>[]
 |t::l=>zaq t::zi6 l
end
theorem zks:∀ l:List Tr,zi6 l=l.map zaq
 |[]=>by simp[zi6]
 |t::l=>by simp[zi6,zks l]
noncomputable def arr(r:Bool)(bs:List Tr):List (List Tr):=if r=true then [bs,bs.reverse] else znn bs.length bs
theorem zaC{r:Bool}{bs p:List Tr}(h:p∈arr r bs):p.Perm bs:=by
 unfold arr at h;split at h
 ·simp only[wap,wak,or_false] at h;rcases h with rfl|rfl
  ·exact .refl _
  ·exact List.reverse_perm _
 ·exact (zcB _ _ _ rfl).mp h
theorem zs9(r:Bool)(bs:List Tr):zaq (.nd r bs)=(arr r bs).flatMap λp=>zlm (p.map zaq):=by
 rw[zaq,zks];unfold arr;cases r with
 |true=>simp
 |false =>
  simp only[Bool.false_eq_true,if_false];rw[zqC,List.flatMap_map]
theorem zcs{α β γ:Type}{F:α->γ->Prop}{f:β->γ}:∀{l:List α}{r:List β},Paired F l (r.map f) ↔ Paired (λa b=>F a (f b)) l r
 |l,[]=>⟨λh=>by cases h;exact .nil,λh=>by cases h;exact .nil⟩
 |l,b::r=>⟨λh=>by
   rw[List.map_cons] at h;cases h with
   |cons h t=>exact .cons h (zcs.mp t),λh=>by
   rw[List.map_cons];cases h with
   |cons h t=>exact .cons h (zcs.mpr t)⟩
noncomputable def zbE(r:List Int)(p:List Tr):Prop:=∃ ys,Paired (λy t=>y∈zaq t) ys p/\ys.flatten=r
theorem zoq{r:List Int}{p:List Tr}:r∈zlm (p.map zaq) ↔ zbE r p:=by rw[zkX];unfold zbE;exact ⟨λ⟨ys,h,e⟩=>⟨ys,zcs.mp h,e⟩,λ⟨ys,h,e⟩=>⟨ys,zcs.mpr h,e⟩⟩
theorem zaG{b:Bool}{bs:List Tr}{r:List Int}:r∈zaq (.nd b bs) ↔ ∃ p∈arr b bs,zbE r p:=by rw[zs9,List.mem_flatMap];exact ⟨λ⟨p,h,e⟩=>⟨p,h,zoq.mp e⟩,λ⟨p,h,e⟩=>⟨p,h,zoq.mpr e⟩⟩
theorem zbk{p q:List Tr}(h:p.Perm q):(zae p).Perm (zae q):=by rw[zaO,zaO];exact h.flatMap_right _
theorem zhh{P:Tr->Prop}(H:∀ t,P t->∀ r∈zaq t,r.Perm (zad t)):∀{p:List Tr}{ys:List (List Int)},(∀ t∈p,P t)->Paired (λy t=>y∈zaq t) ys p->ys.flatten.Perm (zae p)
 |[],_,_,.nil=>by simp[zae]
 |t::p,_,hP,.cons h r=>by rw[List.flatten_cons,zae];exact (H t (hP t wau) _ h).append (zhh H (λu hu=>hP u (wah _ hu)) r)
theorem zic:∀(n:Nat)(t:Tr),dep t<=n->∀ r∈zaq t,r.Perm (zad t)
 |0,t,h,r,_=>by cases t <;> simp[dep] at h
 |n+1,.lf g,h,r,hr=>by rw[zaq,List.mem_singleton] at hr;subst hr;rw[zad]
 |n+1,.nd b bs,h,r,hr=>by obtain ⟨p,hp,ys,h1,rfl⟩:=zaG.mp hr;simp only[dep] at h;have hd:=zaS.mp (by lia:zdt bs<=n);rw[zad];exact (zhh (P:=λt=>dep t<=n) (λt ht=>zic n t ht) (λt ht=>hd t ((zaC hp).mem_iff.mp ht)) h1).trans (zbk (zaC hp))
theorem zat{t:Tr}{r:List Int}(h:r∈zaq t):r.Perm (zad t):=zic _ t (wal _) r h
theorem zjd{p:List Tr}{r:List Int}(h:zbE r p):r.Perm (zae p):=by obtain ⟨ys,h1,rfl⟩:=h;exact zhh (P:=λ_=>True) (λt _ r hr=>zat hr) (λ_ _=>trivial) h1
structure zfm(bs:List Tr):Prop where
 nd:(zae bs).Nodup
 ne:∀ t∈bs,zad t≠[]
theorem zaB{g:Int}{bs:List Tr}:g∈zae bs ↔ ∃ t∈bs,g∈zad t:=by rw[zaO,List.mem_flatMap]
theorem zey:∀{bs:List Tr},(zae bs).Nodup->∀{t u:Tr}{g:Int},t∈bs->u∈bs->g∈zad t->g∈zad u->t=u
 |[],_,_,_,_,h,_,_,_=>by cases h
 |b::bs,hn,t,u,g,ht,hu,gt,gu=>by
  rw[zae,List.nodup_append] at hn;obtain ⟨h1,h2,h3⟩:=hn;rcases wap.mp ht with e|ht' <;> rcases wap.mp hu with e'|hu'
  ·rw[e,e']
  ·subst e;exact absurd rfl (h3 g gt g (zaB.mpr ⟨u,hu',gu⟩))
  ·subst e';exact absurd rfl (h3 g gu g (zaB.mpr ⟨t,ht',gt⟩))
  ·exact zey h2 ht' hu' gt gu
theorem zmT{bs:List Tr}(A:zfm bs):∀{p q:List Tr}{ys zs:List (List Int)},(∀ t∈p,t∈bs)->(∀ t∈q,t∈bs)->Paired (λy t=>y∈zaq t) ys p->Paired (λy t=>y∈zaq t) zs q->ys.flatten=zs.flatten->p=q/\ys=zs
 |[],q,_,zs,_,hq,.nil,h2,e=>by
  cases h2 with
  |nil=>exact ⟨rfl,rfl⟩
  |@cons z t zs q h r =>
   exfalso;have:=zat h;rw[List.flatten_nil,List.flatten_cons] at e;have hz:z=[]:=(List.append_eq_nil_iff.mp e.symm).1;subst hz;exact A.ne t (hq t wau) (this.symm.eq_nil)
 |t::p,q,_,zs,hp,hq,.cons (a:=y) (l₁:=ys) h r,h2,e=>by
  have hy:=zat h;have hyn:y≠[]:=λz=>A.ne t (hp t wau) (by subst z;exact hy.symm.eq_nil);cases h2 with
  |nil =>
   exfalso;rw[List.flatten_nil,List.flatten_cons] at e;exact hyn (List.append_eq_nil_iff.mp e).1
  |@cons z u zs q h' r' =>
   have hz:=zat h';have hzn:z≠[]:=λw=>A.ne u (hq u wau) (by subst w;exact hz.symm.eq_nil);rw[List.flatten_cons,List.flatten_cons] at e;obtain ⟨g,y',rfl⟩:=waI hyn;obtain ⟨g',z',rfl⟩:=waI hzn;have eg:g=g':=by simp only[List.cons_append] at e;exact (List.cons.inj e).1
   subst eg;have tu:t=u:=zey A.nd (hp t wau) (hq u wau) (hy.mem_iff.mp wau) (hz.mem_iff.mp wau);subst tu;have el:(g::y').length=(g::z').length:=hy.length_eq.trans hz.length_eq.symm;obtain ⟨e1,e2⟩:=List.append_inj e el;obtain ⟨e3,e4⟩:=zmT A (λu hu=>hp u (wah _ hu)) (λu hu=>hq u (wah _ hu)) r r' e2;exact ⟨by rw[e3],by rw[e1,e4]⟩
theorem ztb{bs:List Tr}(A:zfm bs){p q:List Tr}{r:List Int}(hp:∀ t∈p,t∈bs)(hq:∀ t∈q,t∈bs)(h1:zbE r p)(h2:zbE r q):p=q:=by obtain ⟨ys,a1,rfl⟩:=h1;obtain ⟨zs,b1,e⟩:=h2;exact (zmT A hp hq a1 b1 e.symm).1
theorem zcI:∀{bs:List Tr},zfm bs->bs.Nodup
 |[],_=>.nil
 |b::bs,A=>by
  have hn:=A.nd;rw[zae,List.nodup_append] at hn;refine List.nodup_cons.mpr ⟨λhb=>?_,zcI ⟨hn.2.1,λt ht=>A.ne t (wah _ ht)⟩⟩;obtain ⟨g,y,e⟩:=waI (A.ne b wau);have hg:g∈zad b:=by rw[e];exact wau
  exact absurd rfl (hn.2.2 g hg g (zaB.mpr ⟨b,hb,hg⟩))
theorem zoQ{n:Nat}{b:Bool}{bs:List Tr}(hd:dep (.nd b bs)<=n+1)(ho:okT (.nd b bs)=true)(hn:(zad (.nd b bs)).Nodup):zfm bs/\∀ t∈bs,dep t<=n/\okT t=true/\(zad t).Nodup:=by simp only[dep] at hd;rw[zad] at hn;rw[okT,Bool.and_eq_true,zcM,List.all_eq_true] at ho;have h:=zaS.mp (by lia:zdt bs<=n);refine ⟨⟨hn,λt ht=>zbL n t (h t ht) (ho.2 t ht)⟩,λt ht=>⟨h t ht,ho.2 t ht,?_⟩⟩;rw[zaO] at hn;exact (List.pairwise_flatMap.mp hn).1 t ht
noncomputable def zbo(n:Nat):Nat->List (List Int)
 |0=>[[]]
 |j+1=>(zbo n j).flatMap λrow=>((zaW n).filter λg=>!decide (g∈row)).map λg=>row++[g]
theorem zgW{n:Nat}:∀{j:Nat}{r:List Int},r∈zbo n j ↔ r.length=j/\r.Nodup/\∀ x∈r,x∈zaW n
 |0,r=>by
  simp only[zbo,List.mem_singleton];constructor
  ·rintro rfl;simp
  ·rintro ⟨h,_⟩;exact List.length_eq_zero_iff.mp h
 |j+1,r=>by
  simp only[zbo,List.mem_flatMap,List.mem_map,List.mem_filter,Bool.not_eq_true',decide_eq_false_iff_not];constructor
  ·rintro ⟨row,hr,g,⟨hg,hn⟩,rfl⟩;obtain ⟨h1,h2,h3⟩:=zgW.mp hr;refine ⟨by simp[h1],?_,λx hx=>?_⟩
   ·rw[List.nodup_append];refine ⟨h2,xws,λa ha b hb e=>?_⟩;rw[List.mem_singleton] at hb;subst hb;subst e;exact hn ha
   ·rcases wax.mp hx with hx|hx
    ·exact h3 x hx
    ·rw[List.mem_singleton] at hx;subst hx;exact hg
  ·rintro ⟨h1,h2,h3⟩;have hne:r≠[]:=λz=>by subst z;simp at h1
   have e:=List.dropLast_concat_getLast hne;rw[<- e] at h2 h3;rw[List.nodup_append] at h2;refine ⟨r.dropLast,zgW.mpr ⟨by simp[h1],h2.1,λx hx=>h3 x (waR _ hx)⟩,r.getLast hne,⟨h3 _ (waz _ xws),λhx=>h2.2.2 _ hx _ xws rfl⟩,e⟩
theorem zng{α:Type} [BEq α] [LawfulBEq α] {a b:List α} (ha:a.Nodup) (hb:b.Nodup) (h:∀ x,x∈a ↔ x∈b):a.Perm b:=by
 rw[List.perm_iff_count];intro x;by_cases hx:x∈a
 ·rw[ha.count,hb.count,if_pos hx,if_pos ((h x).mp hx)]
 ·rw[ha.count,hb.count,if_neg hx,if_neg λz=>hx ((h x).mpr z)]
theorem zeG{n:Nat}{r:List Int}:r∈zbo n n ↔ r.Perm (zaW n):=by
 rw[zgW];constructor
 ·rintro ⟨h1,h2,h3⟩;exact zfN r (zaW n) h2 h3 (by rw[zbB];lia)
 ·intro h;exact ⟨by rw[h.length_eq,zbB],h.symm.nodup (zdI n),λx hx=>h.mem_iff.mp hx⟩
theorem zi5{α:Type} [BEq α] [LawfulBEq α]:∀{a b:List α},a.Nodup->(∀ x∈a,x∈b)->a.length<=b.length
 |[],_,_,_=>Nat.zero_le _
 |x::a,b,hn,h=>by
  have hx:=h x wau;have:=zi5 (a:=a) (b:=b.erase x) (List.nodup_cons.mp hn).2 λy hy=>by have hne:y≠x:=λe=>(List.nodup_cons.mp hn).1 (by rw[<- e];exact hy);exact (List.mem_erase_of_ne hne).mpr (h y (wah _ hy))
  have e:=List.length_erase_of_mem hx;have:0<b.length:=List.length_pos_of_mem hx;rw[List.length_cons];lia
theorem zqp:∀ n,1<=fac n
 |0=>wal _
 |n+1=>by have:=zqp n;rw[fac];exact waN this (Nat.le_mul_of_pos_left _ (Nat.succ_pos n))
theorem zlD{α:Type}{g:DG}{body:DS}{u:α->Dt}{l:List α}{I:List α->Ev->Prop}(H:∀ dn a zby,l=dn++a::zby->∀ Z,I dn Z->∃ Z1 Z2,g (u a) Z=.ok Z1/\body Z1=.ok (.nx,Z2)/\I (dn++[a]) Z2) :
  ∀(todo dn:List α)(Z:Ev),l=dn++todo->I dn Z->∃ Z',I l Z'/\zps g body (todo.map u) Z=.ok (.nx,Z')
 |[],dn,Z,e,h=>by rw[List.append_nil] at e;subst e;exact ⟨Z,h,rfl⟩
 |a::todo,dn,Z,e,h=>by obtain ⟨Z1,Z2,h1,h2,h3⟩:=H dn a todo e Z h;obtain ⟨Z',h4,h5⟩:=zlD H todo (dn++[a]) Z2 (by rw[e];simp) h3;refine ⟨Z',h4,?_⟩;rw[List.map_cons,zps,h1];simp only[R.bind_ok,h2];exact h5
theorem zct{α:Type}{fi:DA}{g:DG}{body:DS}{u:α->Dt}{l:List α}{ds:List Dt}{I:List α->Ev->Prop}{Z Z0:Ev}(hi:fi Z=.ok (ds,Z0))(hd:ds=l.map u)(h0:I [] Z0)(H:∀ dn a zby,l=dn++a::zby->∀ Z,I dn Z->∃ Z1 Z2,g (u a) Z=.ok Z1/\body Z1=.ok (.nx,Z2)/\I (dn++[a]) Z2) :
  ∃ Z',I l Z'/\zh1 fi g body Z=.ok (.nx,Z'):=by
 subst hd;obtain ⟨Z',h1,h2⟩:=zlD H l [] Z0 rfl h0;refine ⟨Z',h1,?_⟩;unfold zh1;rw[hi];exact h2
theorem zpw{i:Nat}{fa:De}{Z Z1:Ev}{l0 ds l:List Dt}{d:Dt}(h0:Z[i]? = some (some (.own l0)))(h:fa Z=.ok (d,Z1))(h1:Z1[i]? = some (some (.own ds)))(hd:ziE d=some l)(hl:ds.length+l.length<=16777216):zg7 i fa Z=.ok (.non,Z1.set i (some (.own (ds++l)))):=by unfold zg7;simp only[h0,h,R.bind_ok,h1,hd,hl,if_true]
theorem zrB{i:Nat}{fa:De}{Z Z1:Ev}{l0 ds:List Dt}{d:Dt}(h0:Z[i]? = some (some (.own l0)))(h:fa Z=.ok (d,Z1))(h1:Z1[i]? = some (some (.own ds)))(hl:ds.length<16777216):zew i fa Z=.ok (.non,Z1.set i (some (.own (ds++[d])))):=by unfold zew;simp only[h0,h,R.bind_ok,h1,hl,if_true]
theorem zku{fa fb:De}{Z Z1 Z2:Ev}{x y:List Dt}(h:fa Z=.ok (.lst x,Z1))(h2:fb Z1=.ok (.lst y,Z2))(hl:x.length+y.length<=16777216):zjt fa fb Z=.ok (x++y,Z2):=by unfold zjt;simp only[h,h2,R.bind_ok,hl,if_true]
theorem zvC{x y:List Dt}(hl:x.length+y.length<=16777216):zlk (.tup x) (.tup y)=.ok (.tup (x++y)):=by unfold zlk;simp only[hl,if_true]
theorem zoc{fa:De}{fl fh:DO}{Z Z1 Z2 Z3:Ev}{x:List Dt}{lo hi:Option Int}(h:fa Z=.ok (.lst x,Z1))(h1:fl Z1=.ok (lo,Z2))(h2:fh Z2=.ok (hi,Z3)):zlS fa fl fh Z=.ok (zjs x lo hi,Z3):=by unfold zlS;simp only[h,h1,h2,R.bind_ok]
theorem znh{fa:De}{fl fh:DO}{Z Z1 Z2 Z3:Ev}{x:List Dt}{lo hi:Option Int}(h:fa Z=.ok (.tup x,Z1))(h1:fl Z1=.ok (lo,Z2))(h2:fh Z2=.ok (hi,Z3)):zhf fa fl fh Z=.ok (.tup (zjs x lo hi),Z3):=by unfold zhf;simp only[h,h1,h2,R.bind_ok]
theorem zty{fa:De}{Z Z1:Ev}{i:Int}(h:fa Z=.ok (.int i,Z1)):dO1 fa Z=.ok (some i,Z1):=by unfold dO1;simp only[h,R.bind_ok]
theorem zuz{α β:Type}{f:α->List β}{c:Nat}:∀{l:List α},(∀ a∈l,(f a).length<=c)->(l.flatMap f).length<=l.length * c
 |[],_=>by simp
 |a::l,h=>by rw[List.flatMap_cons,List.length_append,List.length_cons,Nat.succ_mul];have:=zuz (l:=l) λb hb=>h b (wah _ hb);have:=h a wau;lia
theorem zuk{m:Nat}(h:m<=1000):zdx (m:Int)=true:=by unfold zdx;rw[Bool.and_eq_true,decide_eq_true_eq,decide_eq_true_eq];lia
noncomputable def zzM(j:Int)(Z:Ev):R (List Dt×Ev):=if zdx j=true then .ok (zch 0 j.toNat,Z) else .no
theorem znP{j:Int}{Z:Ev}(h:zdx j=true):zzM j Z=.ok (zch 0 j.toNat,Z):=if_pos h
theorem zsv{fa:De}{Z Z1:Ev}{j:Int}(h:fa Z=.ok (.int j,Z1)):zdw fa Z=zzM j Z1:=by unfold zdw zzM;rw[h];rfl
theorem zm2{fa:De}{Z Z1:Ev}{m:Nat}(h:fa Z=.ok (.int (m:Nat),Z1))(hm:m<=1000):zdw fa Z=.ok ((List.range m).map λk:Nat=>Dt.int k,Z1):=by rw[zsv h,znP (zuk hm),Int.toNat_natCast];unfold zch;simp only[Int.zero_add]
theorem zrX(a b:List (List Int)):lp (a++b)=lp a++lp b:=by unfold lp;rw[List.map_append]
theorem zoY(a:List (List Int)):(lp a).length=a.length:=by unfold lp;rw[List.length_map]
theorem zxB(a b:List Int):Dt.tup (a.map .int++b.map .int)=tz (a++b):=by unfold tz;rw[List.map_append]
theorem zlP:∀{a:List Nat},(∀ x∈a,1<=x)->1<=zjA a
 |[],_=>wal _
 |x::a,h=>waN (zlP λy hy=>h y (wah _ hy)) (Nat.le_mul_of_pos_left _ (h x wau))
theorem zvI(r:Bool)(bs:List Tr):1<=(arr r bs).length:=by
 unfold arr;split
 ·simp
 ·rw[zrY _ _ rfl];exact zqp _
theorem ztO(r:Bool)(bs:List Tr):(zaq (.nd r bs)).length=(arr r bs).length * zjA (bs.map λt=>(zaq t).length):=by rw[zs9,List.length_flatMap,zgX (c:=zjA (bs.map λt=>(zaq t).length)) λp hp=>?_];rw[zow,List.map_map];exact zp3 ((zaC hp).map _)
theorem zhZ:∀(n:Nat)(t:Tr),dep t<=n->1<=(zaq t).length
 |0,t,h=>by cases t <;> simp[dep] at h
 |n+1,.lf g,_=>by rw[zaq];simp
 |n+1,.nd r bs,h=>by
  simp only[dep] at h;have hd:=zaS.mp (by lia:zdt bs<=n);rw[ztO];exact waN (zvI r bs) (Nat.le_mul_of_pos_right _ (zlP λx hx=>by obtain ⟨t,ht,rfl⟩:=List.mem_map.mp hx;exact zhZ n t (hd t ht)))
theorem zsD{r:Bool}{bs:List Tr}{Z:Ev}(h:zab 0 Z=.ok (toD (.nd r bs),Z)):dOp gIx (zab 0) (dC (.int 0)) Z=.ok (.str (wd r),Z) :=
 zao h rfl (by rw[toD];rfl)
theorem zwv{r:Bool}{bs:List Tr}{Z:Ev}(h:zab 0 Z=.ok (toD (.nd r bs),Z)):dTB (dOp (gEq false) (dOp gIx (zab 0) (dC (.int 0))) (dC (.str (Str.ofString "row")))) Z=.ok (r,Z):=by refine za4 (zao (zsD h) rfl ?_);rw[zbt (by rw[okN];exact zfK r) (by rw[okN];exact zi3),eqS,zuY];rfl
theorem zlc{r:Bool}{bs:List Tr}{Z:Ev}(h:zab 0 Z=.ok (toD (.nd r bs),Z)):dOp (gEq false) (dOp gIx (zab 0) (dC (.int 0))) (dC (.str (Str.ofString "any"))) Z=.ok (.bl (!r),Z):=by refine zao (zsD h) rfl ?_;rw[zbt (by rw[okN];exact zfK r) (by rw[okN];exact ziz),eqS,zuW];rfl
theorem zdS{r:Bool}{bs:List Tr}{Z:Ev}(h:zab 0 Z=.ok (toD (.nd r bs),Z)):dOp gIx (zab 0) (dC (.int 1)) Z=.ok (.tup (zka bs),Z) :=
 zao h rfl (by rw[toD];rfl)
theorem zqA(l:List Int):zmV (l.map .int)=some l:=zsG l
theorem zkg{α:Type}{u f:α->Dt}{p:α->Bool}{ft:DT}{fe:De}{Z0:Ev}:∀{l:List α}{o:Option B},(∀ a∈l,ft (Z0++[some (.val (u a))])=.ok (p a,Z0++[some (.val (u a))]))->(∀ a∈l,p a=true->fe (Z0++[some (.val (u a))])=.ok (f a,Z0++[some (.val (u a))])) ->
  ∃ o',zc8 (zbr Z0.length) ft fe (l.map u) (Z0++[o])=.ok ((l.filter p).map f,Z0++[o'])
 |[],o,_,_=>⟨o,rfl⟩
 |a::l,o,h,h2=>by
  obtain ⟨o',e⟩:=zkg (l:=l) (o:=some (.val (u a))) (λb hb=>h b (wah _ hb)) λb hb=>h2 b (wah _ hb);refine ⟨o',?_⟩;rw[List.map_cons,zc8,zub];simp only[R.bind_ok];rw[h a List.mem_cons_self];simp only[R.bind_ok];cases hp:p a with
  |true =>
   simp only[if_true];rw[h2 a List.mem_cons_self hp];simp only[R.bind_ok,e,List.filter_cons,hp,if_true,List.map_cons]
  |false =>
   simp only[Bool.false_eq_true,if_false,e,List.filter_cons,hp]
theorem zbw{α:Type}{u f:α->Dt}{p:α->Bool}{ft:DT}{fe:De}{Z0:Ev}{fi:DA}{l:List α}{ds:List Dt}{j:Nat}(hi:fi Z0=.ok (ds,Z0))(hd:ds=l.map u)(hj:j = Z0.length)(hl:l.length<=16777216)(h:∀ a∈l,ft (Z0++[some (.val (u a))])=.ok (p a,Z0++[some (.val (u a))]))(h2:∀ a∈l,p a=true->fe (Z0++[some (.val (u a))])=.ok (f a,Z0++[some (.val (u a))])) :
  zbh fi (zbr j) ft fe 1 Z0=.ok ((l.filter p).map f,Z0):=by
 subst hj;subst hd;obtain ⟨o',e⟩:=zkg (o:=none) h h2;unfold zbh;rw[hi];simp only[R.bind_ok];have hf:zia (l.map u)=true:=by unfold zia;rw[List.length_map];exact wat hl
 rw[if_pos hf];show (match zc8 (zbr Z0.length) ft fe (l.map u) (Z0++[none]) with|.ok z=>R.ok (z.1,z.2.take Z0.length)|_=>.no)=_;rw[e];simp
noncomputable abbrev zv6:DN:=zbh (zdw (zab 0)) (zbr 5) (dTB (dOp (gIn true) (zab 5) (zab 4))) (dOp zlk (zab 4) (zd1 (dA (zab 5) dA0))) 1
noncomputable abbrev pIn:DS:=zh1 (dIt (zab 1)) (zbr 4) (dEx (zg7 3 (dFz zv6)))
noncomputable abbrev zyV:DS:=zax (zcY 3 (zc7 dA0)) (zax pIn (zaX 1 (zhc 3)))
theorem zs8:zfA=zax (zaX 1 (dC (.lst [(.tup [])]))) (zax (zh1 (zdw (zab 0)) (zbr 2) zyV) (zbb (zab 1))):=rfl
noncomputable def ztA(n:Nat)(row:List Int):List (List Int):=((zaW n).filter λg=>!decide (g∈row)).map λg=>row++[g]
theorem zhU:∀ n,n<=6->∀ j,j<=n->(zbo n j).length<=720:=by decide +kernel
theorem zgL{neg:Bool}{x:Dt}{ds:List Dt}(h1:okN 60 x=true)(h2:∀ d∈ds,okN 60 d=true):gIn neg x (.tup ds)=.ok (.bl (if neg then !inD x ds else inD x ds))/\gIn neg x (.lst ds)=.ok (.bl (if neg then !inD x ds else inD x ds)):=by have h3:ds.all (okN 60)=true:=List.all_eq_true.mpr h2;unfold gIn;simp only[h1,h3,Bool.and_self,if_true,and_self]
theorem zin{l:List Int}:∀ d∈l.map Dt.int,okN 60 d=true:=λd hd=>by obtain ⟨i,_,rfl⟩:=List.mem_map.mp hd;rfl
theorem zvv{fa:De}{Z Z1:Ev}{m:Nat}(h:fa Z=.ok (.int (m:Nat),Z1))(hm:m<=1000):zdw fa Z=.ok ((zaW m).map Dt.int,Z1):=by rw[zsv h,znP (zuk hm),Int.toNat_natCast,zkM]
theorem zth{n:Nat}{o2 o4:Option B}{R:List (List Int)}(hn:n<=6)(hR:R.length<=1000)(hl:∀ r∈R,r.length<=100) :
  ∃ o',pIn [some (.val (.int (n:Nat))),some (.val (.lst (lp R))),o2,some (.own []),o4]=.ok (.nx,[some (.val (.int (n:Nat))),some (.val (.lst (lp R))),o2,some (.own (lp (R.flatMap (ztA n)))),o']):=by
 let N:Option B:=some (.val (.int (n:Nat)));let Z0:Ev:=[N,some (.val (.lst (lp R))),o2,some (.own []),o4]
 have hst:∀ row,(ztA n row).length<=6:=λrow=>by unfold ztA;rw[List.length_map];exact waN (List.length_filter_le _ _) (by rw[zbB];exact hn)
 obtain ⟨Z',⟨o',rfl⟩,e⟩:=zct (u:=tz) (l:=R) (g:=zbr 4) (body:=dEx (zg7 3 (dFz zv6))) (Z:=Z0) (Z0:=Z0) (ds:=lp R) (I:=λdn Z=>∃ o',Z=[N,some (.val (.lst (lp R))),o2,some (.own (lp (dn.flatMap (ztA n)))),o']) (fi:=dIt (zab 1)) rfl rfl ⟨o4,rfl⟩
  (λdn row zby e Z ⟨o',hρ⟩=>by
   subst hρ;have hrow:row∈R:=by rw[e];simp
   let Z1:Ev:=[N,some (.val (.lst (lp R))),o2,some (.own (lp (dn.flatMap (ztA n)))),some (.val (tz row))]
   have hcomp:zv6 Z1=.ok (((zaW n).filter λg=>!decide (g∈row)).map λg=>tz (row++[g]),Z1):=by
    have a0:zab 0 Z1=.ok (.int (n:Nat),Z1):=rfl;refine zbw (u:=Dt.int) (l:=zaW n) (zvv a0 xwo) rfl rfl (by rw[zbB];omega) (λg hg=>?_) λg hg _=>?_
    ·have a4:zab 4 (Z1++[some (.val (.int g))])=.ok (tz row,Z1++[some (.val (.int g))]):=rfl;have a5:zab 5 (Z1++[some (.val (.int g))])=.ok (.int g,Z1++[some (.val (.int g))]):=rfl;refine za4 (zao a5 a4 ?_);unfold tz;rw[(zgL rfl zin).1,zho];rfl
    ·have a4:zab 4 (Z1++[some (.val (.int g))])=.ok (tz row,Z1++[some (.val (.int g))]):=rfl;have a5:zd1 (dA (zab 5) dA0) (Z1++[some (.val (.int g))])=.ok (tz [g],Z1++[some (.val (.int g))]):=rfl;refine zao a4 a5 ?_;have:=hl row hrow;rw[<- zxB];exact zvC (by simp only[wag,wan,List.length_nil];omega)
   have hdn:(dn.flatMap (ztA n)).length<=6000:=by
    have h1:(dn.flatMap (ztA n)).length<=dn.length * 6:=zuz λa _=>hst a;have h2:dn.length<=R.length:=by rw[e];simp
    omega
   have hlp:lp (ztA n row)=((zaW n).filter λg=>!decide (g∈row)).map λg=>tz (row++[g]):=by unfold lp ztA;rw[List.map_map];rfl
   refine ⟨Z1,_,rfl,zeY (zpw (Z1:=Z1) rfl (zaL hcomp) rfl rfl ?_),some (.val (tz row)),?_⟩
   ·have:=hst row;rw[<- hlp,zoY,zoY];omega
   ·rw[List.flatMap_append,zrX,List.flatMap_singleton,hlp];rfl)
 exact ⟨o',e⟩
theorem zpG{n:Nat}(hn:n<=6):zdd [.val (.int (n:Nat))]=.ok (.lst (lp (zbo n n)),[.val .non]):=by
 let A:Option B:=some (.val (.int (n:Nat)));have hr:zdw (zab 0) [A,some (.val (.lst [.tup []])),none,none,none]=.ok ((List.range n).map λk:Nat=>Dt.int k,[A,some (.val (.lst [.tup []])),none,none,none]):=by have a0:zab 0 [A,some (.val (.lst [.tup []])),none,none,none]=.ok (.int (n:Nat),[A,some (.val (.lst [.tup []])),none,none,none]):=rfl;exact zm2 a0 xwo
 obtain ⟨Z',⟨o2,o3,o4,rfl⟩,e⟩:=zct (u:=λk:Nat=>Dt.int k) (l:=List.range n) (g:=zbr 2) (body:=zyV)
  (I:=λdn Z=>∃ o2 o3 o4,Z=[A,some (.val (.lst (lp (zbo n dn.length)))),o2,o3,o4]) hr rfl ⟨none,none,none,rfl⟩
  (λdn c zby e Z ⟨o2,o3,o4,hρ⟩=>by
   subst hρ;have hdl:dn.length<n:=by have:=congrArg List.length e;simp at this;omega
   have hle:=zhU n hn dn.length xwo;let C2:Option B:=some (.val (.int (c:Nat)));obtain ⟨o',e'⟩:=zth (n:=n) (o2:=C2) (o4:=o4) (R:=zbo n dn.length) hn xwo (λr hr=>by have:=(zgW.mp hr).1;omega)
   let Z1:Ev:=[A,some (.val (.lst (lp (zbo n dn.length)))),C2,o3,o4]
   let Z2:Ev:=[A,some (.val (.lst (lp (zbo n dn.length)))),C2,some (.own []),o4]
   have e2:pIn Z2=.ok (.nx,[A,some (.val (.lst (lp (zbo n dn.length)))),C2,some (.own (lp (zbo n (dn.length+1)))),o']):=e';refine ⟨Z1,[A,some (.val (.lst (lp (zbo n (dn.length+1))))),C2,some (.val (.lst (lp (zbo n (dn.length+1))))),o'],rfl,?_,C2,some (.val (.lst (lp (zbo n (dn.length+1))))),o',?_⟩
   ·show zyV Z1=_;rw[show zyV=zax (zcY 3 (zc7 dA0)) (zax pIn (zaX 1 (zhc 3))) from rfl,zag (Z1:=Z2) rfl,zag e2];rfl
   ·rw[List.length_append];rfl)
 refine zak (Z':=[A,some (.val (.lst (lp (zbo n (List.range n).length)))),o2,o3,o4]) rfl ?_ rfl;show zfA [A,none,none,none,none]=_;rw[zs8,zag (Z1:=[A,some (.val (.lst [.tup []])),none,none,none]) rfl,zag e,List.length_range];rfl
theorem zjc{bs q:List Tr}{b:Tr}{g:Int}{l:List Int}(A:zfm bs)(hq:∀ t∈q,t∈bs)(hb:b∈bs)(hg:g∈zad b)(h:zbE (g::l) q):∃ q',q=b::q'/\(g::l).take (zad b).length∈zaq b/\zbE ((g::l).drop (zad b).length) q':=by
 obtain ⟨ys,h1,e⟩:=h;cases h1 with
 |nil=>simp at e
 |@cons y t ys q h r =>
  have hy:=zat h;have hyn:y≠[]:=λz=>A.ne t (hq t wau) (by subst z;exact hy.symm.eq_nil);obtain ⟨g',y',rfl⟩:=waI hyn;rw[List.flatten_cons] at e;have eg:g'=g:=by simp only[List.cons_append] at e;exact (List.cons.inj e).1
  subst eg;have tb:t=b:=zey A.nd (hq t wau) hb (hy.mem_iff.mp wau) hg;subst tb;have hm:(zad t).length=(g'::y').length:=hy.length_eq.symm;refine ⟨q,rfl,?_,ys,r,?_⟩
  ·rw[<- e,hm,List.take_left];exact h
  ·rw[<- e,hm,List.drop_left]
theorem zqP{b:Tr}{q:List Tr}{l:List Int}{m:Nat}(h1:l.take m∈zaq b)(h2:zbE (l.drop m) q):zbE l (b::q):=by obtain ⟨ys,h3,e⟩:=h2;exact ⟨l.take m::ys,.cons h1 h3,by rw[List.flatten_cons,e,List.take_append_drop]⟩
noncomputable def sel(bs:List Tr)(pl:List Nat):List Tr:=pl.filterMap (bs[·]?)
theorem zdW{bs:List Tr}{i:Nat}{b:Tr}{pl:List Nat}(h:bs[i]? = some b):sel bs (i::pl)=b::sel bs pl:=by unfold sel;rw[List.filterMap_cons,h]
theorem zkE{bs:List Tr}{pl:List Nat}{t:Tr}(h:t∈sel bs pl):t∈bs:=by unfold sel at h;obtain ⟨i,_,e⟩:=List.mem_filterMap.mp h;exact waH e
theorem zn3{bs:List Tr}(hn:bs.Nodup):∀{a b:List Nat},(∀ i∈a,i<bs.length)->(∀ i∈b,i<bs.length)->sel bs a=sel bs b->a=b
 |[],[],_,_,_=>rfl
 |[],j::b,_,hb,e=>by rw[zdW (List.getElem?_eq_getElem (hb j List.mem_cons_self))] at e;simp[sel] at e
 |i::a,[],ha,_,e=>by rw[zdW (List.getElem?_eq_getElem (ha i List.mem_cons_self))] at e;simp[sel] at e
 |i::a,j::b,ha,hb,e=>by
  have hi:=ha i wau;have hj:=hb j wau;rw[zdW (List.getElem?_eq_getElem hi),zdW (List.getElem?_eq_getElem hj)] at e;obtain ⟨e1,e2⟩:=List.cons.inj e;have:i=j:=by
   rcases Nat.lt_trichotomy i j with h|h|h
   ·exact absurd e1 (List.pairwise_iff_getElem.mp hn i j hi hj h)
   ·exact h
   ·exact absurd e1.symm (List.pairwise_iff_getElem.mp hn j i hj hi h)
  rw[this,zn3 hn (λk hk=>ha k (List.mem_cons_of_mem _ hk)) (λk hk=>hb k (List.mem_cons_of_mem _ hk)) e2]
theorem zqG:∀(l pre:List Tr),sel (pre++l) (List.range' pre.length l.length)=l
 |[],pre=>by simp[sel]
 |t::l,pre=>by rw[List.length_cons,List.range'_succ,zdW (b:=t) (by rw[List.getElem?_append_right (Nat.le_refl _),Nat.sub_self];rfl)];have:=zqG l (pre++[t]);rw[List.append_assoc,List.length_append] at this;exact congrArg (t::·) this
theorem zgT(bs:List Tr):sel bs (List.range bs.length)=bs:=by rw[List.range_eq_range'];exact zqG bs []
theorem zrJ(bs:List Tr)(pl:List Nat):sel bs pl.reverse=(sel bs pl).reverse:=by unfold sel;rw[List.filterMap_reverse]
theorem znD{bs:List Tr}:∀{pl:List Nat},(∀ i∈pl,i<bs.length)->(sel bs pl).length=pl.length
 |[],_=>rfl
 |i::pl,h=>by rw[zdW (List.getElem?_eq_getElem (h i List.mem_cons_self)),List.length_cons,List.length_cons,znD λj hj=>h j (List.mem_cons_of_mem _ hj)]
theorem zkL{bs q:List Tr}{r:List Int}(A:zfm bs)(hq:∀ t∈q,t∈bs)(hr:r.Perm (zae bs))(h:zbE r q):q.Perm bs:=by
 have hp:(zae q).Perm (zae bs):=(zjd h).symm.trans hr;have hA:zfm q:=⟨hp.symm.nodup A.nd,λt ht=>A.ne t (hq t ht)⟩
 haveI:DecidableEq Tr:=λa b=>Classical.propDecidable (a=b)
 refine zng (zcI hA) (zcI A) λt=>⟨hq t,λht=>?_⟩
 obtain ⟨g,y,e⟩:=waI (A.ne t ht);have hg:g∈zad t:=by rw[e];exact wau
 obtain ⟨u,hu,gu⟩:=zaB.mp (hp.mem_iff.mpr (zaB.mpr ⟨t,ht,hg⟩));rw[zey A.nd ht (hq u hu) hg gu];exact hu
theorem zmr{bs:List Tr}:∀{pl:List Nat},(∀ i∈pl,i<bs.length)->(sel bs pl).Nodup->pl.Nodup
 |[],_,_=>.nil
 |i::pl,h,hn=>by have hi:=h i wau;rw[zdW (List.getElem?_eq_getElem hi)] at hn;rw[List.nodup_cons] at hn ⊢;refine ⟨λz=>hn.1 ?_,zmr (λj hj=>h j (wah _ hj)) hn.2⟩;unfold sel;exact List.mem_filterMap.mpr ⟨i,z,wac hi⟩
noncomputable def zbp(pl:List Nat):List Int:=pl.map λ(i:Nat)=>(i:Int)
theorem ziV:∀{a b:List Nat},zbp a=zbp b->a=b
 |[],[],_=>rfl
 |[],_::_,h=>by simp[zbp] at h
 |_::_,[],h=>by simp[zbp] at h
 |x::a,y::b,h=>by simp only[zbp,List.map_cons] at h;obtain ⟨h1,h2⟩:=List.cons.inj h;rw[ziV h2,Int.ofNat_inj.mp h1]
theorem zeQ(k:Nat):zbp (List.range k)=zaW k:=rfl
theorem zm7(l:List Nat):zbp l.reverse=(zbp l).reverse:=by unfold zbp;rw[List.map_reverse]
theorem zvd{bs:List Tr}{r:List Int}{pl:List Nat}(A:zfm bs)(hr:r.Perm (zae bs))(hpl:∀ i∈pl,i<bs.length)(h:zbE r (sel bs pl)):r∈zaq (.nd false bs):=by refine zaG.mpr ⟨sel bs pl,?_,h⟩;show sel bs pl∈znn bs.length bs;exact (zcB _ _ _ rfl).mpr (zkL A (λt=>zkE) hr h)
theorem zwL{bs:List Tr}{r:List Int}{pl:List Nat}(A:zfm bs)(hr:r.Perm (zae bs))(hpl:∀ i∈pl,i<bs.length)(h:zbE r (sel bs pl)) :
  zaK (zbp pl)=zaW bs.length/\(r∈zaq (.nd true bs) ↔ zbp pl=zaW bs.length\/zbp pl=(zaW bs.length).reverse):=by
 have hp:=zkL A (λt=>zkE) hr h;have hn:=zcI A;have hlen:pl.length=bs.length:=by rw[<- znD hpl,hp.length_eq]
 refine ⟨zjO.mpr ⟨?_,λx hx=>?_,?_⟩,?_⟩
 ·exact List.pairwise_map.mpr ((zmr hpl (hp.symm.nodup hn)).imp λhab e=>hab (Int.ofNat_inj.mp e))
 ·obtain ⟨i,hi,rfl⟩:=List.mem_map.mp hx;have:=hpl i hi;lia
 ·unfold zbp;rw[List.length_map,hlen]
 ·rw[zaG];have hR:∀ i∈List.range bs.length,i<bs.length:=λi hi=>List.mem_range.mp hi;have hR':∀ i∈(List.range bs.length).reverse,i<bs.length:=λi hi=>List.mem_range.mp (List.mem_reverse.mp hi);constructor
  ·rintro ⟨p,hp',hm⟩;have e:sel bs pl=p:=ztb A (λt=>zkE) (λt ht=>(zaC hp').mem_iff.mp ht) h hm;have:p=bs\/p=bs.reverse:=by simpa [arr] using hp'
   rcases this with rfl|rfl
   ·left;rw[<- zeQ,<- zn3 hn hpl hR (e.trans (zgT _).symm)]
   ·right;rw[<- zeQ,<- zm7,<- zn3 hn hpl hR' (e.trans (by rw[zrJ,zgT]))]
  ·rintro (e|e)
   ·have:=ziV (e.trans (zeQ _).symm);refine ⟨bs,by simp[arr],?_⟩;rw[this,zgT] at h;exact h
   ·have:=ziV (e.trans (by rw[zm7,zeQ]:(zaW bs.length).reverse=zbp (List.range bs.length).reverse));refine ⟨bs.reverse,by simp[arr],?_⟩;rw[this,zrJ,zgT] at h;exact h
theorem zuw{α:Type}(l:List α)(j:Nat):zjs l none (some (j:Int))=l.take j:=by
 unfold zjs;rw[HT.sIx_nat,HT.sIx_none,List.drop_zero,Nat.sub_zero];rcases Nat.le_total j l.length with h|h
 ·rw[Nat.min_eq_left h]
 ·rw[Nat.min_eq_right h,List.take_of_length_le (Nat.le_refl _),List.take_of_length_le h]
theorem zkY{α:Type}(l:List α)(j:Nat):zjs l (some (j:Int)) none=l.drop j:=by
 unfold zjs;rw[HT.sIx_nat,HT.sIx_none];rcases Nat.le_total j l.length with h|h
 ·rw[Nat.min_eq_left h,List.take_of_length_le xws]
 ·rw[Nat.min_eq_right h,List.drop_of_length_le (Nat.le_refl _),List.drop_of_length_le h];simp
theorem zwD(l:List Int)(j:Nat):Dt.tup ((l.map .int).take j)=tz (l.take j):=by unfold tz;rw[List.map_take]
theorem zr0(l:List Int)(j:Nat):Dt.tup ((l.map .int).drop j)=tz (l.drop j):=by unfold tz;rw[List.map_drop]
theorem zhE(l:List Int):okN 60 (tz l)=true:=by unfold tz;rw[okN,List.all_eq_true];intro d hd;obtain ⟨i,_,rfl⟩:=List.mem_map.mp hd;rfl
theorem ziI(l:List Int):okN 60 (.lst (l.map .int))=true:=ztG l 59
theorem zqs(a b:List Int):eqD (tz a) (tz b)=(a == b):=by unfold tz;rw[eqD,zlb]
theorem ztV(a b:List Int):eqD (.lst (a.map .int)) (.lst (b.map .int))=(a == b):=by rw[eqD,zlb]
noncomputable abbrev tC:DT:=dTB (dOp (gEq true) (zab 2) (zd1 dA0))
noncomputable abbrev zy3(j:Nat):De:=dOp gIx (dOp gIx (zab 0) (dC (.int 1))) (zab j)
noncomputable abbrev tLv(j:Nat):De:=zai (zaI 8) (dR (zy3 j) dR0)
noncomputable abbrev zyB:DN:=zbh (zdw (dFn zcb (dA (dOp gIx (zab 0) (dC (.int 1))) dA0))) (zbr 6) (dTB (dOp (gIn false) (dOp gIx (zab 2) (dC (.int 0))) (tLv 6))) (zab 6) 1
noncomputable abbrev zr6:DS:=zaX 4 (dOp gIx (dFz zyB) (dC (.int 0)))
noncomputable abbrev zq5:DS:=zaX 5 (dFn zcb (dA (tLv 4) dA0))
noncomputable abbrev zuc:De:=zhf (zab 2) dO0 (dO1 (zab 5))
noncomputable abbrev zv4:DS:=dIf (zgH (dTB (zqj false 3 (zab 4))) (dTB (dOp (gEq true) (dFz (zem zez (dA zuc dA0))) (dFz (zem zbl (dA (tLv 4) dA0)))))) (zbb (dC (.bl false))) dNx
noncomputable abbrev zwN(F:FD):DS:=dIf (zcp (dTB (zai F (dR (zy3 4) (dR zuc dR0))))) (zbb (dC (.bl false))) dNx
noncomputable abbrev zmK(F:FD):DS:=zax zr6 (zax zq5 (zax zv4 (zax (zwN F) (zax (dEx (zew 3 (zab 4))) (zaX 2 (zhf (zab 2) (dO1 (zab 5)) dO0))))))
noncomputable abbrev tEnd:De:=dOr (dOp (gEq false) (dOp gIx (zab 0) (dC (.int 0))) (dC (.str (Str.ofString "any")))) (dOp (gIn false) (zhc 3) (zd1 (dA (dFz (zem zbl (dA (zhc 3) dA0))) (dA (dFz (zgB (dFz (zem zbl (dA (zhc 3) dA0))))) dA0))))
theorem zqD(F:FD):zbC F=zax (dIf (dTB (zhw "int" (zab 0))) (zbb (dOp (gEq false) (zab 1) (zd1 (dA (zab 0) dA0)))) dNx) (zax (zaX 2 (zab 1)) (zax (zcY 3 (zc7 dA0)) (zax (zbG tC (zmK F) 10) (zbb tEnd)))):=rfl
theorem zoo{c:DT}{body:DS}{n:Nat}{Z Z1 Z2:Ev}(h:c Z=.ok (true,Z1))(hb:body Z1=.ok (.nx,Z2)):zbG c body (n+1) Z=zbG c body n Z2:=by rw[zbG,h];simp only[R.bind_ok,if_true,hb]
theorem zoI{c:DT}{body:DS}{n:Nat}{Z Z1 Z2:Ev}{d:Dt}(h:c Z=.ok (true,Z1))(hb:body Z1=.ok (.rt d,Z2)):zbG c body (n+1) Z=.ok (.rt d,Z2):=by rw[zbG,h];simp only[R.bind_ok,if_true,hb]
theorem zqW{c:DT}{body:DS}{n:Nat}{Z Z1:Ev}(h:c Z=.ok (false,Z1)):zbG c body (n+1) Z=.ok (.nx,Z1):=by rw[zbG,h];simp only[R.bind_ok,Bool.false_eq_true,if_false]
theorem zhs{g:List Dt->R (List Dt)}{f:De}{Z Z1:Ev}{d:Dt}{z:List Dt}(h:f Z=.ok (d,Z1))(hg:g [d]=.ok z):zem g (dA f dA0) Z=.ok (z,Z1):=by unfold zem dA dA0;rw[h];simp only[R.bind_ok,hg]
theorem ztB{l:List Int}(h:l.length<64):zez [tz l]=.ok ((zaK l).map .int):=by unfold zez tz;simp only[zqA,h,if_true]
theorem zha{l:List Int}(h:l.length<64):zbl [.lst (l.map .int)]=.ok ((zaK l).map .int):=by unfold zbl;simp only[zqA,h,if_true]
structure Nod(r:Bool)(bs:List Tr):Prop where
 A:zfm bs
 d:∀ b∈bs,dep b<=8
 k:bs.length<=6
 l:(zae bs).length<=6
theorem zq8{r:Bool}{bs:List Tr}{Z:Ev}{i j:Nat}{b:Tr}(h:zab 0 Z=.ok (toD (.nd r bs),Z))(hj:zab j Z=.ok (.int (i:Nat),Z))(hb:bs[i]? = some b):zy3 j Z=.ok (toD b,Z):=by have hi:=(wam.mp hb).1;refine zao (zdS h) hj (zn4 (v:=(i:Nat)) xwo (by rw[zaY,List.length_map];omega) ?_);rw[Int.toNat_natCast,zaY,List.getElem?_map,hb];rfl
theorem zqV{r:Bool}{bs:List Tr}{Z:Ev}{i j:Nat}{b:Tr}(N:Nod r bs)(h:zab 0 Z=.ok (toD (.nd r bs),Z))(hj:zab j Z=.ok (.int (i:Nat),Z))(hb:bs[i]? = some b):tLv j Z=.ok (.lst ((zad b).map .int),Z):=by have hm:=waH hb;exact zdf (zq8 h hj hb) (zeF 8 b (N.d b hm) (by have:=zdh hm;have:=N.l;omega))
theorem zrA{r:Bool}{bs:List Tr}{g:Int}{l:List Int}{R3 o3 o4 o5:Option B}(N:Nod r bs)(hg:g∈zae bs):∃ i b,bs[i]? = some b/\g∈zad b /\
  zr6 [some (.val (toD (.nd r bs))),R3,some (.val (tz (g::l))),o3,o4,o5]=.ok (.nx,[some (.val (toD (.nd r bs))),R3,some (.val (tz (g::l))),o3,some (.val (.int (i:Nat))),o5]):=by
 let Z:Ev:=[some (.val (toD (.nd r bs))),R3,some (.val (tz (g::l))),o3,o4,o5]
 have hv:zab 0 Z=.ok (toD (.nd r bs),Z):=rfl;have hlen:dFn zcb (dA (dOp gIx (zab 0) (dC (.int 1))) dA0) Z=.ok (.int (bs.length:Nat),Z):=zcf (zdS hv) (by show R.ok (Dt.int ((zka bs).length:Nat))=_;rw[zaY,List.length_map]);let p:Nat->Bool:=λi=>match bs[i]? with
  |some b=>decide (g∈zad b)
  |none=>false
 have hc:zyB Z=.ok (((List.range bs.length).filter p).map λi:Nat=>Dt.int i,Z):=by
  refine zbw (u:=λi:Nat=>Dt.int i) (l:=List.range bs.length) (zm2 hlen (by have:=N.k;omega)) rfl rfl (by rw[List.length_range];have:=N.k;omega) (λi hi=>?_) λi hi _=>?_
  ·have hi':=List.mem_range.mp hi;have e:bs[i]? = some bs[i]:=wac hi';have a0:zab 0 (Z++[some (.val (.int (i:Nat)))])=.ok (toD (.nd r bs),Z++[some (.val (.int (i:Nat)))]):=rfl;have a6:zab 6 (Z++[some (.val (.int (i:Nat)))])=.ok (.int (i:Nat),Z++[some (.val (.int (i:Nat)))]):=rfl;have a2:dOp gIx (zab 2) (dC (.int 0)) (Z++[some (.val (.int (i:Nat)))])=.ok (.int g,Z++[some (.val (.int (i:Nat)))]):=zao (d:=tz (g::l)) (Z1:=Z++[some (.val (.int (i:Nat)))]) rfl rfl (by unfold gIx tz;rw[List.map_cons];simp only[zfI]);refine za4 (zao a2 (zqV N a0 a6 e) ?_);rw[(zgL rfl zin).2,zho];show _=PV.R.ok (Dt.bl (match bs[i]? with|some b=>decide (g∈zad b)|none=>false));rw[e];rfl
  ·rfl
 obtain ⟨b,hb,gb⟩:=zaB.mp hg;obtain ⟨k,hk,ek⟩:=List.mem_iff_getElem.mp hb;have hkp:k∈(List.range bs.length).filter p:=by refine List.mem_filter.mpr ⟨List.mem_range.mpr hk,?_⟩;show (match bs[k]? with|some b=>decide (g∈zad b)|none=>false)=true;rw[List.getElem?_eq_getElem hk,ek];exact wat gb
 obtain ⟨i,zby,ei⟩:=waI (List.ne_nil_of_mem hkp);have hi:i∈(List.range bs.length).filter p:=by rw[ei];exact wau
 obtain ⟨h1,h2⟩:=List.mem_filter.mp hi;have hil:=List.mem_range.mp h1;have h2':(match bs[i]? with|some b=>decide (g∈zad b)|none=>false)=true:=h2;rw[List.getElem?_eq_getElem hil] at h2';refine ⟨i,bs[i],wac hil,of_decide_eq_true h2',?_⟩;rw[ei] at hc;exact zaE (Z1:=Z) (zao (zaL hc) rfl (by unfold gIx;rw[List.map_cons];simp only[zfI])) (by simp[Z])
theorem zkF{a b:List Int}(h:a.Perm b):zaK a=zaK b:=W.lks_uniq ((zaw a).trans (h.trans (zaw b).symm)) (zbO a) (zbO b)
theorem zpX{a b:List Int}(h:zaK a=zaK b):a.Perm b:=(zaw a).symm.trans (by rw[h];exact zaw b)
theorem ztK{i:Nat}{pl:List Nat}:((i:Int)∈zbp pl) ↔ i∈pl:=by unfold zbp;rw[List.mem_map];exact ⟨λ⟨j,hj,e⟩=>by rw[<- Int.ofNat_inj.mp e];exact hj,λh=>⟨i,h,rfl⟩⟩
section
variable{r:Bool}{bs:List Tr}{F:FD}{R:Option B}
theorem zuh{g:Int}{l:List Int}{pl:List Nat}{i:Nat}{b:Tr}{o5:Option B}(N:Nod r bs)(hl:(g::l).length<=6)(hb:bs[i]? = some b)(hpl:i∉pl)(Z2:Ev)(e2:Z2=[some (.val (toD (.nd r bs))),R,some (.val (tz (g::l))),some (.own ((zbp pl).map .int)),some (.val (.int (i:Nat))),some (.val (.int ((zad b).length:Nat)))]) :
  zq5 [some (.val (toD (.nd r bs))),R,some (.val (tz (g::l))),some (.own ((zbp pl).map .int)),some (.val (.int (i:Nat))),o5]=.ok (.nx,Z2) /\
  zgH (dTB (zqj false 3 (zab 4))) (dTB (dOp (gEq true) (dFz (zem zez (dA zuc dA0))) (dFz (zem zbl (dA (tLv 4) dA0))))) Z2=.ok (!(zaK ((g::l).take (zad b).length) == zaK (zad b)),Z2) /\
  zuc Z2=.ok (tz ((g::l).take (zad b).length),Z2)/\zhf (zab 2) (dO1 (zab 5)) dO0 Z2=.ok (tz ((g::l).drop (zad b).length),Z2):=by
 subst e2;let Z2:Ev:=[some (.val (toD (.nd r bs))),R,some (.val (tz (g::l))),some (.own ((zbp pl).map .int)),some (.val (.int (i:Nat))),some (.val (.int ((zad b).length:Nat)))]
 let Z1:Ev:=[some (.val (toD (.nd r bs))),R,some (.val (tz (g::l))),some (.own ((zbp pl).map .int)),some (.val (.int (i:Nat))),o5]
 have hbl:(zad b).length<=6:=by have:=zdh (waH hb);have:=N.l;omega
 have a2:zab 2 Z2=.ok (tz (g::l),Z2):=rfl;have a5:zab 5 Z2=.ok (.int ((zad b).length:Nat),Z2):=rfl;have a4:zab 4 Z2=.ok (.int (i:Nat),Z2):=rfl;have hpre:zuc Z2=.ok (tz ((g::l).take (zad b).length),Z2):=by refine (znh a2 rfl (zty a5)).trans ?_;rw[zuw,zwD]
 refine ⟨?_,?_,hpre,?_⟩
 ·have e:=zcf (g:=zcb) (z:=.int ((zad b).length:Nat)) (zqV (j:=4) (Z:=Z1) N rfl rfl hb) (by show PV.R.ok (Dt.int (((zad b).map Dt.int).length:Nat))=_;rw[List.length_map]);exact zaE e (by simp[Z1])
 ·have c1:dTB (zqj false 3 (zab 4)) Z2=.ok (false,Z2):=by refine za4 ?_;unfold zqj;rw[a4];show ((gIn false (.int (i:Nat)) (.lst ((zbp pl).map .int))).bind λz=>PV.R.ok (z,Z2))=_;rw[(zgL rfl zin).2,zho];have:decide ((i:Int)∈zbp pl)=false:=waw λz=>hpl (ztK.mp z);rw[this];rfl
  have c2:dTB (dOp (gEq true) (dFz (zem zez (dA zuc dA0))) (dFz (zem zbl (dA (tLv 4) dA0)))) Z2=.ok (!(zaK ((g::l).take (zad b).length) == zaK (zad b)),Z2):=by
   refine za4 (zao (zaL (zhs hpre (ztB ?_))) (zaL (zhs (zqV (j:=4) N rfl rfl hb) (zha xwo))) ?_)
   ·rw[List.length_take];omega
   ·rw[zbt (ziI _) (ziI _),ztV];rfl
  rw[show zgH _ _ Z2=_ from zgE c1];exact c2
 ·refine (znh a2 (zty a5) rfl).trans ?_;rw[zkY,zr0]
theorem zqX{T o3 o4 o5:Option B}(left:List Int):tC [T,R,some (.val (tz left)),o3,o4,o5]=.ok (!left.isEmpty,[T,R,some (.val (tz left)),o3,o4,o5]):=by
 let Z:Ev:=[T,R,some (.val (tz left)),o3,o4,o5]
 have a2:zab 2 Z=.ok (tz left,Z):=rfl;have a0:zd1 dA0 Z=.ok (tz [],Z):=rfl;refine za4 (zao a2 a0 ?_);rw[zbt (zhE _) (zhE _),zqs];cases left <;> rfl
theorem zmt(N:Nod r bs)(IH:∀ b∈bs,∀ x:List Int,x.Perm (zad b)->F [.val (toD b),.val (tz x)]=.ok (.bl (decide (x∈zaq b)),[.val .non,.val .non])) :
  ∀(f:Nat)(left:List Int)(pl:List Nat)(o4 o5:Option B),left.length<f->left.length<=6->left.Nodup->(∀ g∈left,g∈zae bs)->(∀ i∈pl,∀ b,bs[i]? = some b->∀ g∈zad b,g∉left)->pl.length+left.length<=10 ->
   (∃ a2 a3 a4 a5,zbG tC (zmK F) f [some (.val (toD (.nd r bs))),R,some (.val (tz left)),some (.own ((zbp pl).map .int)),o4,o5]=.ok (.rt (.bl false),[some (.val (toD (.nd r bs))),R,a2,a3,a4,a5])/\¬ ∃ q,(∀ t∈q,t∈bs)/\zbE left q) \/
   (∃ pl' a4 a5,zbG tC (zmK F) f [some (.val (toD (.nd r bs))),R,some (.val (tz left)),some (.own ((zbp pl).map .int)),o4,o5]=.ok (.nx,[some (.val (toD (.nd r bs))),R,some (.val (tz [])),some (.own ((zbp (pl++pl')).map .int)),a4,a5])/\(∀ i∈pl',i<bs.length)/\zbE left (sel bs pl'))
 |0,left,pl,o4,o5,h,_,_,_,_,_=>by omega
 |f+1,[],pl,o4,o5,_,_,_,_,_,_=>by right;refine ⟨[],o4,o5,?_,xws,[],.nil,rfl⟩;rw[List.append_nil];exact zqW (zqX [])
 |f+1,g::l,pl,o4,o5,hf,h6,hn,hin,hpl,h10=>by
  obtain ⟨i,b,hb,gb,e1⟩:=zrA (r:=r) (bs:=bs) (g:=g) (l:=l) (R3:=R) (o3:=some (.own ((zbp pl).map .int))) (o4:=o4) (o5:=o5) N (hin g wau);have hbm:=waH hb;have hi:=(wam.mp hb).1;have hip:i∉pl:=λz=>hpl i z b hb g gb wau;have hne:zad b≠[]:=N.A.ne b hbm;have hm1:1<=(zad b).length:=Nat.pos_of_ne_zero λz=>hne (List.length_eq_zero_iff.mp z);let T:Option B:=some (.val (toD (.nd r bs)));let Z2:Ev:=[T,R,some (.val (tz (g::l))),some (.own ((zbp pl).map .int)),some (.val (.int (i:Nat))),some (.val (.int ((zad b).length:Nat)))]
  obtain ⟨e2,e3,e4,e5⟩:=zuh (r:=r) (R:=R) (g:=g) (l:=l) (pl:=pl) (o5:=o5) N h6 hb hip Z2 rfl;have hc:=zqX (R:=R) (T:=T) (o3:=some (.own ((zbp pl).map .int))) (o4:=o4) (o5:=o5) (g::l);have hkid:zy3 4 Z2=.ok (toD b,Z2):=zq8 (r:=r) rfl rfl hb;by_cases hp:((g::l).take (zad b).length).Perm (zad b)
  ·have e3':zgH (dTB (zqj false 3 (zab 4))) (dTB (dOp (gEq true) (dFz (zem zez (dA zuc dA0))) (dFz (zem zbl (dA (tLv 4) dA0))))) Z2=.ok (false,Z2):=by rw[e3,zkF hp];simp
   have hcall:zai F (dR (zy3 4) (dR zuc dR0)) Z2=.ok (.bl (decide ((g::l).take (zad b).length∈zaq b)),Z2):=zdv hkid e4 (IH b hbm _ hp);by_cases hr:(g::l).take (zad b).length∈zaq b
   ·rw[decide_eq_true hr] at hcall;have hlen:pl.length+1<=10:=by simp only[wan] at h10;omega
    have hbody:zmK F [T,R,some (.val (tz (g::l))),some (.own ((zbp pl).map .int)),o4,o5]=.ok (.nx,[T,R,some (.val (tz ((g::l).drop (zad b).length))),some (.own ((zbp (pl++[i])).map .int)),some (.val (.int (i:Nat))),some (.val (.int ((zad b).length:Nat)))]):=by
     let Z3:Ev:=[T,R,some (.val (tz (g::l))),some (.own ((zbp (pl++[i])).map .int)),some (.val (.int (i:Nat))),some (.val (.int ((zad b).length:Nat)))]
     have y1:dEx (zew 3 (zab 4)) Z2=.ok (.nx,Z3):=by
      have:=zrB (i:=3) (fa:=zab 4) (Z:=Z2) (Z1:=Z2) (l0:=(zbp pl).map .int) (ds:=(zbp pl).map .int) (d:=.int (i:Nat)) rfl rfl rfl (by unfold zbp;rw[List.length_map,List.length_map];omega);refine (zeY this).trans ?_;show PV.R.ok (Fl.nx,[T,R,_,some (B.own ((zbp pl).map Dt.int++[Dt.int (i:Nat)])),_,_])=_;have:(zbp (pl++[i])).map Dt.int=(zbp pl).map Dt.int++[Dt.int (i:Nat)]:=by unfold zbp;simp
      rw[show Z3=[T,R,some (.val (tz (g::l))),some (.own ((zbp (pl++[i])).map .int)),some (.val (.int (i:Nat))),some (.val (.int ((zad b).length:Nat)))] from rfl,this]
     have a2:zab 2 Z3=.ok (tz (g::l),Z3):=rfl;have a5:zab 5 Z3=.ok (.int ((zad b).length:Nat),Z3):=rfl;have y2:zhf (zab 2) (dO1 (zab 5)) dO0 Z3=.ok (tz ((g::l).drop (zad b).length),Z3):=by refine (znh a2 (zty a5) rfl).trans ?_;rw[zkY,zr0]
     rw[show zmK F=zax zr6 (zax zq5 (zax zv4 (zax (zwN F) (zax (dEx (zew 3 (zab 4))) (zaX 2 (zhf (zab 2) (dO1 (zab 5)) dO0)))))) from rfl,zag e1,zag e2,zag (Z1:=Z2) (by rw[show zv4 Z2=_ from zbF e3'];rfl),zag (Z1:=Z2) (by rw[show zwN F Z2=_ from zbF (zfJ (za4 hcall))];rfl),zag y1];exact zaE y2 (by simp[Z3])
    have htd:((g::l).take (zad b).length++(g::l).drop (zad b).length).Nodup:=by rw[List.take_append_drop];exact hn
    rw[List.nodup_append] at htd;have hdl:((g::l).drop (zad b).length).length+1<=(g::l).length:=by rw[List.length_drop];simp only[wan] at *;omega
    have hsub:∀ x∈(g::l).drop (zad b).length,x∈g::l:=λx hx=>List.mem_of_mem_drop hx;rcases zmt N IH f ((g::l).drop (zad b).length) (pl++[i]) (some (.val (.int (i:Nat)))) (some (.val (.int ((zad b).length:Nat)))) xwo xwo htd.2.1 (λx hx=>hin x (hsub x hx)) (λj hj c hc x hx z=>by
      rcases wax.mp hj with hj|hj
      ·exact hpl j hj c hc x hx (hsub x z)
      ·rw[List.mem_singleton] at hj;subst hj;rw[hb] at hc;cases hc;exact htd.2.2 x (hp.mem_iff.mpr hx) x z rfl) (by rw[List.length_append];simp only[wan,List.length_nil] at *;omega) with ⟨a2,a3,a4,a5,ew,hno⟩|⟨pl',a4,a5,ew,h1,h2⟩
    ·left;refine ⟨a2,a3,a4,a5,(zoo hc hbody).trans ew,λ⟨q,hq,hM⟩=>?_⟩;obtain ⟨q',rfl,_,h3⟩:=zjc N.A hq hbm gb hM;exact hno ⟨q',λt ht=>hq t (wah _ ht),h3⟩
    ·right;refine ⟨i::pl',a4,a5,(zoo hc hbody).trans ?_,λj hj=>?_,?_⟩
     ·rw[ew,List.append_assoc];rfl
     ·rcases wap.mp hj with rfl|hj
      ·exact hi
      ·exact h1 j hj
     ·rw[zdW hb];exact zqP hr h2
   ·left;rw[decide_eq_false hr] at hcall;refine ⟨_,_,_,_,zoI hc (Z2:=Z2) ?_,λ⟨q,hq,hM⟩=>?_⟩
    ·rw[show zmK F=zax zr6 (zax zq5 (zax zv4 (zax (zwN F) (zax (dEx (zew 3 (zab 4))) (zaX 2 (zhf (zab 2) (dO1 (zab 5)) dO0)))))) from rfl,zag e1,zag e2,zag (Z1:=Z2) (by rw[show zv4 Z2=_ from zbF e3'];rfl)];exact zb1 (by rw[show zwN F Z2=_ from zdG (zfJ (za4 hcall))];rfl)
    ·obtain ⟨q',rfl,h3,_⟩:=zjc N.A hq hbm gb hM;exact hr h3
  ·left;have e3':zgH (dTB (zqj false 3 (zab 4))) (dTB (dOp (gEq true) (dFz (zem zez (dA zuc dA0))) (dFz (zem zbl (dA (tLv 4) dA0))))) Z2=.ok (true,Z2):=by have:(zaK ((g::l).take (zad b).length) == zaK (zad b))=false:=beq_false_of_ne λz=>hp (zpX z);rw[e3,this];rfl
   refine ⟨_,_,_,_,zoI hc (Z2:=Z2) ?_,λ⟨q,hq,hM⟩=>?_⟩
   ·rw[show zmK F=zax zr6 (zax zq5 (zax zv4 (zax (zwN F) (zax (dEx (zew 3 (zab 4))) (zaX 2 (zhf (zab 2) (dO1 (zab 5)) dO0)))))) from rfl,zag e1,zag e2];exact zb1 (by rw[show zv4 Z2=_ from zdG e3'];rfl)
   ·obtain ⟨q',rfl,h3,_⟩:=zjc N.A hq hbm gb hM;exact hp (zat h3)
end
theorem zrc{r:Bool}{bs:List Tr}{R a2 a4 a5:Option B}{P:List Int}(hl:P.length<64):∃ a3,tEnd [some (.val (toD (.nd r bs))),R,a2,some (.own (P.map .int)),a4,a5]=.ok (.bl (!r || (zaK P == P || (zaK P).reverse == P)),[some (.val (toD (.nd r bs))),R,a2,a3,a4,a5]):=by
 let Z:Ev:=[some (.val (toD (.nd r bs))),R,a2,some (.own (P.map .int)),a4,a5]
 let Z1:Ev:=[some (.val (toD (.nd r bs))),R,a2,some (.val (.lst (P.map .int))),a4,a5]
 have hv:zab 0 Z=.ok (toD (.nd r bs),Z):=rfl;cases r with
 |false =>
  refine ⟨some (.own (P.map .int)),?_⟩;show dOr _ _ Z=_;unfold dOr;rw[zlc hv];rfl
 |true =>
  refine ⟨some (.val (.lst (P.map .int))),?_⟩;show dOr _ _ Z=_;unfold dOr;rw[zlc hv];have u0:zhc 3 Z=.ok (.lst (P.map .int),Z1):=rfl;have u1:zhc 3 Z1=.ok (.lst (P.map .int),Z1):=rfl;have s1:dFz (zem zbl (dA (zhc 3) dA0)) Z1=.ok (.lst ((zaK P).map .int),Z1):=zaL (zhs u1 (zha hl));have s2:dFz (zgB (dFz (zem zbl (dA (zhc 3) dA0)))) Z1=.ok (.lst ((zaK P).reverse.map .int),Z1):=by refine zaL ?_;unfold zgB;rw[s1];simp only[PV.R.bind_ok];rw[List.map_reverse]
  have s3:zd1 (dA (dFz (zem zbl (dA (zhc 3) dA0))) (dA (dFz (zgB (dFz (zem zbl (dA (zhc 3) dA0))))) dA0)) Z1=.ok (.tup [.lst ((zaK P).map .int),.lst ((zaK P).reverse.map .int)],Z1):=zrz (zpD s1 (zpD s2 rfl)) xws;have:=zao (g:=gIn false) u0 s3 (zgL (neg:=false) (ziI P) (λd hd=>by
   simp only[wap,wak,or_false] at hd;rcases hd with rfl|rfl
   ·exact ziI _
   ·exact ziI _)).1
  simp only[PV.R.bind_ok,Bool.not_true,Bool.false_or];refine this.trans ?_;have:inD (.lst (P.map .int)) [.lst ((zaK P).map .int),.lst ((zaK P).reverse.map .int)]=(zaK P == P || (zaK P).reverse == P):=by unfold inD;rw[List.any_cons,List.any_cons,List.any_nil,ztV,ztV,Bool.or_false]
  rw[this];rfl
theorem zwg{F:FD}{r:Bool}{bs:List Tr}{row:List Int}(N:Nod r bs)(IH:∀ b∈bs,∀ x:List Int,x.Perm (zad b)->F [.val (toD b),.val (tz x)]=.ok (.bl (decide (x∈zaq b)),[.val .non,.val .non]))(hr:row.Perm (zae bs)) :
  zav false [false,false] 4 (zbC F) [.val (toD (.nd r bs)),.val (tz row)]=.ok (.bl (decide (row∈zaq (.nd r bs))),[.val .non,.val .non]):=by
 let T:Option B:=some (.val (toD (.nd r bs)));let R:Option B:=some (.val (tz row));let Z0:Ev:=[T,R,none,none,none,none]
 let Z1:Ev:=[T,R,R,none,none,none]
 let Z2:Ev:=[T,R,R,some (.own []),none,none]
 have hrl:row.length<=6:=by rw[hr.length_eq];exact N.l
 have x0:dIf (dTB (zhw "int" (zab 0))) (zbb (dOp (gEq false) (zab 1) (zd1 (dA (zab 0) dA0)))) dNx Z0=.ok (.nx,Z0):=by
  have:dTB (zhw "int" (zab 0)) Z0=.ok (false,Z0):=by refine za4 ?_;unfold zhw;rw[show zab 0 Z0=.ok (toD (.nd r bs),Z0) from rfl,toD];rfl
  rw[zbF this];rfl
 rcases zmt (r:=r) (F:=F) (R:=R) N IH 10 row [] none none xwo hrl (hr.symm.nodup N.A.nd) (λg hg=>hr.mem_iff.mp hg) (λi hi=>by cases hi) (by simp;omega) with ⟨a2,a3,a4,a5,ew,hno⟩|⟨pl',a4,a5,ew,h1,h2⟩
 ·have hf:decide (row∈zaq (.nd r bs))=false:=waw λz=>by obtain ⟨p,hp,hm⟩:=zaG.mp z;exact hno ⟨p,λt ht=>(zaC hp).mem_iff.mp ht,hm⟩
  rw[hf];refine zak (Z':=[T,R,a2,a3,a4,a5]) rfl ?_ rfl;show zbC F Z0=_;rw[zqD,zag x0,zag (Z1:=Z1) rfl,zag (Z1:=Z2) rfl];exact zb1 ew
 ·rw[List.nil_append] at ew;have hpl:(zbp pl').length<64:=by have:=(zjd h2).length_eq;have h3:=zkL N.A (λt=>zkE) hr h2;have:=h3.length_eq;rw[znD h1] at this;unfold zbp;rw[List.length_map];have:=N.k;omega
  obtain ⟨a3,ee⟩:=zrc (r:=r) (bs:=bs) (R:=R) (a2:=some (.val (tz []))) (a4:=a4) (a5:=a5) (P:=zbp pl') hpl;have hval:(!r || (zaK (zbp pl') == zbp pl' || (zaK (zbp pl')).reverse == zbp pl'))=decide (row∈zaq (.nd r bs)):=by
   cases r with
   |false =>
    rw[decide_eq_true (zvd N.A hr h1 h2)];rfl
   |true =>
    obtain ⟨h3,h4⟩:=zwL N.A hr h1 h2;rw[h3,Bool.eq_iff_iff];simp only[Bool.not_true,Bool.false_or,Bool.or_eq_true,beq_iff_eq,war,h4];exact ⟨λh=>h.elim (λe=>.inl e.symm) λe=>.inr e.symm,λh=>h.elim (λe=>.inl e.symm) λe=>.inr e.symm⟩
  rw[hval] at ee;refine zak (Z':=[T,R,some (.val (tz [])),a3,a4,a5]) rfl ?_ rfl;show zbC F Z0=_;have ew2:zbG tC (zmK F) 10 Z2=.ok (.nx,[T,R,some (.val (tz [])),some (.own ((zbp pl').map .int)),a4,a5]):=ew;rw[zqD,zag x0,zag (Z1:=Z1) rfl,zag (Z1:=Z2) rfl,zag ew2];exact zba ee
theorem zsa:∀(n:Nat)(t:Tr),dep t<=n->dep t<=8->okT t=true->(zad t).Nodup->(zad t).length<=6->∀ row:List Int,row.Perm (zad t)->zci n [.val (toD t),.val (tz row)]=.ok (.bl (decide (row∈zaq t)),[.val .non,.val .non])
 |0,t,h,_,_,_,_=>by cases t <;> simp[dep] at h
 |n+1,.lf g,_,_,_,_,_=>λrow hr=>by
  let Z:Ev:=[some (.val (.int g)),some (.val (tz row)),none,none,none,none]
  refine zak (Z':=Z) rfl ?_ rfl;rw[toD];show zbC _ Z=_;rw[zqD];have a1:zab 1 Z=.ok (tz row,Z):=rfl;have a0:zd1 (dA (zab 0) dA0) Z=.ok (tz [g],Z):=rfl;refine zb1 ?_;rw[zdG (Z1:=Z) (za4 rfl)];refine zba (zao a1 a0 ?_);rw[zbt (zhE _) (zhE _),zqs,zaq];congr 2;rw[Bool.eq_iff_iff];simp
 |n+1,.nd r bs,h,h8,ho,hn,h6=>λrow hr=>by
  have hh:=zoQ h ho hn;have hd8:∀ b∈bs,dep b<=8:=λb hb=>by simp only[dep] at h8;have:=zaS.mp (wal (zdt bs)) b hb;omega
  have hsub:∀ b∈bs,(zad b).length<=6:=λb hb=>by have:=zdh hb;rw[zad] at h6;omega
  have hk:bs.length<=6:=by have:=znX bs (wal _) (by rw[okT,Bool.and_eq_true] at ho;exact ho.2);rw[zad] at h6;omega
  rw[zad] at hr h6;exact zwg (F:=zci n) ⟨hh.1,hd8,hk,h6⟩ (λb hb x hx=>zsa n b (hh.2 b hb).1 (hd8 b hb) (hh.2 b hb).2.1 (hh.2 b hb).2.2 (hsub b hb) x hx) hr
theorem zdu{f:DN}{Z Z1:Ev}{l:List Dt}(h:f Z=.ok (l,Z1)):zeb f Z=.ok (.rt (.lst l),Z1):=by unfold zeb;rw[h];rfl
theorem zvO{t:Tr}{rs:List (List Int)}(hd:dep t<=8)(ho:okT t=true)(hn:(zad t).Nodup)(h6:(zad t).length<=6)(hl:rs.length<=1000)(hr:∀ r∈rs,r.Perm (zad t)) :
  zbj [.val (toD t),.val (.lst (lp rs))]=.ok (.lst (lp (rs.filter λr=>decide (r∈zaq t))),[.val .non,.val .non]):=by
 let Z:Ev:=[some (.val (toD t)),some (.val (.lst (lp rs)))]
 refine zak (Z':=Z) rfl ?_ rfl;refine zdu ?_;refine (zbw (u:=tz) (f:=tz) (p:=λr=>decide (r∈zaq t)) (l:=rs) (ds:=lp rs) rfl rfl rfl xwo (λr hr'=>?_) λr hr' _=>rfl).trans rfl;have a0:zab 0 (Z++[some (.val (tz r))])=.ok (toD t,Z++[some (.val (tz r))]):=rfl;have a2:zab 2 (Z++[some (.val (tz r))])=.ok (tz r,Z++[some (.val (tz r))]):=rfl;exact za4 (zdv a0 a2 (zsa 8 t hd hd ho hn h6 r (hr r hr')))
theorem zgC{u x v a y b:List Int}(hn:(u++x++v).Nodup)(e:u++x++v=a++y++b)(hy:∀ g∈y,g∈x)(hne:y≠[]):∃ a' b',x=a'++y++b':=by
 rw[List.append_assoc,List.nodup_append] at hn;obtain ⟨_,hxv,hux⟩:=hn;rw[List.nodup_append] at hxv;have main:∀ c,x++v=c++(y++b)->∃ a' b',x=a'++y++b':=λc h=>by
  rw[<- List.append_assoc] at h;rcases List.append_eq_append_iff.mp h with ⟨w,h1,h2⟩|⟨w,h1,h2⟩
  ·by_cases hw:w=[]
   ·subst hw;rw[List.append_nil] at h1;exact ⟨c,[],by rw[List.append_nil,h1]⟩
   ·exfalso;have e1:=List.dropLast_concat_getLast hne;have e2:=List.dropLast_concat_getLast hw;rw[<- e1,<- e2,<- List.append_assoc,<- List.append_assoc] at h1;have e3:=(List.append_inj' h1 rfl).2;have e4:y.getLast hne=w.getLast hw:=(List.cons.inj e3).1;have hin:w.getLast hw∈v:=by rw[h2];exact waR _ (List.getLast_mem hw)
    exact hxv.2.2 _ (hy _ (List.getLast_mem hne)) _ hin e4
  ·exact ⟨c,w,h1⟩
 rw[List.append_assoc,List.append_assoc] at e;rcases List.append_eq_append_iff.mp e with ⟨c,_,h2⟩|⟨c,h1,h2⟩
 ·exact main c h2
 ·cases c with
  |nil=>exact main [] (by rw[List.nil_append] at h2 ⊢;exact h2.symm)
  |cons g c =>
   exfalso;obtain ⟨z,y',rfl⟩:=waI hne;have eg:z=g:=by simp only[List.cons_append] at h2;exact (List.cons.inj h2).1
   subst eg;have:z∈u:=by rw[h1];exact waz _ wau
   exact hux z this z (waR _ (hy z wau)) rfl
theorem zoT:∀(n:Nat)(rem:List Tr)(x:List Int),rem.length=n->zfm rem->x.Perm (zae rem)->(∀ b∈rem,∃ a y c,x=a++y++c/\y∈zaq b)->∃ p,p.Perm rem/\zbE x p
 |0,rem,x,h,_,hx,_=>by have:rem=[]:=List.length_eq_zero_iff.mp h;subst this;rw[zae] at hx;rw[hx.eq_nil];exact ⟨[],.refl _,[],.nil,rfl⟩
 |n+1,rem,x,h,A,hx,H=>by
  have hxn:x.Nodup:=hx.symm.nodup A.nd;have hne:x≠[]:=λz=>by
   subst z;obtain ⟨b,r,rfl⟩ : ∃ b r,rem=b::r:=waI λz=>by subst z;simp at h
   have:=hx.symm.eq_nil;rw[zae] at this;exact A.ne b wau (List.append_eq_nil_iff.mp this).1
  obtain ⟨g,x',rfl⟩:=waI hne;obtain ⟨b,hb,gb⟩:=zaB.mp (hx.mem_iff.mp wau);obtain ⟨a,y,c,e,hy⟩:=H b hb;have hyp:=zat hy;have ha:a=[]:=by
   cases a with
   |nil=>rfl
   |cons z a =>
    exfalso;have ez:g=z:=by simp only[List.cons_append] at e;exact (List.cons.inj e).1
    subst ez;rw[e,List.append_assoc,List.nodup_append] at hxn;exact hxn.2.2 g wau g (waR _ (hyp.mem_iff.mpr gb)) rfl
  subst ha;rw[List.nil_append] at e;obtain ⟨s,t,rfl⟩:=List.append_of_mem hb;have pm:(s++b::t).Perm (b::(s++t)):=List.perm_middle;have hc:c.Perm (zae (s++t)):=by
   have h1:(y++c).Perm (zad b++zae (s++t)):=by rw[<- e];have:=hx.trans (zbk pm);rw[zae] at this;exact this
   exact (List.perm_append_left_iff y).mp (h1.trans (hyp.symm.append_right _))
  have hA:zfm (s++t):=by have:=(zbk pm).nodup A.nd;rw[zae,List.nodup_append] at this;exact ⟨this.2.1,λu hu=>A.ne u (pm.mem_iff.mpr (wah _ hu))⟩
  obtain ⟨p,hp,hM⟩:=zoT n (s++t) c (by have:=pm.length_eq;simp only[wan] at this;lia) hA hc λu hu=>by obtain ⟨a',y',c',e',hy'⟩:=H u (pm.mem_iff.mpr (wah _ hu));have hyp':=zat hy';obtain ⟨a2,c2,e2⟩:=zgC (u:=y) (x:=c) (v:=[]) (a:=a') (y:=y') (b:=c') (by rw[List.append_nil,<- e];exact hxn) (by rw[List.append_nil,<- e];exact e') (λz hz=>hc.mem_iff.mpr (zaB.mpr ⟨u,hu,hyp'.mem_iff.mp hz⟩)) (λz=>hA.ne u hu (by subst z;exact hyp'.symm.eq_nil));exact ⟨a2,y',c2,e2,hy'⟩
  refine ⟨b::p,(hp.cons b).trans pm.symm,?_⟩;obtain ⟨ys,h1,h2⟩:=hM;exact ⟨y::ys,.cons hy h1,by rw[List.flatten_cons,h2,e]⟩
theorem zfe{s a y c:List Int}{g:Int}(hn:s.Nodup)(e:s=a++y++c)(hg:g∈y):a.length<=s.idxOf g/\s.idxOf g<a.length+y.length:=by subst e;rw[List.append_assoc,List.nodup_append] at hn;have hga:g∉a:=λz=>hn.2.2 g z g (waR _ hg) rfl;rw[List.append_assoc,List.idxOf_append,if_neg hga,List.idxOf_append,if_pos hg];have:=List.idxOf_lt_length_of_mem hg;lia
theorem zjT{f:Tr->Int}:∀{p:List Tr}{ys:List (List Int)}{s u v:List Int},s.Nodup->s=u++ys.flatten++v->Paired (λy t=>y∈zaq t) ys p->(∀ b∈p,f b∈zad b)->(p.map λb=>((s.idxOf (f b):Nat):Int)).Pairwise (· < ·)/\∀ b∈p,u.length<=s.idxOf (f b)
 |[],_,s,u,v,_,_,.nil,_=>⟨.nil,xws⟩
 |b::p,y::ys,s,u,v,hn,e,.cons h t,hf=>by
  rw[List.flatten_cons] at e;have e1:s=u++y++(ys.flatten++v):=by rw[e];simp
  have e2:s=(u++y)++ys.flatten++v:=by rw[e];simp
  have hb:=zfe hn e1 ((zat h).mem_iff.mpr (hf b wau));obtain ⟨h1,h2⟩:=zjT (f:=f) hn e2 t λc hc=>hf c (wah _ hc);refine ⟨List.pairwise_cons.mpr ⟨λz hz=>?_,h1⟩,λc hc=>?_⟩
  ·obtain ⟨c,hc,rfl⟩:=List.mem_map.mp hz;have:=h2 c hc;rw[List.length_append] at this;show ((s.idxOf (f b):Nat):Int)<((s.idxOf (f c):Nat):Int);lia
  ·rcases wap.mp hc with rfl|hc
   ·exact hb.1
   ·have:=h2 c hc;rw[List.length_append] at this;lia
noncomputable def zaj(b:Tr):Int:=(zaK (zad b)).headD 0
theorem zgI{b:Tr}(h:zad b≠[]):zaj b∈zad b:=by unfold zaj;have hn:zaK (zad b)≠[]:=λz=>h (by have:=zaw (zad b);rw[z] at this;exact this.symm.eq_nil);obtain ⟨g,r,e⟩:=waI hn;rw[e];exact (zaw _).mem_iff.mp (by rw[e];exact wau)
noncomputable def Seg(t:Tr)(s:List Int):Prop:=∃ u x v,s=u++x++v/\x∈zaq t
theorem paired_rev{α β:Type}{F:α->β->Prop}:∀{l:List α}{r:List β},Paired F l r->Paired F l.reverse r.reverse
 |_,_,.nil=>.nil
 |_,_,.cons h t=>by rw[List.reverse_cons,List.reverse_cons];exact zgu h (paired_rev t)
theorem zgo{α β:Type}{F F':α->β->Prop}{g:α->α}:∀{l:List α}{r:List β},Paired F l r->(∀ a b,F a b->F' (g a) b)->Paired F' (l.map g) r
 |_,_,.nil,_=>.nil
 |_,_,.cons h t,H=>.cons (H _ _ h) (zgo t H)
theorem zpa:∀ ys:List (List Int),(ys.reverse.map List.reverse).flatten=ys.flatten.reverse
 |[]=>rfl
 |y::ys=>by rw[List.reverse_cons,List.map_append,List.flatten_append,zpa ys,List.flatten_cons,List.reverse_append];simp
theorem zvt{r:Bool}{bs p:List Tr}(h:p∈arr r bs):p.reverse∈arr r bs:=by
 cases r with
 |false=>exact (zcB _ _ _ rfl).mpr ((List.reverse_perm p).trans (zaC h))
 |true =>
  have:p=bs\/p=bs.reverse:=by simpa [arr] using h
  rcases this with rfl|rfl
  ·simp[arr]
  ·simp[arr]
theorem zsq:∀(n:Nat)(t:Tr),dep t<=n->∀ x∈zaq t,x.reverse∈zaq t
 |0,t,h,_,_=>by cases t <;> simp[dep] at h
 |n+1,.lf g,_,x,hx=>by rw[zaq,List.mem_singleton] at hx;subst hx;rw[zaq];simp
 |n+1,.nd r bs,h,x,hx=>by
  simp only[dep] at h;have hd:=zaS.mp (by omega:zdt bs<=n);obtain ⟨p,hp,ys,h1,rfl⟩:=zaG.mp hx;refine zaG.mpr ⟨p.reverse,zvt hp,ys.reverse.map List.reverse,?_,zpa ys⟩;have:Paired (λy t=>y∈zaq t/\dep t<=n) ys p:=by
   have pb:∀ t∈p,dep t<=n:=λt ht=>hd t ((zaC hp).mem_iff.mp ht);clear hx hp
   induction h1 with
   |nil=>exact .nil
   |cons h t ih=>exact .cons ⟨h,pb _ wau⟩ (ih λu hu=>pb u (wah _ hu))
  exact zgo (paired_rev this) λa b hab=>zsq n b hab.2 a hab.1
theorem zgU{t:Tr}{x:List Int}(h:x∈zaq t):x.reverse∈zaq t:=zsq _ t (wal _) x h
theorem zny{x P M N u s v:List Int}{a c b:Int}(hn:x.Nodup)(e:x=P++M++N)(e':x=u++s++v)(ha:a∈P)(hc:c∈M)(hb:b∈N)(sa:a∈s)(sb:b∈s):c∈s:=by
 have i1:=zfe (y:=P) (a:=[]) (c:=M++N) hn (by rw[e];simp) ha;have i2:=zfe hn e hc;have i3:=zfe (y:=N) (a:=P++M) (c:=[]) hn (by rw[e];simp) hb;have j1:=zfe hn e' sa;have j3:=zfe hn e' sb;simp only[List.length_nil,wav] at i1 i3;have hcx:c∈x:=by rw[e];simp[hc]
 have hl:=List.idxOf_lt_length_of_mem hcx;have hg:x[x.idxOf c]? = some c:=by rw[List.getElem?_eq_getElem hl,List.getElem_idxOf]
 rw[show x[x.idxOf c]? = (u++s++v)[x.idxOf c]? by rw[<- e'],List.append_assoc,List.getElem?_append_right xwo,List.getElem?_append_left xwo] at hg;exact waH hg
structure zbQ(t:Tr):Prop where
 o:okT t=true
 n:(zad t).Nodup
theorem zbQ.kids{r:Bool}{bs:List Tr}(h:zbQ (.nd r bs)):zfm bs/\(∀ b∈bs,zbQ b)/\(if r then 3 else 2)<=bs.length:=by obtain ⟨A,H⟩:=zoQ (Nat.le_succ _) h.o h.n;have:=h.o;rw[okT,Bool.and_eq_true,decide_eq_true_eq] at this;exact ⟨A,λb hb=>⟨(H b hb).2.1,(H b hb).2.2⟩,this.1⟩
theorem znL{r:Bool}{bs:List Tr}{x:List Int}(hx:x∈zaq (.nd r bs)){b:Tr}(hb:b∈bs):Seg b x:=by
 obtain ⟨p,hp,ys,h1,rfl⟩:=zaG.mp hx;have hb':=(zaC hp).mem_iff.mpr hb;clear hx hp hb
 induction h1 with
 |nil=>cases hb'
 |@cons y t ys p h r ih =>
  rw[List.flatten_cons];rcases wap.mp hb' with rfl|hb'
  ·exact ⟨[],y,ys.flatten,xws,h⟩
  ·obtain ⟨u,s,v,e,hs⟩:=ih hb';exact ⟨y++u,s,v,by rw[e];simp,hs⟩
theorem zm6:∀{ys:List (List Int)}{w R:List Int},ys.flatten=w++R->(∃ l1 l2,ys=l1++l2/\w=l1.flatten/\R=l2.flatten)\/∃ l1 a b l2,ys=l1++(a++b)::l2/\a≠[]/\b≠[]/\w=l1.flatten++a/\R=b++l2.flatten
 |[],w,R,e=>by rw[List.flatten_nil] at e;obtain ⟨h1,h2⟩:=List.append_eq_nil_iff.mp e.symm;exact .inl ⟨[],[],rfl,h1,h2⟩
 |y::ys,w,R,e=>by
  rw[List.flatten_cons] at e;rcases List.append_eq_append_iff.mp e with ⟨c,h1,h2⟩|⟨c,h1,h2⟩
  ·
   rcases zm6 h2 with ⟨l1,l2,e1,e2,e3⟩|⟨l1,a,b,l2,e1,e2,e3,e4,e5⟩
   ·exact .inl ⟨y::l1,l2,by rw[e1];rfl,by rw[h1,e2];simp,e3⟩
   ·exact .inr ⟨y::l1,a,b,l2,by rw[e1];rfl,e2,e3,by rw[h1,e4];simp,e5⟩
  ·
   by_cases hw:w=[]
   ·exact .inl ⟨[],y::ys,rfl,hw,by subst hw;rw[h2,h1];simp⟩
   by_cases hc:c=[]
   ·subst hc;rw[List.append_nil] at h1;exact .inl ⟨[y],ys,rfl,by simp[h1],by simpa using h2⟩
   ·exact .inr ⟨[],w,c,ys,by rw[h1];rfl,hw,hc,rfl,h2⟩
noncomputable abbrev Pr(ys:List (List Int))(p:List Tr):Prop:=Paired (λy t=>y∈zaq t) ys p
theorem zbN{α β:Type}{F:α->β->Prop}:∀{l1 l2:List α}{y:α}{p:List β},Paired F (l1++y::l2) p->∃ p1 b p2,p=p1++b::p2/\Paired F l1 p1/\F y b/\Paired F l2 p2
 |[],l2,y,_,.cons h t=>⟨[],_,_,rfl,.nil,h,t⟩
 |a::l1,l2,y,_,.cons h t=>by obtain ⟨p1,b,p2,rfl,h1,h2,h3⟩:=zbN (l1:=l1) t;exact ⟨_::p1,b,p2,rfl,.cons h h1,h2,h3⟩
theorem zbc{α β:Type}{F:α->β->Prop}:∀{l1 l2:List α}{p1 p2:List β},Paired F l1 p1->Paired F l2 p2->Paired F (l1++l2) (p1++p2)
 |_,_,_,_,.nil,h=>h
 |_,_,_,_,.cons h t,h'=>.cons h (zbc t h')
theorem zkw{α β:Type}{F:α->β->Prop}:∀{l1 l2:List α}{p:List β},Paired F (l1++l2) p->∃ p1 p2,p=p1++p2/\Paired F l1 p1/\Paired F l2 p2
 |[],l2,p,h=>⟨[],p,rfl,.nil,h⟩
 |a::l1,l2,_,.cons h t=>by obtain ⟨p1,p2,rfl,h1,h2⟩:=zkw (l1:=l1) t;exact ⟨_::p1,p2,rfl,.cons h h1,h2⟩
theorem zsb{α:Type}{R:α->α->Prop}{A B:List α}{x:α}(h:(A++x::B).Pairwise R):(∀ a∈A,R a x)/\∀ b∈B,R x b:=by rw[List.pairwise_append,List.pairwise_cons] at h;exact ⟨λa ha=>h.2.2 a ha x wau,h.2.1.1⟩
theorem znS{bs:List Tr}(A:zfm bs){y:List Int}{b:Tr}(hb:b∈bs)(h:y∈zaq b):y≠[]:=λz=>A.ne b hb (by subst z;exact (zat h).symm.eq_nil)
theorem zyj{bs:List Tr}(A:zfm bs):∀{ys:List (List Int)}{p:List Tr},Pr ys p->(∀ t∈p,t∈bs)->ys.flatten=[]->p=[]
 |_,_,.nil,_,_=>rfl
 |_,_,.cons h t,hp,e=>by exfalso;rw[List.flatten_cons] at e;exact znS A (hp _ wau) h (List.append_eq_nil_iff.mp e).1
theorem zrT{r1 r2:Bool}{bs1 bs2:List Tr}(H1:zbQ (.nd r1 bs1))(H2:zbQ (.nd r2 bs2))(hS:∀ x,x∈zaq (.nd r1 bs1) ↔ x∈zaq (.nd r2 bs2))
  {cm ys zs:List (List Int)} {y z:List Int} {p q:List Tr} (hp:p∈arr r1 bs1) (hq:q∈arr r2 bs2) (m1:Pr (cm++y::ys) p) (m2:Pr (cm++z::zs) q) (e:(cm++y::ys).flatten=(cm++z::zs).flatten) (hl:y.length<z.length):False:=by
 obtain ⟨A1,K1,L1⟩:=H1.kids;obtain ⟨A2,K2,L2⟩:=H2.kids;have pb:∀ t∈p,t∈bs1:=λt ht=>(zaC hp).mem_iff.mp ht;have qb:∀ t∈q,t∈bs2:=λt ht=>(zaC hq).mem_iff.mp ht;have hx1:(cm++y::ys).flatten∈zaq (.nd r1 bs1):=zaG.mpr ⟨p,hp,_,m1,rfl⟩;have hxn:(cm++y::ys).flatten.Nodup:=(zat hx1).symm.nodup H1.n;rw[List.flatten_append,List.flatten_append,List.flatten_cons,List.flatten_cons] at e;have e':=List.append_cancel_left e;obtain ⟨w,hz,hw⟩ : ∃ w,z=y++w/\ys.flatten=w++zs.flatten:=by
  rcases List.append_eq_append_iff.mp e' with ⟨c,h1,h2⟩|⟨c,h1,h2⟩
  ·exact ⟨c,h1,h2⟩
  ·have:=congrArg List.length h1;rw[List.length_append] at this;lia
 have hwn:w≠[]:=λz'=>by subst z';rw[List.append_nil] at hz;subst hz;lia
 obtain ⟨p1,b,p2,ep,n1,n2,n3⟩:=zbN m1;obtain ⟨q1,c,q2,eq,o1,o2,o3⟩:=zbN m2;have hbm:b∈bs1:=pb b (by rw[ep];simp);have hcm:c∈bs2:=qb c (by rw[eq];simp);have hyn:=znS A1 hbm n2;obtain ⟨γ,y',ey⟩:=waI hyn;have hγ:γ∈y:=by rw[ey];exact wau
 have hx2:cm.flatten++w.reverse++y.reverse++zs.flatten∈zaq (.nd r1 bs1):=by
  rw[hS];refine zaG.mpr ⟨q,hq,cm++z.reverse::zs,?_,?_⟩
  ·rw[eq];exact zbc o1 (.cons (zgU o2) o3)
  ·rw[List.flatten_append,List.flatten_cons,hz,List.reverse_append];simp
 have hx2n:(cm.flatten++w.reverse++y.reverse++zs.flatten).Nodup:=(zat hx2).symm.nodup H1.n;have hdis:∀ g∈y,g∉ys.flatten:=λg hg z'=>by rw[List.flatten_append,List.flatten_cons,List.nodup_append,List.nodup_append] at hxn;exact hxn.2.1.2.2 g hg g z' rfl
 rcases zm6 hw with ⟨l1,l2,e1,e2,e3⟩|⟨l1,a,bb,l2,e1,e2,e3,e4,e5⟩
 ·cases l1 with
  |nil=>exact hwn (by rw[e2];rfl)
  |cons y2 l1 =>
   rw[e1] at n3;cases n3 with
   |@cons _ d _ p3 nd n3 =>
    have hdm:d∈bs1:=pb d (by rw[ep];simp);obtain ⟨β,y2',ey2⟩:=waI (znS A1 hdm nd);have hβ:β∈y2:=by rw[ey2];exact wau
    have hw2:∀ g∈y2,g∈w:=λg hg=>by rw[e2];exact List.mem_flatten.mpr ⟨y2,wau,hg⟩
    have hzy:∀ g,g∈z ↔ g∈y\/g∈w:=λg=>by rw[hz,List.mem_append]
    obtain ⟨p4,p5,ep3,n4,n5⟩:=zkw n3;have tq:∃ ye ev ms ps,Pr (y::ye::y2::ms) (b::ev::d::ps)/\(b::ev::d::ps).Perm p/\(∀ g∈ye,g∉z)/\ye≠[]/\((ev∈p1/\∀ g∈ye,g∈cm.flatten)\/(ev∈p5/\∀ g∈ye,g∈zs.flatten)):=by
     by_cases hc0:cm=[]
     ·by_cases hl2:l2=[]
      ·exfalso;subst hc0;subst hl2;cases o1;have:q2=[]:=zyj A2 o3 (λt ht=>qb t (by rw[eq];simp[ht])) (by rw[e3];rfl);subst this;have:=(zaC hq).length_eq;rw[eq] at this;simp at this;cases r2 <;> simp at L2 <;> lia
      ·obtain ⟨ye,l2',el2⟩:=waI hl2;rw[el2] at n5;cases n5 with
       |@cons _ ev _ p6 ne n6 =>
        have hem:ev∈bs1:=pb ev (by rw[ep,ep3];simp);refine ⟨ye,ev,cm++(l1++l2'),p1++(p4++p6),.cons n2 (.cons ne (.cons nd (zbc n1 (zbc n4 n6)))),?_,λg hg hgz=>?_,znS A1 hem ne,.inr ⟨wau,λg hg=>by rw[e3,el2];exact List.mem_flatten.mpr ⟨ye,wau,hg⟩⟩⟩
        ·rw[ep,ep3];have h1:(b::ev::d::(p1++(p4++p6))).Perm (p1++(b::ev::d::(p4++p6))):=by exact (List.perm_append_comm_assoc [b,ev,d] p1 (p4++p6)).trans (.refl _)
         refine h1.trans (List.Perm.append_left p1 (List.Perm.cons b ?_));exact (List.Perm.swap d ev _).trans (List.Perm.cons d List.perm_middle.symm)
        ·rcases (hzy g).mp hgz with h|h
         ·exact hdis g h (by rw[e1,el2];simp[hg])
         ·rw[e1] at hdis;rw[List.flatten_append,List.flatten_cons,e1,el2] at hxn;rw[e2] at h;rw[show (y2::l1++ye::l2').flatten=(y2::l1).flatten++(ye++l2'.flatten) by simp,List.nodup_append,List.nodup_append,List.nodup_append] at hxn;exact hxn.2.1.2.1.2.2 g h g (waR _ hg) rfl
     ·obtain ⟨ye,cm',ecm⟩:=waI hc0;subst ecm;cases n1 with
      |@cons _ ev _ p6 ne n6 =>
       have hem:ev∈bs1:=pb ev (by rw[ep];simp);refine ⟨ye,ev,cm'++(l1++l2),p6++p3,.cons n2 (.cons ne (.cons nd (zbc n6 (by rw[ep3];exact zbc n4 n5)))),?_,λg hg hgz=>?_,znS A1 hem ne,.inl ⟨wau,λg hg=>List.mem_flatten.mpr ⟨ye,wau,hg⟩⟩⟩
       ·rw[ep];have h1:(b::ev::d::(p6++p3)).Perm (ev::b::d::(p6++p3)):=List.Perm.swap _ _ _;refine h1.trans (List.Perm.cons ev ?_);exact List.perm_append_comm_assoc [b,d] p6 p3
       ·have hgc:g∈(ye::cm').flatten:=List.mem_flatten.mpr ⟨ye,wau,hg⟩;rw[List.flatten_append,List.nodup_append] at hxn;refine hxn.2.2 g hgc g ?_ rfl;rw[List.flatten_cons];rcases (hzy g).mp hgz with h|h
        ·exact waR _ h
        ·exact waz _ (by rw[hw];exact waR _ h)
    obtain ⟨ye,ev,ms,ps,t1,t2,t3,t4,t5⟩:=tq;cases r1 with
    |false =>
     have hx3:(y::ye::y2::ms).flatten∈zaq (.nd false bs1):=zaG.mpr ⟨_,(zcB _ _ _ rfl).mpr (t2.trans (zaC hp)),_,t1,rfl⟩;have hx3n:=(zat hx3).symm.nodup H1.n;obtain ⟨u,s,v,es,hs⟩:=znL ((hS _).mp hx3) hcm;have hsz:∀ g,g∈s ↔ g∈z:=λg=>(zat hs).mem_iff.trans (zat o2).mem_iff.symm;obtain ⟨δ,ye',eye⟩:=waI t4;have hδ : δ ∈ ye:=by rw[eye];exact wau
     have:=zny (P:=y) (M:=ye) (N:=y2++ms.flatten) hx3n xws es hγ hδ (waR _ hβ) ((hsz γ).mpr ((hzy γ).mpr (.inl hγ))) ((hsz β).mpr ((hzy β).mpr (.inr (hw2 β hβ))));exact t3 δ hδ ((hsz δ).mp this)
    |true =>
     obtain ⟨p'',hp'',zz,mz,ez⟩:=zaG.mp hx2;have ord:=(zjT (f:=zaj) (u:=[]) (v:=[]) hx2n (by rw[ez];simp) mz λt ht=>zgI (A1.ne t ((zaC hp'').mem_iff.mp ht))).1;have hevm:ev∈bs1:=pb ev (t2.mem_iff.mp xws);have ib:=zfe (a:=cm.flatten++w.reverse) (y:=y.reverse) (c:=zs.flatten) (g:=zaj b) hx2n rfl (List.mem_reverse.mpr ((zat n2).mem_iff.mpr (zgI (A1.ne b hbm))));have id:=zfe (a:=cm.flatten) (y:=w.reverse) (c:=y.reverse++zs.flatten) (g:=zaj d) hx2n xws (List.mem_reverse.mpr (hw2 _ ((zat nd).mem_iff.mpr (zgI (A1.ne d hdm)))));have hye:zaj ev∈ye:=by
      cases t1 with
      |cons _ t=>cases t with
       |cons hh _=>exact (zat hh).mem_iff.mpr (zgI (A1.ne ev hevm))
     have hpp:p=bs1\/p=bs1.reverse:=by simpa [arr] using hp
     have hpp'':p''=bs1\/p''=bs1.reverse:=by simpa [arr] using hp''
     have hcase:p''=p\/p''=p.reverse:=by rcases hpp with h|h <;> rcases hpp'' with h'|h' <;> simp[h,h']
     rw[List.length_append] at ib;rcases hcase with h|h
     ·rw[h,ep,List.map_append,List.map_cons] at ord;have:=(zsb ord).2 _ (List.mem_map_of_mem (f:=λt=>((_:List Int).idxOf (zaj t):Int)) (wau:d∈d::p3));lia
     ·have ord':(p.map λt=>(((cm.flatten++w.reverse++y.reverse++zs.flatten).idxOf (zaj t):Nat):Int)).Pairwise (λa b=>b<a):=by rw[h,List.map_reverse,List.pairwise_reverse] at ord;exact ord
      rw[ep,List.map_append,List.map_cons] at ord';rcases t5 with ⟨k1,k2⟩|⟨k1,k2⟩
      ·have h1:=(zsb ord').1 _ (List.mem_map_of_mem (f:=λt=>(((cm.flatten++w.reverse++y.reverse++zs.flatten).idxOf (zaj t):Nat):Int)) k1);have ie:=zfe (a:=[]) (y:=cm.flatten) (c:=w.reverse++y.reverse++zs.flatten) (g:=zaj ev) hx2n xws (k2 _ hye);simp only[List.length_nil] at ie;have h1':(((cm.flatten++w.reverse++y.reverse++zs.flatten).idxOf (zaj b):Nat):Int)<(((cm.flatten++w.reverse++y.reverse++zs.flatten).idxOf (zaj ev):Nat):Int):=h1;lia
      ·have h1:=(zsb ord').2 _ (List.mem_map_of_mem (f:=λt=>(((cm.flatten++w.reverse++y.reverse++zs.flatten).idxOf (zaj t):Nat):Int)) (show ev∈d::p3 by rw[ep3];simp[k1]));have ie:=zfe (a:=cm.flatten++w.reverse++y.reverse) (y:=zs.flatten) (c:=[]) (g:=zaj ev) hx2n xws (k2 _ hye);simp only[wav] at ie ib;have h1':(((cm.flatten++w.reverse++y.reverse++zs.flatten).idxOf (zaj ev):Nat):Int)<(((cm.flatten++w.reverse++y.reverse++zs.flatten).idxOf (zaj b):Nat):Int):=h1;lia
 ·rw[e1] at n3;obtain ⟨p4,d,p5,ep2,n4,nd,n5⟩:=zbN n3;have hdm:d∈bs1:=pb d (by rw[ep,ep2];simp);obtain ⟨u,s,v,es,hs⟩:=znL hx2 hdm;have hsd:∀ g,g∈s ↔ g∈a++bb:=λg=>(zat hs).mem_iff.trans (zat nd).mem_iff.symm;obtain ⟨α,a',ea⟩:=waI e2;obtain ⟨β,b',eb⟩:=waI e3;have hα:α∈a:=by rw[ea];exact wau
  have hβ:β∈bb:=by rw[eb];exact wau
  have:=zny (P:=cm.flatten++w.reverse) (M:=y.reverse) (N:=zs.flatten) hx2n rfl es (waz _ (List.mem_reverse.mpr (by rw[e4];exact waz _ hα))) (List.mem_reverse.mpr hγ) (by rw[e5];exact waR _ hβ) ((hsd α).mpr (waR _ hα)) ((hsd β).mpr (waz _ hβ));exact hdis γ hγ (by rw[e1,List.flatten_append,List.flatten_cons];exact waz _ (waR _ ((hsd γ).mp this)))
noncomputable def zdm(a b:Tr):Prop:=∀ x,x∈zaq a ↔ x∈zaq b
theorem zdm.symm{a b:Tr}(h:zdm a b):zdm b a:=λx=>(h x).symm
section
variable{r1 r2:Bool}{bs1 bs2:List Tr}
theorem zmQ(H1:zbQ (.nd r1 bs1))(H2:zbQ (.nd r2 bs2))(hS:zdm (.nd r1 bs1) (.nd r2 bs2)){p q:List Tr}(hp:p∈arr r1 bs1)(hq:q∈arr r2 bs2) :
  ∀(ys zs cm:List (List Int)),Pr (cm++ys) p->Pr (cm++zs) q->(cm++ys).flatten=(cm++zs).flatten->ys=zs
 |[],[],_,_,_,_=>rfl
 |[],z::zs,cm,_,m2,e=>by
  exfalso;rw[List.append_nil,List.flatten_append] at e;have e2:(z::zs).flatten=[]:=by have:=congrArg List.length e;rw[List.length_append] at this;exact List.length_eq_zero_iff.mp xwl
  obtain ⟨q1,c,q2,rfl,_,h,_⟩:=zbN m2;exact znS H2.kids.1 ((zaC hq).mem_iff.mp xws) h (List.append_eq_nil_iff.mp (by rw[List.flatten_cons] at e2;exact e2)).1
 |y::ys,[],cm,m1,_,e=>by
  exfalso;rw[List.append_nil,List.flatten_append] at e;have e2:(y::ys).flatten=[]:=by have:=congrArg List.length e;rw[List.length_append] at this;exact List.length_eq_zero_iff.mp xwl
  obtain ⟨q1,c,q2,rfl,_,h,_⟩:=zbN m1;exact znS H1.kids.1 ((zaC hp).mem_iff.mp xws) h (List.append_eq_nil_iff.mp (by rw[List.flatten_cons] at e2;exact e2)).1
 |y::ys,z::zs,cm,m1,m2,e=>by
  have hl:y.length=z.length:=by
   rcases Nat.lt_trichotomy y.length z.length with h|h|h
   ·exact (zrT H1 H2 hS hp hq m1 m2 e h).elim
   ·exact h
   ·exact (zrT H2 H1 hS.symm hq hp m2 m1 e.symm h).elim
  have e':=e;rw[List.flatten_append,List.flatten_append,List.flatten_cons,List.flatten_cons] at e';have hyz:=(List.append_inj (List.append_cancel_left e') hl).1;subst hyz;rw[zmQ H1 H2 hS hp hq ys zs (cm++[y]) (by rw[List.append_assoc];exact m1) (by rw[List.append_assoc];exact m2) (by rw[List.append_assoc,List.append_assoc];exact e)]
theorem zl0(H1:zbQ (.nd r1 bs1))(H2:zbQ (.nd r2 bs2))(hS:zdm (.nd r1 bs1) (.nd r2 bs2)){p q:List Tr}(hp:p∈arr r1 bs1)(hq:q∈arr r2 bs2){ys zs:List (List Int)}(m1:Pr ys p)(m2:Pr zs q)(e:ys.flatten=zs.flatten):ys=zs:=zmQ H1 H2 hS hp hq ys zs [] m1 m2 e
theorem zlo{bs:List Tr}(A:zfm bs){c c':Tr}{y:List Int}(hc:c∈bs)(hc':c'∈bs)(h:y.Perm (zad c))(h':y.Perm (zad c')):c=c':=by
 have hn:y≠[]:=λz=>A.ne c hc (by subst z;exact h.symm.eq_nil);obtain ⟨g,y',e⟩:=waI hn;have hg:g∈y:=by rw[e];exact wau
 exact zey A.nd hc hc' (h.mem_iff.mp hg) (h'.mem_iff.mp hg)
theorem zqu(H1:zbQ (.nd r1 bs1))(H2:zbQ (.nd r2 bs2))(hS:zdm (.nd r1 bs1) (.nd r2 bs2)){p1 p2 q1 q2:List Tr}{b c:Tr}{l1 l2:List (List Int)}{y:List Int}(hp:p1++b::p2∈arr r1 bs1)(hq:q1++c::q2∈arr r2 bs2)
  (m1:Pr l1 p1) (m2:Pr l2 p2) (hb:y∈zaq b) (hc:y∈zaq c):∀ x∈zaq b,x∈zaq c:=λx hx=>by
 have hx':(l1++x::l2).flatten∈zaq (.nd r1 bs1):=zaG.mpr ⟨_,hp,_,zbc m1 (.cons hx m2),rfl⟩;obtain ⟨q',hq',zs,mz,ez⟩:=zaG.mp ((hS _).mp hx');have:=zl0 H1 H2 hS hp hq' (zbc m1 (.cons hx m2)) mz ez.symm;subst this;obtain ⟨q3,c',q4,rfl,_,h,_⟩:=zbN mz;have h1:c'∈bs2:=(zaC hq').mem_iff.mp xws;have h2:c∈bs2:=(zaC hq).mem_iff.mp xws;have:c=c':=zlo H2.kids.1 h2 h1 ((zat hx).trans ((zat hb).symm.trans (zat hc))) (zat h);rw[this];exact h
theorem zm1(H1:zbQ (.nd r1 bs1))(H2:zbQ (.nd r2 bs2))(hS:zdm (.nd r1 bs1) (.nd r2 bs2)){p q:List Tr}(hp:p∈arr r1 bs1)(hq:q∈arr r2 bs2) :
  ∀(l2 l1:List (List Int))(p1 p2 q1 q2:List Tr),Pr l1 p1->Pr l1 q1->Pr l2 p2->Pr l2 q2->p=p1++p2->q=q1++q2->Paired zdm p2 q2
 |_,l1,p1,_,q1,_,a1,a2,.nil,.nil,_,_=>.nil
 |_,l1,p1,_,q1,_,a1,a2,.cons (l₁:=l2) (a:=y) (b:=b) (l₂:=p2) h t,.cons (b:=c) (l₂:=q2) h' t',ep,eq=>by refine .cons (λx=>⟨zqu H1 H2 hS (ep ▸ hp) (eq ▸ hq) a1 t h h' x,zqu H2 H1 hS.symm (eq ▸ hq) (ep ▸ hp) a2 t' h' h x⟩) ?_;exact zm1 H1 H2 hS hp hq l2 (l1++[y]) (p1++[b]) p2 (q1++[c]) q2 (zbc a1 (.cons h .nil)) (zbc a2 (.cons h' .nil)) t t' (by rw[ep];simp) (by rw[eq];simp)
theorem zuD{bs1 bs2:List Tr}(H1:zbQ (.nd false bs1))(H2:zbQ (.nd true bs2))(hS:zdm (.nd false bs1) (.nd true bs2)){p q:List Tr}(hp:p∈arr false bs1)(hq:q∈arr true bs2){ys:List (List Int)}(m1:Pr ys p)(m2:Pr ys q):False:=by
 obtain ⟨A2,_,L2⟩:=H2.kids;have hql:=(zaC hq).length_eq;simp only[if_true] at L2;have hqn:q.Nodup:=(zaC hq).symm.nodup (zcI A2);have qb:∀ t∈q,t∈bs2:=λt ht=>(zaC hq).mem_iff.mp ht;cases m2 with
 |nil=>simp at hql;lia
 |@cons y1 c1 ys q h1 t =>
  cases t with
  |nil=>simp at hql;lia
  |@cons y2 c2 ys q h2 t =>
   cases m1 with
   |@cons _ b1 _ p k1 s =>
    cases s with
    |@cons _ b2 _ p k2 s =>
     have hp4:b2::b1::p∈arr false bs1:=(zcB _ _ _ rfl).mpr ((List.Perm.swap _ _ _).trans (zaC hp));have m4:Pr (y2::y1::ys) (b2::b1::p):=.cons k2 (.cons k1 s);obtain ⟨q4,hq4,zs,mz,ez⟩:=zaG.mp ((hS _).mp (zaG.mpr ⟨_,hp4,_,m4,rfl⟩));have:=zl0 H1 H2 hS hp4 hq4 m4 mz ez.symm;subst this;have hq4n:q4.Nodup:=(zaC hq4).symm.nodup (zcI A2);have q4b:∀ t∈q4,t∈bs2:=λt ht=>(zaC hq4).mem_iff.mp ht;cases mz with
     |@cons _ d2 _ q5 f2 mz =>
      cases mz with
      |@cons _ d1 _ q5 f1 mz =>
       have e2:c2=d2:=zlo A2 (qb c2 xws) (q4b d2 xws) (zat h2) (zat f2);have e1:c1=d1:=zlo A2 (qb c1 xws) (q4b d1 xws) (zat h1) (zat f1);subst e1;subst e2;have a1:c1::c2::q=bs2\/c1::c2::q=bs2.reverse:=by simpa [arr] using hq
       have a2:c2::c1::q5=bs2\/c2::c1::q5=bs2.reverse:=by simpa [arr] using hq4
       have hcase:c2::c1::q5=c1::c2::q\/(c2::c1::q5).reverse=c1::c2::q:=by rcases a1 with a1|a1 <;> rcases a2 with a2|a2 <;> rw[a1,a2] <;> simp
       rcases hcase with hc|hc
       ·have:c2=c1:=(List.cons.inj hc).1;rw[List.nodup_cons] at hqn;exact hqn.1 (by rw[this];exact wau)
       ·have hc':q5.reverse++[c1,c2]=c1::c2::q:=by rw[<- hc];simp
        rw[List.nodup_cons,List.nodup_cons] at hq4n;cases hr:q5.reverse with
        |nil =>
         have h5:q5=[]:=by simpa using hr
         subst h5;have hl:=(zaC hq4).length_eq;simp only[wan,List.length_nil] at hl;lia
        |cons a r =>
         rw[hr] at hc';have:a=c1:=(List.cons.inj hc').1;exact hq4n.2.1 (List.mem_reverse.mp (by rw[hr,this];exact wau))
end
inductive Eqv:Tr->Tr->Prop
 |lf (g:Int):Eqv (.lf g) (.lf g)
 |nd {r:Bool} {bs cs p q:List Tr}:p∈arr r bs->q∈arr r cs->Paired Eqv p q->Eqv (.nd r bs) (.nd r cs)
theorem zon{g:Int}{r:Bool}{bs:List Tr}(H:zbQ (.nd r bs))(h:zdm (.lf g) (.nd r bs)):False:=by have h1:=zat ((h [g]).mp (by rw[zaq];exact wau));rw[zad] at h1;have h2:=znX bs (wal _) (by have:=H.o;rw[okT,Bool.and_eq_true] at this;exact this.2);have h3:=H.kids.2.2;have:=h1.length_eq;simp only[wan,List.length_nil] at this;cases r <;> simp at h3 <;> lia
theorem zkh{n:Nat}(IH:∀ a b,dep a<=n->zbQ a->zbQ b->zdm a b->Eqv a b):∀{p q:List Tr},(∀ t∈p,dep t<=n/\zbQ t)->(∀ t∈q,zbQ t)->Paired zdm p q->Paired Eqv p q
 |_,_,_,_,.nil=>.nil
 |_,_,hp,hq,.cons h t=>.cons (IH _ _ (hp _ wau).1 (hp _ wau).2 (hq _ wau) h) (zkh IH (λt ht=>hp t (wah _ ht)) (λt ht=>hq t (wah _ ht)) t)
theorem zqF:∀(n:Nat)(t:Tr),dep t<=n->zaq t≠[]
 |n,t,h,e=>by have:=zhZ n t h;rw[e] at this;simp at this
theorem zuj:∀(n:Nat)(a b:Tr),dep a<=n->zbQ a->zbQ b->zdm a b->Eqv a b
 |0,a,_,h,_,_,_=>by cases a <;> simp[dep] at h
 |n+1,.lf g,.lf k,_,_,_,hS=>by have:=(hS [g]).mp (by rw[zaq];exact wau);rw[zaq,List.mem_singleton] at this;cases this;exact .lf g
 |n+1,.lf g,.nd r cs,_,_,H2,hS=>(zon H2 hS).elim
 |n+1,.nd r bs,.lf k,_,H1,_,hS=>(zon H1 hS.symm).elim
 |n+1,.nd r bs,.nd r' cs,hd,H1,H2,hS=>by
  simp only[dep] at hd;have hdd:=zaS.mp (by lia:zdt bs<=n);obtain ⟨x,hx⟩ : ∃ x,x∈zaq (.nd r bs):=by
   cases e:zaq (.nd r bs) with
   |nil =>
    exfalso;have:=H1.o;exact absurd e (zqF _ _ (wal _))
   |cons x l=>exact ⟨x,wau⟩
  obtain ⟨p,hp,ys,m1,e1⟩:=zaG.mp hx;obtain ⟨q,hq,zs,m2,e2⟩:=zaG.mp ((hS x).mp hx);have:=zl0 H1 H2 hS hp hq m1 m2 (e1.trans e2.symm);subst this;have hr:r=r':=by
   cases r <;> cases r'
   ·rfl
   ·exact (zuD H1 H2 hS hp hq m1 m2).elim
   ·exact (zuD H2 H1 hS.symm hq hp m2 m1).elim
   ·rfl
  subst hr;refine .nd hp hq (zkh (zuj n) (λt ht=>⟨hdd t ((zaC hp).mem_iff.mp ht),H1.kids.2.1 t ((zaC hp).mem_iff.mp ht)⟩) (λt ht=>H2.kids.2.1 t ((zaC hq).mem_iff.mp ht)) ?_);exact zm1 H1 H2 hS hp hq ys [] [] p [] q .nil .nil m1 m2 rfl rfl
section
variable{α:Type}{N A:α->Prop}
noncomputable def RLg(N A:α->Prop)(r:List α):Prop:=∃ u v,r=u++v/\(∀ g∈u,N g)/\∀ g∈v,A g
noncomputable def Ctg(N A:α->Prop)(r:List α):Prop:=∃ u v w,r=u++v++w/\(∀ g∈u,N g)/\(∀ g∈v,A g)/\∀ g∈w,N g
theorem zaQ{P:α->Prop}{a b:List α}:(∀ g∈a++b,P g) ↔ (∀ g∈a,P g)/\∀ g∈b,P g:=List.forall_mem_append
theorem zbW{P:α->Prop}{a:List α}:(∀ g∈a.reverse,P g) ↔ ∀ g∈a,P g:=by simp
theorem zxs(dj:∀ g,N g->¬ A g){a:List α}(h1:∀ g∈a,N g)(h2:∀ g∈a,A g):a=[]:=by
 cases a with
 |nil=>rfl
 |cons g r=>exact absurd (h2 g wau) (dj g (h1 g wau))
theorem zwW{a:List α}(h:∀ g∈a,N g):RLg N A a:=⟨a,[],xws,h,xws⟩
theorem zq9{a:List α}(h:∀ g∈a,A g):RLg N A a:=⟨[],a,rfl,xws,h⟩
theorem zjQ(dj:∀ g,N g->¬ A g){x y z:List α}(hx:∀ g∈x,N g)(hy:¬ ∀ g∈y,N g):RLg N A (x++(y++z)) ↔ RLg N A y/\∀ g∈z,A g:=by
 constructor
 ·rintro ⟨u,v,e,hu,hv⟩;rcases List.append_eq_append_iff.mp e with ⟨a,rfl,e2⟩|⟨a,rfl,e2⟩
  ·rcases List.append_eq_append_iff.mp e2 with ⟨b,rfl,rfl⟩|⟨b,rfl,e4⟩
   ·exact absurd (zaQ.mp (zaQ.mp hu).2).1 hy
   ·rw[e4] at hv;exact ⟨⟨a,b,rfl,(zaQ.mp hu).2,(zaQ.mp hv).1⟩,(zaQ.mp hv).2⟩
  ·rw[e2] at hv;have ha:=zxs dj (zaQ.mp hx).2 (zaQ.mp hv).1;subst ha;have:=zaQ.mp (zaQ.mp hv).2;exact ⟨zq9 this.1,this.2⟩
 ·rintro ⟨⟨u,v,rfl,hu,hv⟩,hz⟩;exact ⟨x++u,v++z,xws,zaQ.mpr ⟨hx,hu⟩,zaQ.mpr ⟨hv,hz⟩⟩
theorem zkb(dj:∀ g,N g->¬ A g){x s:List α}(hx:∀ g∈x,N g)(hs:¬ ∀ g∈s,N g):Ctg N A (x++s) ↔ Ctg N A s:=by
 constructor
 ·rintro ⟨u,v,w,e,hu,hv,hw⟩;rw[List.append_assoc] at e;rcases List.append_eq_append_iff.mp e with ⟨a,rfl,rfl⟩|⟨a,rfl,e2⟩
  ·exact ⟨a,v,w,xws,(zaQ.mp hu).2,hv,hw⟩
  ·rcases List.append_eq_append_iff.mp e2 with ⟨b,rfl,rfl⟩|⟨b,rfl,rfl⟩
   ·exact absurd (zaQ.mp hw).2 hs
   ·exact ⟨[],b,w,xws,xws,(zaQ.mp hv).2,hw⟩
 ·rintro ⟨u,v,w,rfl,hu,hv,hw⟩;exact ⟨x++u,v,w,xws,zaQ.mpr ⟨hx,hu⟩,hv,hw⟩
theorem zlq{y t:List α}(hy:¬ ∀ g∈y,N g)(ht:¬ ∀ g∈t,N g):Ctg N A (y++t) ↔ RLg N A y/\RLg N A t.reverse:=by
 constructor
 ·rintro ⟨u,v,w,e,hu,hv,hw⟩;rcases List.append_eq_append_iff.mp e with ⟨a,e1,e2⟩|⟨a,e1,e2⟩
  ·subst e2;have hr:RLg N A (a++w).reverse:=⟨w.reverse,a.reverse,xws,zbW.mpr hw,?_⟩
   ·refine ⟨?_,hr⟩;rcases List.append_eq_append_iff.mp e1 with ⟨b,rfl,rfl⟩|⟨b,rfl,rfl⟩
    ·exact ⟨u,b,rfl,hu,(zaQ.mp hv).1⟩
    ·exact absurd (zaQ.mp hu).1 hy
   ·rcases List.append_eq_append_iff.mp e1 with ⟨b,rfl,rfl⟩|⟨b,rfl,rfl⟩
    ·exact zbW.mpr (zaQ.mp hv).2
    ·exact absurd (zaQ.mp hu).1 hy
  ·subst e2;exact absurd (zaQ.mp hw).2 ht
 ·rintro ⟨⟨u,v,rfl,hu,hv⟩,⟨a,b,e,ha,hb⟩⟩;have:t=b.reverse++a.reverse:=by rw[<- List.reverse_reverse t,e];simp
  subst this;exact ⟨u,v++b.reverse,a.reverse,xws,hu,zaQ.mpr ⟨hv,zbW.mpr hb⟩,zbW.mpr ha⟩
end
noncomputable abbrev No(p r:List Int):Prop:=∀ g∈r,g∉p
noncomputable abbrev Al(p r:List Int):Prop:=∀ g∈r,g∈p
noncomputable abbrev RL(p r:List Int):Prop:=RLg (λg=>g∉p) (λg=>g∈p) r
noncomputable abbrev Ct(p r:List Int):Prop:=Ctg (λg=>g∉p) (λg=>g∈p) r
theorem zuX{p:List Int}:∀ g:Int,g∉p->¬ g∈p:=λ_ h=>h
variable{p:List Int}
noncomputable def sh(p:List Int)(t:Tr):Nat:=if ∀ g∈zad t,g∉p then 0 else if ∀ g∈zad t,g∈p then 2 else 1
theorem zpi{t:Tr}:sh p t=0 ↔ No p (zad t):=by
 unfold sh;split
 ·rename_i h;exact ⟨λ_=>h,λ_=>rfl⟩
 ·rename_i h;split
  ·exact ⟨λe=>(by cases e),λe=>absurd e h⟩
  ·exact ⟨λe=>(by cases e),λe=>absurd e h⟩
theorem zuv{t:Tr}(hne:zad t≠[]):sh p t=2 ↔ Al p (zad t):=by
 unfold sh;split
 ·rename_i h;exact ⟨λe=>(by cases e),λe=>absurd (zxs zuX h e) hne⟩
 ·split
  ·rename_i h;exact ⟨λ_=>h,λ_=>rfl⟩
  ·rename_i h;exact ⟨λe=>(by cases e),λe=>absurd e h⟩
theorem zlv(t:Tr):sh p t=0\/sh p t=1\/sh p t=2:=by
 unfold sh;split
 ·exact .inl rfl
 ·split
  ·exact .inr (.inr rfl)
  ·exact .inr (.inl rfl)
theorem zg8{t:Tr}{y:List Int}(h:y∈zaq t):No p y ↔ sh p t=0:=by rw[zpi];have:=zat h;exact ⟨λq g hg=>q g (this.mem_iff.mpr hg),λq g hg=>q g (this.mem_iff.mp hg)⟩
theorem zos{t:Tr}{y:List Int}(hne:zad t≠[])(h:y∈zaq t):Al p y ↔ sh p t=2:=by rw[zuv hne];have:=zat h;exact ⟨λq g hg=>q g (this.mem_iff.mpr hg),λq g hg=>q g (this.mem_iff.mp hg)⟩
theorem zlT{r:List Int}:zbE r [] ↔ r=[]:=by
 constructor
 ·rintro ⟨ys,h,rfl⟩;cases h;rfl
 ·rintro rfl;exact ⟨[],.nil,rfl⟩
theorem zas{r:List Int}{l m:List Tr}:zbE r (l++m) ↔ ∃ a b,r=a++b/\zbE a l/\zbE b m:=by
 constructor
 ·rintro ⟨ys,h,rfl⟩;have key:∀{l:List Tr}{ys:List (List Int)},Paired (λy t=>y∈zaq t) ys (l++m)->∃ as bs,ys=as++bs/\Paired (λy t=>y∈zaq t) as l/\Paired (λy t=>y∈zaq t) bs m:=λ{l}=>by
   induction l with
   |nil=>intro ys h;exact ⟨[],ys,rfl,.nil,h⟩
   |cons t l ih =>
    intro ys h;cases h with
    |cons h1 h2 =>
     obtain ⟨as,bs,rfl,h3,h4⟩:=ih h2;exact ⟨_::as,bs,rfl,.cons h1 h3,h4⟩
  obtain ⟨as,bs,rfl,h1,h2⟩:=key h;exact ⟨as.flatten,bs.flatten,xws,⟨as,h1,rfl⟩,⟨bs,h2,rfl⟩⟩
 ·rintro ⟨a,b,rfl,⟨as,h1,rfl⟩,⟨bs,h2,rfl⟩⟩;exact ⟨as++bs,zbc h1 h2,xws⟩
theorem zdU{r:List Int}{t:Tr}:zbE r [t] ↔ r∈zaq t:=by
 constructor
 ·rintro ⟨ys,h,rfl⟩;cases h with|cons h1 h2=>cases h2;simpa using h1
 ·intro h;exact ⟨[r],.cons h .nil,xws⟩
theorem zbd{r:List Int}{t:Tr}{l:List Tr}:zbE r (t::l) ↔ ∃ a b,r=a++b/\a∈zaq t/\zbE b l:=by rw[show t::l=[t]++l from rfl,zas];simp only[zdU]
theorem zfP{l:List Tr}:∀{r:List Int},zbE r l.reverse ↔ zbE r.reverse l:=λ{r}=>by
 have key:∀{l:List Tr}{r:List Int},zbE r l->zbE r.reverse l.reverse:=λ{l}=>by
  induction l with
  |nil=>intro r h;rw[zlT.mp h];exact zlT.mpr rfl
  |cons t l ih =>
   intro r h;obtain ⟨a,b,rfl,h1,h2⟩:=zbd.mp h;rw[List.reverse_cons,List.reverse_append];exact zas.mpr ⟨_,_,rfl,ih h2,zdU.mpr (zgU h1)⟩
 constructor
 ·intro h;have:=key h;rwa [List.reverse_reverse] at this
 ·intro h;have:=key h;rwa [List.reverse_reverse] at this
noncomputable def bun(l:List Tr):List Tr:=if l.length<2 then l else [.nd false l]
theorem zcm{l:List Tr}{r:List Int}:zbE r (bun l) ↔ ∃ q,q.Perm l/\zbE r q:=by
 unfold bun;split
 ·rename_i h;constructor
  ·intro q;exact ⟨l,.refl _,q⟩
  ·rintro ⟨q,hp,hm⟩;have:q=l:=by
    match l,h with
    |[],_=>exact hp.eq_nil
    |[a],_=>exact hp.eq_singleton
   rw[this] at hm;exact hm
 ·rw[zdU,zaG];constructor
  ·rintro ⟨q,hq,hm⟩;exact ⟨q,zaC hq,hm⟩
  ·rintro ⟨q,hq,hm⟩;refine ⟨q,?_,hm⟩;unfold arr;rw[if_neg xws];exact (zcB _ _ _ rfl).mpr hq
theorem zc3{l:List Tr}:∀{r:List Int},zbE r l->(∀ x∈l,sh p x=0)->No p r:=λ{r} h hl=>by
 induction l generalizing r with
 |nil=>rw[zlT.mp h];exact λg hg=>by cases hg
 |cons t l ih =>
  obtain ⟨a,b,rfl,h1,h2⟩:=zbd.mp h;exact zaQ.mpr ⟨(zg8 h1).mpr (hl t wau),ih h2 λx hx=>hl x (wah _ hx)⟩
theorem znC{l:List Tr}(hne:∀ x∈l,zad x≠[]):∀{r:List Int},zbE r l->(Al p r ↔ ∀ x∈l,sh p x=2):=λ{r} h=>by
 induction l generalizing r with
 |nil=>rw[zlT.mp h];exact ⟨λ_ x hx=>(by cases hx),λ_ g hg=>by cases hg⟩
 |cons t l ih =>
  obtain ⟨a,b,rfl,h1,h2⟩:=zbd.mp h;have e1:=zos (p:=p) (hne t wau) h1;have e2:=ih (λx hx=>hne x (wah _ hx)) h2;rw[List.forall_mem_cons,<- e1,<- e2];exact zaQ
variable{p:List Int}
noncomputable abbrev NA(p:List Int)(l:List Tr):Prop:=RLg (λx=>sh p x=0) (λx=>sh p x=2) l
noncomputable abbrev NAN(p:List Int)(l:List Tr):Prop:=Ctg (λx=>sh p x=0) (λx=>sh p x=2) l
theorem zyu:∀ x:Tr,sh p x=0->¬ sh p x=2:=λx h e=>by rw[h] at e;cases e
theorem zbX{t:Tr}(h:zbQ t):zad t≠[]:=zbL _ t (wal _) h.o
structure zcu(p:List Int)(t:Tr)(pc:List Tr):Prop where
 pure:∀ x∈pc,sh p x=0\/sh p x=2
 ok:∀ x∈pc,zbQ x
 lv:(zae pc).Perm (zad t)
 yes:NA p pc->∀ r,zbE r pc ↔ (r∈zaq t/\RL p r)
 no:¬ NA p pc->∀ r∈zaq t,¬ RL p r
theorem zcu.self{t:Tr}(h:zbQ t)(hs:sh p t≠1):zcu p t [t]:=by
 have h02:sh p t=0\/sh p t=2:=by
  rcases zlv (p:=p) t with e|e|e
  ·exact .inl e
  ·exact absurd e hs
  ·exact .inr e
 have na:NA p [t]:=by
  rcases h02 with e|e
  ·exact zwW λx hx=>by rw[List.mem_singleton.mp hx];exact e
  ·exact zq9 λx hx=>by rw[List.mem_singleton.mp hx];exact e
 refine ⟨λx hx=>by rw[List.mem_singleton.mp hx];exact h02,λx hx=>by rw[List.mem_singleton.mp hx];exact h,by simp[zae],λ_ r=>?_,λn=>absurd na n⟩;rw[zdU];refine ⟨λhr=>⟨hr,?_⟩,λhr=>hr.1⟩;rcases h02 with e|e
 ·exact zwW ((zg8 hr).mpr e)
 ·exact zq9 ((zos (zbX h) hr).mpr e)
theorem zcu.has{t:Tr}{pc:List Tr}(L:zcu p t pc)(h:sh p t≠0):¬ ∀ x∈pc,sh p x=0:=λz=>h (zpi.mpr λg hg=>by obtain ⟨x,hx,gx⟩:=zaB.mp (L.lv.mem_iff.mpr hg);exact zpi.mp (z x hx) g gx)
theorem zcu.all{t:Tr}{pc:List Tr}(L:zcu p t pc)(ht:zbQ t)(h:∀ x∈pc,sh p x=2):sh p t=2:=(zuv (zbX ht)).mpr λg hg=>by obtain ⟨x,hx,gx⟩:=zaB.mp (L.lv.mem_iff.mpr hg);exact (zuv (zbX (L.ok x hx))).mp (h x hx) g gx
section
variable{f:Tr->List Tr}
structure LOK(p:List Int)(f:Tr->List Tr)(l:List Tr):Prop where
 lean:∀ x∈l,zcu p x (f x)
 one:∀ x∈l,sh p x≠1->f x=[x]
 ok:∀ x∈l,zbQ x
theorem LOK.sub{l m:List Tr}(h:LOK p f l)(hs:∀ x∈m,x∈l):LOK p f m:=⟨λx hx=>h.lean x (hs x hx),λx hx=>h.one x (hs x hx),λx hx=>h.ok x (hs x hx)⟩
noncomputable abbrev rv(f:Tr->List Tr)(l:List Tr):List Tr:=l.flatMap λx=>(f x).reverse
theorem zuS{l:List Tr}(h:LOK p f l):(∀ y∈rv f l,sh p y=2) ↔ ∀ x∈l,sh p x=2:=by
 constructor
 ·intro q x hx;exact (h.lean x hx).all (h.ok x hx) λy hy=>q y (List.mem_flatMap.mpr ⟨x,hx,List.mem_reverse.mpr hy⟩)
 ·intro q y hy;obtain ⟨x,hx,hy'⟩:=List.mem_flatMap.mp hy;have e:=q x hx;rw[h.one x hx (by rw[e];decide)] at hy';rw[List.mem_singleton.mp hy'];exact e
theorem znt{l:List Tr}(h:LOK p f l)(hq:∀ x∈l,sh p x≠1):rv f l=l:=by
 induction l with
 |nil=>rfl
 |cons x l ih =>
  show (f x).reverse++rv f l=_;rw[h.one x List.mem_cons_self (hq x List.mem_cons_self),ih (h.sub λy hy=>List.mem_cons_of_mem _ hy) λy hy=>hq y (List.mem_cons_of_mem _ hy)];rfl
theorem zua{A B:List Tr}{b:Tr}(hA:∀ x∈A,sh p x=0)(hb:sh p b≠0)(Lb:zcu p b (f b))(LB:LOK p f B) :
  (NA p (A++(f b++rv f B))->∀ r,zbE r (A++(f b++rv f B)) ↔ zbE r (A++b::B)/\RL p r)/\(¬ NA p (A++(f b++rv f B))->∀ r,zbE r (A++b::B)->¬ RL p r):=by
 have key:NA p (A++(f b++rv f B)) ↔ NA p (f b)/\∀ x∈B,sh p x=2:=by rw[NA,zjQ zyu hA (Lb.has hb),zuS LB]
 have word:∀{a c d:List Int},zbE a A->c∈zaq b->zbE d B->(RL p (a++(c++d)) ↔ RL p c/\∀ x∈B,sh p x=2):=λ{a c d} h1 h2 h3=>by rw[RL,zjQ zuX (zc3 h1 hA) λz=>hb ((zg8 h2).mp z)];exact and_congr_right λ_=>znC (λx hx=>zbX (LB.ok x hx)) h3
 constructor
 ·intro na r;obtain ⟨n1,n2⟩:=key.mp na;rw[znt LB λx hx=>by rw[n2 x hx];decide];constructor
  ·intro h;obtain ⟨a,r2,rfl,h1,h2⟩:=zas.mp h;obtain ⟨c,d,rfl,h3,h4⟩:=zas.mp h2;obtain ⟨h5,h6⟩:=(Lb.yes n1 c).mp h3;exact ⟨zas.mpr ⟨a,_,rfl,h1,zbd.mpr ⟨c,d,rfl,h5,h4⟩⟩,(word h1 h5 h4).mpr ⟨h6,n2⟩⟩
  ·rintro ⟨h,hr⟩;obtain ⟨a,r2,rfl,h1,h2⟩:=zas.mp h;obtain ⟨c,d,rfl,h3,h4⟩:=zbd.mp h2;exact zas.mpr ⟨a,_,rfl,h1,zas.mpr ⟨c,d,rfl,(Lb.yes n1 c).mpr ⟨h3,((word h1 h3 h4).mp hr).1⟩,h4⟩⟩
 ·intro na r h hr;obtain ⟨a,r2,rfl,h1,h2⟩:=zas.mp h;obtain ⟨c,d,rfl,h3,h4⟩:=zbd.mp h2;obtain ⟨q1,q2⟩:=(word h1 h3 h4).mp hr;refine na (key.mpr ⟨Classical.byContradiction λz=>Lb.no z c h3 q1,q2⟩)
theorem zie{t:Tr}{y:List Int}:y.reverse∈zaq t ↔ y∈zaq t:=⟨λh=>by have:=zgU h;rwa [List.reverse_reverse] at this,zgU⟩
theorem zrM{A M Zq:List Tr}{b c:Tr}(hA:∀ x∈A,sh p x=0)(hb:sh p b≠0)(hc:sh p c≠0)(hZ:∀ x∈Zq,sh p x=0)(hM:∀ x∈M,zbQ x){a y m z w:List Int}(h1:zbE a A)(h2:y∈zaq b)(h3:zbE m M)(h4:z∈zaq c)(h5:zbE w Zq):Ct p (a++(y++(m++(z++w)))) ↔ RL p y/\RL p z.reverse/\∀ x∈M,sh p x=2:=by have hy:¬ No p y:=λq=>hb ((zg8 h2).mp q);have hz:¬ No p z:=λq=>hc ((zg8 h4).mp q);rw[Ct,zkb zuX (zc3 h1 hA) (λq=>hy (zaQ.mp q).1),zlq hy (λq=>hz (zaQ.mp (zaQ.mp q).2).1)];refine and_congr_right λ_=>?_;rw[show (m++(z++w)).reverse=w.reverse++(z.reverse++m.reverse) by simp,zjQ zuX (zbW.mpr (zc3 h5 hZ)) (λq=>hz (zbW.mp q)),zbW];exact and_congr_right λ_=>znC (λx hx=>zbX (hM x hx)) h3
theorem zsB{A M Zq:List Tr}{b c:Tr}(hA:∀ x∈A,sh p x=0)(hb:sh p b≠0)(hc:sh p c≠0)(hZ:∀ x∈Zq,sh p x=0)(Lb:zcu p b (f b))(Lc:zcu p c (f c))(LM:LOK p f M) :
  (NAN p (A++(f b++(rv f M++((f c).reverse++Zq))))->∀ r,zbE r (A++(f b++(rv f M++((f c).reverse++Zq)))) ↔ zbE r (A++b::(M++c::Zq))/\Ct p r) /\
  (¬ NAN p (A++(f b++(rv f M++((f c).reverse++Zq))))->∀ r,zbE r (A++b::(M++c::Zq))->¬ Ct p r):=by
 have hasC:¬ ∀ x∈rv f M++((f c).reverse++Zq),sh p x=0:=λz=>Lc.has hc (zbW.mp (zaQ.mp (zaQ.mp z).2).1);have key:NAN p (A++(f b++(rv f M++((f c).reverse++Zq)))) ↔ NA p (f b)/\NA p (f c)/\∀ x∈M,sh p x=2:=by rw[NAN,zkb zyu hA (λz=>Lb.has hb (zaQ.mp z).1),zlq (Lb.has hb) hasC];refine and_congr_right λ_=>?_;rw[show (rv f M++((f c).reverse++Zq)).reverse=Zq.reverse++(f c++(rv f M).reverse) by simp,zjQ zyu (zbW.mpr hZ) (Lc.has hc),zbW,zuS LM]
 have word:∀{a y m z w:List Int},zbE a A->y∈zaq b->zbE m M->z∈zaq c->zbE w Zq->(Ct p (a++(y++(m++(z++w)))) ↔ RL p y/\RL p z.reverse/\∀ x∈M,sh p x=2):=λh1 h2 h3 h4 h5=>zrM hA hb hc hZ LM.ok h1 h2 h3 h4 h5;constructor
 ·intro na r;obtain ⟨n1,n2,n3⟩:=key.mp na;rw[znt LM λx hx=>by rw[n3 x hx];decide];constructor
  ·intro h;obtain ⟨a,r2,rfl,h1,h2⟩:=zas.mp h;obtain ⟨y,r3,rfl,h3,h4⟩:=zas.mp h2;obtain ⟨m,r4,rfl,h5,h6⟩:=zas.mp h4;obtain ⟨z,w,rfl,h7,h8⟩:=zas.mp h6;obtain ⟨q1,q2⟩:=(Lb.yes n1 y).mp h3;obtain ⟨q3,q4⟩:=(Lc.yes n2 _).mp (zfP.mp h7);have q3':=zie.mp q3;exact ⟨zas.mpr ⟨a,_,rfl,h1,zbd.mpr ⟨y,_,rfl,q1,zas.mpr ⟨m,_,rfl,h5,zbd.mpr ⟨z,w,rfl,q3',h8⟩⟩⟩⟩,(word h1 q1 h5 q3' h8).mpr ⟨q2,q4,n3⟩⟩
  ·rintro ⟨h,hr⟩;obtain ⟨a,r2,rfl,h1,h2⟩:=zas.mp h;obtain ⟨y,r3,rfl,h3,h4⟩:=zbd.mp h2;obtain ⟨m,r4,rfl,h5,h6⟩:=zas.mp h4;obtain ⟨z,w,rfl,h7,h8⟩:=zbd.mp h6;obtain ⟨q1,q2,_⟩:=(word h1 h3 h5 h7 h8).mp hr;exact zas.mpr ⟨a,_,rfl,h1,zas.mpr ⟨y,_,rfl,(Lb.yes n1 y).mpr ⟨h3,q1⟩,zas.mpr ⟨m,_,rfl,h5,zas.mpr ⟨z,w,rfl,zfP.mpr ((Lc.yes n2 _).mpr ⟨zie.mpr h7,q2⟩),h8⟩⟩⟩⟩
 ·intro na r h hr;obtain ⟨a,r2,rfl,h1,h2⟩:=zas.mp h;obtain ⟨y,r3,rfl,h3,h4⟩:=zbd.mp h2;obtain ⟨m,r4,rfl,h5,h6⟩:=zas.mp h4;obtain ⟨z,w,rfl,h7,h8⟩:=zbd.mp h6;obtain ⟨q1,q2,q3⟩:=(word h1 h3 h5 h7 h8).mp hr;refine na (key.mpr ⟨Classical.byContradiction λe=>Lb.no e y h3 q1,Classical.byContradiction λe=>Lc.no e _ (zie.mpr h7) q2,q3⟩)
end
variable{p:List Int}
section
variable{f:Tr->List Tr}
noncomputable def zbn(f:Tr->List Tr)(p:List Int):List Tr->List Tr->List Tr
 |acc,[]=>acc
 |acc,b::os=>zbn f p (acc++(if (acc.any λx=>sh p x == 2)=true then (f b).reverse else f b)) os
theorem zlK:∀(os acc:List Tr),(acc.any λx=>sh p x == 2)=true->zbn f p acc os=acc++rv f os
 |[],acc,_=>by simp[zbn,rv]
 |b::os,acc,h=>by rw[zbn,if_pos h,zlK os _ (by rw[List.any_append,h];rfl)];simp[rv]
theorem zmM:∀(A os acc:List Tr),(∀ x∈A,sh p x=0)->(∀ x∈A,f x=[x])->(∀ x∈acc,sh p x=0)->zbn f p acc (A++os)=zbn f p (acc++A) os
 |[],os,acc,_,_,_=>by simp
 |a::A,os,acc,h1,h2,h3=>by
  have hn:¬ (acc.any λx=>sh p x == 2)=true:=λz=>by obtain ⟨x,hx,e⟩:=List.any_eq_true.mp z;rw[h3 x hx] at e;cases e
  rw[List.cons_append,zbn,if_neg hn,h2 a List.mem_cons_self,zmM A os _ (λx hx=>h1 x (List.mem_cons_of_mem _ hx)) (λx hx=>h2 x (List.mem_cons_of_mem _ hx)) λx hx=>by
   rcases List.mem_append.mp hx with z|z
   ·exact h3 x z
   ·rw[List.mem_singleton.mp z];exact h1 a wau]
  simp
theorem zof{A B:List Tr}{b:Tr}(hA:∀ x∈A,sh p x=0)(hb:sh p b≠0)(L:LOK p f (A++b::B)):zbn f p [] (A++b::B)=A++(f b++rv f B):=by
 have Lb:=L.lean b xws;rw[zmM A _ [] hA (λx hx=>L.one x (by simp[hx]) (by rw[hA x hx];decide)) xws,List.nil_append,zbn];have hn:¬ (A.any λx=>sh p x == 2)=true:=λz=>by obtain ⟨x,hx,e⟩:=List.any_eq_true.mp z;rw[hA x hx] at e;cases e
 rw[if_neg hn,zlK,List.append_assoc];rw[List.any_append,Bool.or_eq_true];refine .inr ?_;refine Classical.byContradiction λz=>Lb.has hb λx hx=>?_;rcases Lb.pure x hx with e|e
 ·exact e
 ·exact absurd (List.any_eq_true.mpr ⟨x,hx,by rw[e];rfl⟩) z
end
theorem zcV:∀{os:List Tr},(¬ ∀ x∈os,sh p x=0)->∃ A b B,os=A++b::B/\(∀ x∈A,sh p x=0)/\sh p b≠0
 |[],h=>absurd xws h
 |x::os,h=>by
  by_cases hx:sh p x=0
  ·obtain ⟨A,b,B,rfl,h1,h2⟩:=zcV (os:=os) λz=>h λy hy=>by
    rcases wap.mp hy with rfl|hy
    ·exact hx
    ·exact z y hy
   exact ⟨x::A,b,B,rfl,λy hy=>by
    rcases wap.mp hy with rfl|hy
    ·exact hx
    ·exact h1 y hy,h2⟩
  ·exact ⟨[],x,os,rfl,xws,hx⟩
theorem zoD{os:List Tr}(h:¬ ∀ x∈os,sh p x=0):∃ M c Zq,os=M++c::Zq/\(∀ x∈Zq,sh p x=0)/\sh p c≠0:=by obtain ⟨A,b,B,e,h1,h2⟩:=zcV (os:=os.reverse) λz=>h (zbW.mp z);refine ⟨B.reverse,b,A.reverse,?_,zbW.mpr h1,h2⟩;rw[<- List.reverse_reverse os,e];simp
theorem zrj{A B:List Tr}{b:Tr}{r:List Int}(hA:∀ x∈A,sh p x=0)(hb:sh p b≠0)(hB:∀ x∈B,zbQ x)(h:zbE r (A++b::B))(hr:RL p r):∀ x∈B,sh p x=2:=by obtain ⟨a,r2,rfl,h1,h2⟩:=zas.mp h;obtain ⟨c,d,rfl,h3,h4⟩:=zbd.mp h2;exact (znC (λx hx=>zbX (hB x hx)) h4).mp ((zjQ zuX (zc3 h1 hA) λz=>hb ((zg8 h3).mp z)).mp hr).2
noncomputable abbrev ws(p:List Int)(k:Nat)(l:List Tr):List Tr:=l.filter λb=>sh p b == k
theorem zcX{k:Nat}{l:List Tr}{x:Tr}:x∈ws p k l ↔ x∈l/\sh p x=k:=by rw[List.mem_filter,beq_iff_eq]
theorem zdg:∀ bs:List Tr,(ws p 0 bs++(ws p 1 bs++ws p 2 bs)).Perm bs
 |[]=>.refl _
 |b::bs=>by
  have ih:=zdg bs;have c:∀ k,ws p k (b::bs)=if sh p b=k then b::ws p k bs else ws p k bs:=λk=>by
   show List.filter _ (b::bs)=_;rw[List.filter_cons];by_cases h:sh p b=k
   ·rw[if_pos (by simpa using h),if_pos h]
   ·rw[if_neg (by simpa using h),if_neg h]
  rw[c,c,c];rcases zlv (p:=p) b with e|e|e
  ·rw[e,if_pos rfl,if_neg xwd,if_neg xwd];exact .cons b ih
  ·rw[e,if_neg xwd,if_pos rfl,if_neg xwd];exact List.perm_middle.trans (.cons b ih)
  ·rw[e,if_neg xwd,if_neg xwd,if_pos rfl];refine (List.Perm.append_left _ List.perm_middle).trans (List.perm_middle.trans (.cons b ih))
noncomputable def zb6(p:List Int)(r:Bool)(bs:List Tr):List Tr :=
 if r=true then (if sh p (bs.headD (.lf 0)) > sh p (bs.getLastD (.lf 0)) then bs.reverse else bs) else bun (ws p 0 bs)++(ws p 1 bs++bun (ws p 2 bs))
theorem zmH{os:List Tr}{r:List Int}(hl:2<=os.length)(ho:∀ x∈os,zbQ x)(hle:¬ sh p (os.headD (.lf 0)) > sh p (os.getLastD (.lf 0)))(hn:¬ ∀ x∈os,sh p x=0)(h2:¬ ∀ x∈os,sh p x=2)(h:zbE r os.reverse)(hr:RL p r):False:=by
 obtain ⟨A,b,B,e,hA,hb⟩:=zcV (os:=os.reverse) λz=>hn (zbW.mp z);rw[e] at h;have hB:=zrj hA hb (λx hx=>ho x (List.mem_reverse.mp (by rw[e];simp[hx]))) h hr;have e':os=B.reverse++b::A.reverse:=by rw[<- List.reverse_reverse os,e];simp
 subst e';cases A with
 |cons a A =>
  have e1:(B.reverse++b::(a::A).reverse).getLastD (.lf 0)=a:=by
   have:B.reverse++b::(a::A).reverse=(B.reverse++b::A.reverse)++[a]:=by simp
   rw[this,List.getLastD_eq_getLast?,List.getLast?_append];rfl
  rw[e1,hA a List.mem_cons_self] at hle;cases hB':B.reverse with
  |nil =>
   rw[hB'] at hle;have:sh p b > 0:=Nat.pos_of_ne_zero hb;exact hle this
  |cons c C =>
   rw[hB'] at hle;have hc:=hB c (List.mem_reverse.mp (by rw[hB'];simp));have:sh p c > 0:=by rw[hc];decide
   exact hle this
 |nil =>
  have e1:(B.reverse++b::([]:List Tr).reverse).getLastD (.lf 0)=b:=by simp
  rw[e1] at hle;cases hB':B.reverse with
  |nil=>rw[hB'] at hl;simp at hl
  |cons c C =>
   rw[hB'] at hle;have hc:=hB c (List.mem_reverse.mp (by rw[hB'];simp));have hb2:sh p b=2:=by have:¬ sh p c > sh p b:=hle;rcases zlv (p:=p) b with z|z|z <;> omega
   refine h2 λx hx=>?_;rcases wax.mp hx with z|z
   ·exact hB x (List.mem_reverse.mp z)
   ·simp at z;rw[z];exact hb2
theorem zx9{r:Bool}{bs:List Tr}(H:zbQ (.nd r bs))(hs:sh p (.nd r bs)=1)(x:List Int):(x∈zaq (.nd r bs)/\RL p x) ↔ (zbE x (zb6 p r bs)/\RL p x):=by
 obtain ⟨Ap,hk,hlen⟩:=H.kids;have hn:¬ ∀ y∈bs,sh p y=0:=λz=>by
  have:sh p (.nd r bs)=0:=zpi.mpr λg hg=>by rw[zad] at hg;obtain ⟨y,hy,gy⟩:=zaB.mp hg;exact zpi.mp (z y hy) g gy
  rw[this] at hs;cases hs
 have h2:¬ ∀ y∈bs,sh p y=2:=λz=>by
  have:sh p (.nd r bs)=2:=(zuv (zbX H)).mpr λg hg=>by rw[zad] at hg;obtain ⟨y,hy,gy⟩:=zaB.mp hg;exact (zuv (zbX (hk y hy))).mp (z y hy) g gy
  rw[this] at hs;cases hs
 refine and_congr_left λhr=>?_;cases r with
 |true =>
  have hl:2<=bs.length:=by simp at hlen;omega
  have mem:x∈zaq (.nd true bs) ↔ zbE x bs\/zbE x bs.reverse:=by rw[zaG];unfold arr;rw[if_pos rfl];simp
  rw[mem];unfold zb6;rw[if_pos rfl];by_cases c:sh p (bs.headD (.lf 0)) > sh p (bs.getLastD (.lf 0))
  ·rw[if_pos c];refine ⟨λh=>h.elim (λz=>?_) id,.inr⟩;refine (zmH (os:=bs.reverse) (by simpa using hl) (λy hy=>hk y (List.mem_reverse.mp hy)) ?_ (λq=>hn (zbW.mp q)) (λq=>h2 (zbW.mp q)) (by rw[List.reverse_reverse];exact z) hr).elim;have e1:bs.reverse.headD (.lf 0)=bs.getLastD (.lf 0):=by simp[List.headD_eq_head?_getD,List.getLastD_eq_getLast?]
   have e2:bs.reverse.getLastD (.lf 0)=bs.headD (.lf 0):=by simp[List.headD_eq_head?_getD,List.getLastD_eq_getLast?]
   rw[e1,e2];omega
  ·rw[if_neg c];exact ⟨λh=>h.elim id λz=>(zmH hl hk c hn h2 z hr).elim,.inl⟩
 |false =>
  have mem:x∈zaq (.nd false bs) ↔ ∃ q,q.Perm bs/\zbE x q:=by rw[zaG];unfold arr;rw[if_neg xws];exact ⟨λ⟨q,h1,h2⟩=>⟨q,(zcB _ _ _ rfl).mp h1,h2⟩,λ⟨q,h1,h2⟩=>⟨q,(zcB _ _ _ rfl).mpr h1,h2⟩⟩
  rw[mem];unfold zb6;rw[if_neg xws];constructor
  ·rintro ⟨q,hq,hm⟩;obtain ⟨A,b,B,rfl,hA,hb⟩:=zcV (os:=q) λz=>hn λy hy=>z y (hq.mem_iff.mpr hy);have hB:=zrj hA hb (λy hy=>hk y (hq.mem_iff.mp (by simp[hy]))) hm hr;have flt:∀ k,(ws p k (A++b::B)).Perm (ws p k bs):=λk=>hq.filter _;have wA:∀ k,ws p k A=if k=0 then A else []:=λk=>by
    by_cases h:k=0
    ·rw[if_pos h];exact List.filter_eq_self.mpr λy hy=>by rw[hA y hy,h];rfl
    ·rw[if_neg h];exact List.filter_eq_nil_iff.mpr λy hy=>by rw[hA y hy];simpa using λz=>h z.symm
   have wB:∀ k,ws p k B=if k=2 then B else []:=λk=>by
    by_cases h:k=2
    ·rw[if_pos h];exact List.filter_eq_self.mpr λy hy=>by rw[hB y hy,h];rfl
    ·rw[if_neg h];exact List.filter_eq_nil_iff.mpr λy hy=>by rw[hB y hy];simpa using λz=>h z.symm
   have wq:∀ k,ws p k (A++b::B)=ws p k A++((if sh p b=k then [b] else [])++ws p k B):=λk=>by
    show List.filter _ _=_;rw[List.filter_append,List.filter_cons];by_cases h:sh p b=k
    ·rw[if_pos (by simpa using h),if_pos h];rfl
    ·rw[if_neg (by simpa using h),if_neg h];rfl
   have f0:=flt 0;have f1:=flt 1;have f2:=flt 2;rw[wq,wA,wB] at f0 f1 f2;obtain ⟨a,r2,rfl,m1,m2⟩:=zas.mp hm;obtain ⟨c,d,rfl,m3,m4⟩:=zbd.mp m2;rcases zlv (p:=p) b with z|z|z
   ·exact absurd z hb
   ·simp[z] at f0 f1 f2;refine zas.mpr ⟨a,_,rfl,zcm.mpr ⟨A,f0,m1⟩,zas.mpr ⟨c,d,rfl,?_,zcm.mpr ⟨B,f2,m4⟩⟩⟩;rw[<- f1];exact zdU.mpr m3
   ·simp[z] at f0 f1 f2;refine zas.mpr ⟨a,_,rfl,zcm.mpr ⟨A,f0,m1⟩,zas.mpr ⟨[],c++d,rfl,?_,zcm.mpr ⟨b::B,f2,m2⟩⟩⟩;have e:ws p 1 bs=[]:=by first|exact f1|exact List.filter_eq_nil_iff.mpr λy hy q=>f1 y hy (by simpa using q)
    rw[e];exact zlT.mpr rfl
  ·intro hm;obtain ⟨a,r2,rfl,m1,m2⟩:=zas.mp hm;obtain ⟨c,d,rfl,m3,m4⟩:=zas.mp m2;obtain ⟨q0,p0,m5⟩:=zcm.mp m1;obtain ⟨q2,p2,m6⟩:=zcm.mp m4;exact ⟨q0++(ws p 1 bs++q2),(p0.append (List.Perm.append_left _ p2)).trans (zdg bs),zas.mpr ⟨a,_,rfl,m5,zas.mpr ⟨c,d,rfl,m3,m6⟩⟩⟩
variable{p:List Int}
theorem zbq(a b:List Tr):zae (a++b)=zae a++zae b:=by rw[zaO,zaO,zaO,List.flatMap_append]
theorem zsE(t:Tr):zae [t]=zad t:=by simp[zae]
theorem zir(l:List Tr):zae (bun l)=zae l:=by
 unfold bun;split
 ·rfl
 ·rw[zsE];rfl
theorem zlr{r:Bool}{l:List Tr}(h1:(if r then 3 else 2)<=l.length)(h2:∀ x∈l,zbQ x)(h3:(zae l).Nodup):zbQ (.nd r l):=by refine ⟨?_,h3⟩;rw[okT,Bool.and_eq_true,decide_eq_true_eq,zcM,List.all_eq_true];exact ⟨h1,λx hx=>(h2 x hx).o⟩
theorem zrG{l:List Tr}(h2:∀ x∈l,zbQ x)(h3:(zae l).Nodup):∀ x∈bun l,zbQ x:=λx hx=>by
 unfold bun at hx;split at hx
 ·exact h2 x hx
 ·rename_i h;rw[List.mem_singleton.mp hx];exact zlr (Nat.le_of_not_lt h) h2 h3
theorem zou{l:List Tr}{k:Nat}(h2:∀ x∈l,zbQ x)(hk:k=0\/k=2)(h:∀ x∈l,sh p x=k):∀ x∈bun l,sh p x=k:=λx hx=>by
 unfold bun at hx;split at hx
 ·exact h x hx
 ·rename_i hl;rw[List.mem_singleton.mp hx];have e:zad (.nd false l)=zae l:=rfl;rcases hk with rfl|rfl
  ·rw[zpi,e];intro g hg;obtain ⟨t,ht,hg⟩:=zaB.mp hg;exact zpi.mp (h t ht) g hg
  ·rw[zuv,e]
   ·intro g hg;obtain ⟨t,ht,hg⟩:=zaB.mp hg;exact (zuv (zbX (h2 t ht))).mp (h t ht) g hg
   ·rw[e]
    match l,hl with
    |[],hl=>exact absurd xwd hl
    |a::l,_ =>
     intro z;rw[show zae (a::l)=zad a++zae l from rfl,List.append_eq_nil_iff] at z;exact zbX (h2 a wau) z.1
theorem zil{k:Nat}{l:List Tr}(h2:∀ x∈l,zbQ x):∀ x∈ws p k l,zbQ x:=λx hx=>h2 x (zcX.mp hx).1
theorem zvX{l m:List Tr}(h:l.Sublist m):(zae l).Sublist (zae m):=by
 rw[zaO,zaO]
 induction h with
 |slnil=>exact .slnil
 |cons a h ih=>rw[List.flatMap_cons];exact ih.trans (List.sublist_append_right _ _)
 |cons_cons a h ih=>rw[List.flatMap_cons,List.flatMap_cons];exact (List.Sublist.refl _).append ih
theorem zwU{k:Nat}{l:List Tr}(h:(zae l).Nodup):(zae (ws p k l)).Nodup:=(zvX List.filter_sublist).nodup h
theorem zu6{r:Bool}{bs:List Tr}:(zae (zb6 p r bs)).Perm (zae bs):=by
 unfold zb6;split
 ·split
  ·exact zbk (List.reverse_perm bs)
  ·exact .refl _
 ·rw[zbq,zbq,zir,zir,<- zbq,<- zbq];exact zbk (zdg bs)
theorem zhQ{r:Bool}{bs:List Tr}(h2:∀ x∈bs,zbQ x)(h3:(zae bs).Nodup){x:Tr}(hx:x∈zb6 p r bs):zbQ x/\(sh p x≠1\/x∈bs):=by
 unfold zb6 at hx;split at hx
 ·have:x∈bs:=by
   split at hx
   ·exact List.mem_reverse.mp hx
   ·exact hx
  exact ⟨h2 x this,.inr this⟩
 ·have B:∀ k,k=0\/k=2->x∈bun (ws p k bs)->zbQ x/\(sh p x≠1\/x∈bs):=λk hk hx=>by refine ⟨zrG (zil h2) (zwU h3) x hx,.inl ?_⟩;rw[zou (zil h2) hk (λy hy=>(zcX.mp hy).2) x hx];rcases hk with rfl|rfl <;> decide
  rcases wax.mp hx with hx|hx
  ·exact B 0 (.inl rfl) hx
  ·rcases wax.mp hx with hx|hx
   ·exact ⟨h2 x (zcX.mp hx).1,.inr (zcX.mp hx).1⟩
   ·exact B 2 (.inr rfl) hx
theorem zye{f:Tr->List Tr}:∀{l:List Tr},(∀ x∈l,zcu p x (f x))->(zae (rv f l)).Perm (zae l)
 |[],_=>.refl _
 |x::l,h=>by show (zae ((f x).reverse++rv f l)).Perm (zad x++zae l);rw[zbq];exact ((zbk (List.reverse_perm _)).trans (h x wau).lv).append (zye λy hy=>h y (wah _ hy))
noncomputable def ordT(p:List Int):Tr->List Tr
 |.lf g=>[.lf g]
 |.nd r bs=>zb6 p r bs
noncomputable def zc5:Nat->List Int->Tr->List Tr
 |0,_,t=>[t]
 |n+1,p,t=>if sh p t=1 then zbn (zc5 n p) p [] (ordT p t) else [t]
theorem zdJ{n:Nat}{t:Tr}(h:sh p t≠1):zc5 n p t=[t]:=by
 cases n with
 |zero=>rfl
 |succ n=>rw[zc5,if_neg h]
theorem ztg{g:Int}:sh p (.lf g)≠1:=λz=>by
 unfold sh at z;split at z
 ·cases z
 ·rename_i h;split at z
  ·cases z
  ·rename_i h';simp[zad] at h h';exact h' h
theorem zxl{t:Tr}(h:sh p t=1):sh p t≠0/\sh p t≠2:=by rw[h];decide
theorem zhR{t:Tr}{l:List Tr}(h:(zae l).Perm (zad t))(hs:sh p t≠0):¬ ∀ x∈l,sh p x=0:=λz=>hs (zpi.mpr λg hg=>by obtain ⟨x,hx,gx⟩:=zaB.mp (h.mem_iff.mpr hg);exact zpi.mp (z x hx) g gx)
theorem zu9{f:Tr->List Tr}{P:Tr->Prop}{A B:List Tr}{b:Tr}(hA:∀ x∈A,P x)(hb:∀ x∈f b,P x)(hB:∀ y∈B,∀ x∈f y,P x):∀ x∈A++(f b++rv f B),P x:=by refine zaQ.mpr ⟨hA,zaQ.mpr ⟨hb,λx hx=>?_⟩⟩;obtain ⟨y,hy,hx⟩:=List.mem_flatMap.mp hx;exact hB y hy x (List.mem_reverse.mp hx)
theorem zuu{f:Tr->List Tr}{A B:List Tr}{b:Tr}(hA:∀ x∈A,sh p x=0)(L:LOK p f (A++b::B)) :
  (∀ x∈A++(f b++rv f B),sh p x=0\/sh p x=2)/\(∀ x∈A++(f b++rv f B),zbQ x)/\(zae (A++(f b++rv f B))).Perm (zae (A++b::B)):=by
 have Lb:=L.lean b xws;have LB:∀ x∈B,zcu p x (f x):=λx hx=>L.lean x (by simp[hx]);refine ⟨zu9 (λx hx=>.inl (hA x hx)) Lb.pure λy hy=>(LB y hy).pure,zu9 (λx hx=>L.ok x (by simp[hx])) Lb.ok λy hy=>(LB y hy).ok,?_⟩;rw[zbq,zbq,zbq];exact .append_left _ (Lb.lv.append (zye LB))
theorem zi0:∀(n:Nat)(t:Tr),(sh p t=1->dep t<=n)->zbQ t->zcu p t (zc5 n p t)
 |0,t,h,H=>by refine zcu.self H λz=>?_;have:=h z;cases t <;> simp[dep] at this
 |n+1,t,h,H=>by
  by_cases hs:sh p t=1
  ·have hd:=h hs;rw[zc5,if_pos hs];cases t with
   |lf g=>exact absurd hs ztg
   |nd r bs =>
    show zcu p _ (zbn (zc5 n p) p [] (zb6 p r bs));simp only[dep] at hd;have hd':=zaS.mp (by omega:zdt bs<=n);obtain ⟨_,hk,_⟩:=H.kids;have L:LOK p (zc5 n p) (zb6 p r bs):=⟨λx hx=>by
     obtain ⟨h1,h2⟩:=zhQ hk H.n hx;exact zi0 n x (λz=>by
      rcases h2 with q|q
      ·exact absurd z q
      ·exact hd' x q) h1,λx _ q=>zdJ q,λx hx=>(zhQ hk H.n hx).1⟩
    have hlv:(zae (zb6 p r bs)).Perm (zad (.nd r bs)):=zu6;obtain ⟨A,b,B,e,hA,hb⟩:=zcV (zhR hlv (zxl hs).1);have O:=λx=>zx9 H hs x;rw[e] at L hlv O ⊢;rw[zof hA hb L];obtain ⟨s1,s2,s3⟩:=zuu hA L;have S:=zua hA hb (L.lean b xws) (L.sub (m:=B) λx hx=>by simp[hx]);refine ⟨s1,s2,s3.trans hlv,λna r=>?_,λna r hr q=>?_⟩
    ·rw[S.1 na r,O r]
    ·exact S.2 na r ((O r).mp ⟨hr,q⟩).1 q
  ·rw[zc5,if_neg hs];exact zcu.self H hs
variable{p:List Int}
structure zhk(p:List Int)(os pc:List Tr):Prop where
 ok:∀ x∈pc,zbQ x
 lv:(zae pc).Perm (zae os)
 pure:∀ x∈pc,sh p x=0\/sh p x=2
 yes:NAN p pc->∀ r,zbE r pc ↔ zbE r os/\Ct p r
 no:¬ NAN p pc->∀ r,zbE r os->¬ Ct p r
theorem zxt{r:List Int}(h:Al p r):Ct p r:=⟨[],r,[],xws,xws,h,xws⟩
theorem zjP{r:List Int}:Ct p r.reverse ↔ Ct p r:=by
 have key:∀{r:List Int},Ct p r->Ct p r.reverse:=λ{r}=>by rintro ⟨u,v,w,rfl,h1,h2,h3⟩;exact ⟨w.reverse,v.reverse,u.reverse,xws,zbW.mpr h3,zbW.mpr h2,zbW.mpr h1⟩
 exact ⟨λh=>by have:=key h;rwa [List.reverse_reverse] at this,key⟩
theorem zoH{a y w:List Int}(ha:No p a)(hy:¬ No p y)(hw:No p w):Ct p (a++(y++w)) ↔ Ct p y:=by rw[Ct,zkb zuX ha λz=>hy (zaQ.mp z).1];rw[<- Ct,<- zjP,List.reverse_append,Ct,zkb zuX (zbW.mpr hw) λz=>hy (zbW.mp z)];exact zjP
theorem zgK{k:Nat}{l:List Tr}(h:∀ x∈l,sh p x=k):ws p k l=l:=List.filter_eq_self.mpr λx hx=>by rw[h x hx];exact beq_self_eq_true k
theorem zii{k:Nat}{l:List Tr}(h:∀ x∈l,sh p x≠k):ws p k l=[]:=List.filter_eq_nil_iff.mpr λx hx z=>h x hx (beq_iff_eq.mp z)
theorem zkp{k:Nat}{a b:List Tr}:ws p k (a++b)=ws p k a++ws p k b:=List.filter_append _ _
theorem zgf{k:Nat}{a:Tr}{b:List Tr}:ws p k (a::b)=(if sh p a=k then [a] else [])++ws p k b:=by
 show List.filter _ _=_;rw[List.filter_cons];by_cases h:sh p a=k
 ·rw[if_pos (by simpa using h),if_pos h];rfl
 ·rw[if_neg (by simpa using h),if_neg h];rfl
theorem zra{os:List Tr}(h:(ws p 0 os).length+2<=os.length):∃ A b M c Zq,os=A++b::(M++c::Zq)/\(∀ x∈A,sh p x=0)/\sh p b≠0/\sh p c≠0/\∀ x∈Zq,sh p x=0:=by
 obtain ⟨A,b,B,rfl,h1,h2⟩:=zcV (os:=os) (p:=p) λz=>by rw[zgK z] at h;omega
 obtain ⟨M,c,Zq,rfl,h3,h4⟩:=zoD (os:=B) (p:=p) λz=>by rw[zkp,zgf,if_neg h2,zgK h1,zgK z] at h;simp at h;omega
 exact ⟨A,b,M,c,Zq,rfl,h1,h2,h4,h3⟩
theorem ztE{f:Tr->List Tr}{A M Zq:List Tr}{b c:Tr}(L:LOK p f (A++b::(M++c::Zq)))(hA:∀ x∈A,sh p x=0)(hb:sh p b≠0)(hZ:∀ x∈Zq,sh p x=0):zbn f p [] (A++b::(M++c::Zq))=A++(f b++(rv f M++((f c).reverse++Zq))):=by
 rw[zof hA hb L];have:rv f Zq=Zq:=znt (L.sub λx hx=>by simp[hx]) λx hx=>by rw[hZ x hx];decide
 simp only[rv,List.flatMap_append,List.flatMap_cons] at this ⊢;rw[this]
theorem zkT{f:Tr->List Tr}{os:List Tr}(L:LOK p f os)(h:(ws p 0 os).length+2<=os.length):zhk p os (zbn f p [] os):=by obtain ⟨A,b,M,c,Zq,rfl,hA,hb,hc,hZ⟩:=zra h;obtain ⟨s1,s2,s3⟩:=zuu hA L;have S:=zsB hA hb hc hZ (L.lean b xws) (L.lean c xws) (L.sub (m:=M) λx hx=>by simp[hx]);rw[<- zof hA hb L] at s1 s2 s3;rw[<- ztE L hA hb hZ] at S;exact ⟨s2,s3,s1,S.1,S.2⟩
theorem zv3{f:Tr->List Tr}{x:Tr}(hx:zbQ x)(hs:sh p x=2)(h1:f x=[x]):zhk p [x] (zbn f p [] [x]):=by
 have e:zbn f p [] [x]=[x]:=by simp[zbn,h1]
 rw[e];refine ⟨λy hy=>by rw[List.mem_singleton.mp hy];exact hx,.refl _,λy hy=>by rw[List.mem_singleton.mp hy];exact .inr hs,λ_ r=>⟨λh=>⟨h,zxt ?_⟩,λh=>h.1⟩,λn=>absurd ⟨[],[x],[],xws,xws,?_,xws⟩ n⟩
 ·exact (zos (zbX hx) (zdU.mp h)).mpr hs
 ·intro y hy;rw[List.mem_singleton.mp hy];exact hs
theorem zhS{l:List Tr}{r:List Int}:r∈zaq (.nd true l) ↔ zbE r l\/zbE r.reverse l:=by
 rw[zaG];constructor
 ·rintro ⟨q,hq,hm⟩;have:q=l\/q=l.reverse:=by simpa [arr] using hq
  rcases this with rfl|rfl
  ·exact .inl hm
  ·exact .inr (zfP.mp hm)
 ·rintro (hm|hm)
  ·exact ⟨l,by simp[arr],hm⟩
  ·exact ⟨l.reverse,by simp[arr],zfP.mpr hm⟩
theorem zt0{l:List Tr}{r:List Int}:r∈zaq (.nd false l) ↔ ∃ q,q.Perm l/\zbE r q:=by rw[zaG];exact ⟨λ⟨q,hq,hm⟩=>⟨q,zaC hq,hm⟩,λ⟨q,hq,hm⟩=>⟨q,(zcB _ _ _ rfl).mpr hq,hm⟩⟩
structure zf4(p:List Int)(t:Tr)(o:Option Tr):Prop where
 yes:∀ t',o=some t'->zbQ t'/\(zad t').Perm (zad t)/\∀ r,r∈zaq t' ↔ r∈zaq t/\Ct p r
 no:o=none->∀ r∈zaq t,¬ Ct p r
noncomputable def zki(pc:List Tr):Tr:=if pc.length=1 then pc.headD (.lf 0) else .nd true pc
noncomputable def zfk(p:List Int)(bs:List Tr):List Tr:=(ws p 1 bs).take 1++(bun (ws p 2 bs)++(ws p 1 bs).drop 1)
theorem zrx{pc:List Tr}{s:List Int}:s∈zaq (zki pc) ↔ zbE s pc\/zbE s.reverse pc:=by
 unfold zki;split
 ·rename_i h;obtain ⟨x,rfl⟩:=List.length_eq_one_iff.mp h;show s∈zaq x ↔ _;rw[zdU,zdU,zie,or_self]
 ·exact zhS
theorem zqJ{T C X Yq:List Tr}{s:List Int}(hX:X.length<=1)(hY:Yq.length<=1)(hT:(X++Yq).Perm T)(h:zbE s (X++(bun C++Yq))):zbE s (T.take 1++(bun C++T.drop 1))\/zbE s.reverse (T.take 1++(bun C++T.drop 1)):=by
 have hb:(bun C).reverse=bun C:=by
  unfold bun;split
  ·rename_i h
   match C,h with
   |[],_=>rfl
   |[a],_=>rfl
  ·rfl
 have rev:∀{X Yq:List Tr},X.length<=1->Yq.length<=1->zbE s (X++(bun C++Yq))->zbE s.reverse (Yq++(bun C++X)):=λ{X Yq} hX hY h=>by
  have:Yq++(bun C++X)=(X++(bun C++Yq)).reverse:=by
   have one:∀{Zq:List Tr},Zq.length<=1->Zq.reverse=Zq:=λ{Zq} h=>by
    match Zq,h with
    |[],_=>rfl
    |[a],_=>rfl
   rw[List.reverse_append,List.reverse_append,hb,one hX,one hY,List.append_assoc]
  rw[this,zfP,List.reverse_reverse];exact h
 match X,Yq,hX,hY with
 |[],[],_,_=>rw[hT.symm.eq_nil];exact .inl h
 |[x],[],_,_=>rw[hT.symm.eq_singleton];exact .inl h
 |[],[y],hX,hY=>rw[hT.symm.eq_singleton];exact .inr (rev hX hY h)
 |[x],[y],hX,hY =>
  have hT':T.Perm [x,y]:=hT.symm;have hl:=hT'.length_eq
  match T,hl with
  |[a,b],_ =>
   have ha:a∈[x,y]:=hT'.mem_iff.mp xws;rcases wap.mp ha with rfl|ha
   ·have:=(List.perm_cons _).mp hT';rw[this.eq_singleton];exact .inl h
   ·have ha:=List.mem_singleton.mp ha;subst ha;have:=(List.perm_cons a).mp (hT'.trans (List.Perm.swap _ _ _));have:=this.eq_singleton;cases this;exact .inr (rev hX hY h)
variable{p:List Int}
theorem zxu{bs:List Tr}(hk:∀ x∈bs,zbQ x)(h2:(ws p 0 bs).length+2<=bs.length)(r:List Int):(r∈zaq (.nd false bs)/\Ct p r) ↔
  ∃ A Zq a s w,r=a++(s++w)/\(A++Zq).Perm (ws p 0 bs)/\zbE a A/\zbE w Zq/\(zbE s (zfk p bs)\/zbE s.reverse (zfk p bs))/\Ct p s:=by
 rw[zt0];constructor
 ·rintro ⟨⟨q,hq,hm⟩,hc⟩;have flt:∀ k,(ws p k q).Perm (ws p k bs):=λk=>hq.filter _;obtain ⟨A,b,M,c,Zq,rfl,hA,hb,hc',hZ⟩:=zra (os:=q) (p:=p) (by rw[(flt 0).length_eq,hq.length_eq];exact h2);obtain ⟨a,r2,rfl,m1,m2⟩:=zas.mp hm;obtain ⟨y,r3,rfl,m3,m4⟩:=zbd.mp m2;obtain ⟨m,r4,rfl,m5,m6⟩:=zas.mp m4;obtain ⟨z,w,rfl,m7,m8⟩:=zbd.mp m6;have hM:=((zrM hA hb hc' hZ (λx hx=>hk x (hq.mem_iff.mp (by simp[hx]))) m1 m3 m5 m7 m8).mp hc).2.2;have hy:¬ No p y:=λe=>hb ((zg8 m3).mp e);refine ⟨A,Zq,a,y++(m++z),w,xws,?_,m1,m8,?_,?_⟩
  ·have:=flt 0;rw[zkp,zgf,zkp,zgf,if_neg hb,if_neg hc',zgK hA,zgK hZ,zii (l:=M) λx hx=>by rw[hM x hx];decide] at this;exact this
  ·have f1:=flt 1;have f2:=flt 2;rw[zkp,zgf,zkp,zgf,zii (l:=A) (λx hx=>by rw[hA x hx];decide),zii (l:=Zq) (λx hx=>by rw[hZ x hx];decide)] at f1 f2;rw[zii (l:=M) (λx hx=>by rw[hM x hx];decide)] at f1;rw[zgK (l:=M) hM] at f2;simp only[List.nil_append,List.append_nil] at f1 f2;refine zqJ (X:=if sh p b=1 then [b] else []) (Yq:=if sh p c=1 then [c] else []) (by split <;> simp) (by split <;> simp) f1 ?_;have sb:sh p b=1\/sh p b=2:=by
    rcases zlv (p:=p) b with e|e
    ·exact absurd e hb
    ·exact e
   have sc:sh p c=1\/sh p c=2:=by
    rcases zlv (p:=p) c with e|e
    ·exact absurd e hc'
    ·exact e
   rcases sb with sb|sb <;> rcases sc with sc|sc <;> simp only[sb,sc,if_true,Nat.reduceEqDiff,if_false,List.nil_append,List.append_nil,List.cons_append] at f2 ⊢
   ·exact zbd.mpr ⟨y,_,rfl,m3,zas.mpr ⟨m,z,rfl,zcm.mpr ⟨M,f2,m5⟩,zdU.mpr m7⟩⟩
   ·exact zbd.mpr ⟨y,_,rfl,m3,zcm.mpr ⟨_,f2,zas.mpr ⟨m,z,rfl,m5,zdU.mpr m7⟩⟩⟩
   ·exact zas.mpr ⟨y++m,z,xws,zcm.mpr ⟨_,f2,zbd.mpr ⟨y,m,rfl,m3,m5⟩⟩,zdU.mpr m7⟩
   ·exact zcm.mpr ⟨_,f2,zbd.mpr ⟨y,_,rfl,m3,zas.mpr ⟨m,z,rfl,m5,zdU.mpr m7⟩⟩⟩
  ·refine (zoH (zc3 m1 hA) (λe=>hy (zaQ.mp e).1) (zc3 m8 hZ)).mp ?_;simpa using hc
 ·rintro ⟨A,Zq,a,s,w,rfl,hp,m1,m2,hs,hc⟩;have key:∀{s:List Int},zbE s (zfk p bs)->∃ q,q.Perm (ws p 1 bs++ws p 2 bs)/\zbE s q:=λ{s} h=>by obtain ⟨x,r2,rfl,k1,k2⟩:=zas.mp h;obtain ⟨y,z,rfl,k3,k4⟩:=zas.mp k2;obtain ⟨q,hq,k5⟩:=zcm.mp k3;refine ⟨_,?_,zas.mpr ⟨x,_,rfl,k1,zas.mpr ⟨y,z,rfl,k5,k4⟩⟩⟩;refine (List.Perm.append_left _ (List.perm_append_comm.trans (List.Perm.append_left _ hq))).trans ?_;rw[<- List.append_assoc,List.take_append_drop]
  have:∃ q,q.Perm (ws p 1 bs++ws p 2 bs)/\zbE s q:=by
   rcases hs with hs|hs
   ·exact key hs
   ·obtain ⟨q,hq,k⟩:=key hs;exact ⟨q.reverse,(List.reverse_perm q).trans hq,zfP.mpr k⟩
  obtain ⟨q,hq,k⟩:=this;have hN:∀ x∈A++Zq,sh p x=0:=λx hx=>(zcX.mp (hp.mem_iff.mp hx)).2;refine ⟨⟨A++(q++Zq),?_,zas.mpr ⟨a,_,rfl,m1,zas.mpr ⟨s,w,rfl,k,m2⟩⟩⟩,?_⟩
  ·refine (List.Perm.append_left _ List.perm_append_comm).trans ?_;rw[<- List.append_assoc];exact (hp.append hq).trans (zdg bs)
  ·by_cases hn:No p s
   ·have:No p (a++(s++w)):=zaQ.mpr ⟨zc3 m1 (zaQ.mp hN).1,zaQ.mpr ⟨hn,zc3 m2 (zaQ.mp hN).2⟩⟩;exact ⟨_,[],[],xws,this,xws,xws⟩
   ·exact (zoH (zc3 m1 (zaQ.mp hN).1) hn (zc3 m2 (zaQ.mp hN).2)).mpr hc
theorem zwI{N:List Tr}{x:Tr}{r:List Int}:r∈zaq ((bun (N++[x])).headD (.lf 0)) ↔ ∃ A Zq a s w,r=a++(s++w)/\(A++Zq).Perm N/\zbE a A/\zbE w Zq/\s∈zaq x:=by
 have hd:r∈zaq ((bun (N++[x])).headD (.lf 0)) ↔ zbE r (bun (N++[x])):=by
  unfold bun;split
  ·rename_i h
   match N,h with
   |[],_=>exact zdU.symm
   |a::N,h=>simp at h;omega
  ·exact zdU.symm
 rw[hd,zcm];constructor
 ·rintro ⟨q,hq,hm⟩;obtain ⟨A,Zq,rfl⟩:=List.append_of_mem (hq.mem_iff.mpr (by simp:x∈N++[x]));obtain ⟨a,r2,rfl,m1,m2⟩:=zas.mp hm;obtain ⟨s,w,rfl,m3,m4⟩:=zbd.mp m2;exact ⟨A,Zq,a,s,w,rfl,(List.perm_cons x).mp (List.perm_middle.symm.trans (hq.trans List.perm_append_comm)),m1,m4,m3⟩
 ·rintro ⟨A,Zq,a,s,w,rfl,hp,m1,m2,m3⟩;exact ⟨A++x::Zq,List.perm_middle.trans ((hp.cons x).trans (List.perm_append_comm (l₁:=[x]) (l₂:=N))),zas.mpr ⟨a,_,rfl,m1,zbd.mpr ⟨s,w,rfl,m3,m2⟩⟩⟩
theorem zqS{bs pc:List Tr}(H:zbQ (.nd false bs))(h2:(ws p 0 bs).length+2<=bs.length)(T:zhk p (zfk p bs) pc)(hl:pc.length=1\/3<=pc.length) :
  (NAN p pc->zf4 p (.nd false bs) (some ((bun (ws p 0 bs++[zki pc])).headD (.lf 0))))/\(¬ NAN p pc->zf4 p (.nd false bs) none):=by
 obtain ⟨_,hk,_⟩:=H.kids;have C:=zxu hk h2;have hlv:(zae (zfk p bs)).Perm (zae (ws p 1 bs++ws p 2 bs)):=by rw[zfk,zbq,zbq,zir,<- zbq,<- zbq];refine zbk ((List.Perm.append_left _ List.perm_append_comm).trans ?_);rw[<- List.append_assoc,List.take_append_drop]
 have ilv:(zad (zki pc))=zae pc:=by
  unfold zki;split
  ·rename_i h;obtain ⟨x,rfl⟩:=List.length_eq_one_iff.mp h;exact (zsE x).symm
  ·rfl
 have alv:(zae (ws p 0 bs++[zki pc])).Perm (zae bs):=by rw[zbq,zsE,ilv];refine (List.Perm.append_left _ (T.lv.trans hlv)).trans ?_;rw[<- zbq];exact zbk (zdg bs)
 have nd:=alv.nodup_iff.mpr H.n;have iok:zbQ (zki pc):=by
  unfold zki;split
  ·rename_i h;obtain ⟨x,rfl⟩:=List.length_eq_one_iff.mp h;exact T.ok x xws
  ·rename_i h;refine zlr ?_ T.ok ?_
   ·rcases hl with q|q
    ·exact absurd q h
    ·exact q
   ·rw[zbq,zsE,ilv] at nd;exact (List.nodup_append.mp nd).2.1
 have aok:∀ x∈ws p 0 bs++[zki pc],zbQ x:=zaQ.mpr ⟨zil hk,λx hx=>by rw[List.mem_singleton.mp hx];exact iok⟩;constructor
 ·intro na;refine ⟨λt' e=>?_,λe=>by cases e⟩;cases e;have hb:∃ x,bun (ws p 0 bs++[zki pc])=[x]:=by
   unfold bun;split
   ·rename_i h
    match ws p 0 bs,h with
    |[],_=>exact ⟨_,rfl⟩
    |a::N,h=>simp at h;omega
   ·exact ⟨_,rfl⟩
  refine ⟨?_,?_,λr=>?_⟩
  ·obtain ⟨x,e⟩:=hb;have:=zrG aok nd x (by rw[e];simp);rw[e];exact this
  ·obtain ⟨x,e⟩:=hb;have:=zir (ws p 0 bs++[zki pc]);rw[e,zsE] at this;rw[e];exact (show (zad x).Perm _ from this ▸ alv)
  ·rw[zwI,C r];refine exists_congr λA=>exists_congr λZq=>exists_congr λa=>exists_congr λs=>exists_congr λw=>and_congr_right λ_=>and_congr_right λ_=>and_congr_right λ_=>and_congr_right λ_=>?_;rw[zrx,T.yes na,T.yes na,zjP,or_and_right]
 ·intro na;refine ⟨λt' e=>(by cases e),λ_ r hr hc=>?_⟩;obtain ⟨A,Zq,a,s,w,rfl,hp,m1,m2,hs,hc⟩:=(C r).mp ⟨hr,hc⟩;rcases hs with hs|hs
  ·exact T.no na s hs hc
  ·exact T.no na _ hs (zjP.mpr hc)
theorem zrh{bs pc:List Tr}(H:zbQ (.nd true bs))(T:zhk p bs pc)(hl:3<=pc.length) :
  (NAN p pc->zf4 p (.nd true bs) (some (.nd true pc)))/\(¬ NAN p pc->zf4 p (.nd true bs) none):=by
 constructor
 ·intro na;refine ⟨λt' e=>?_,λe=>by cases e⟩;cases e;refine ⟨zlr hl T.ok (T.lv.nodup_iff.mpr H.n),T.lv,λr=>?_⟩;rw[zhS,zhS,T.yes na,T.yes na,zjP,or_and_right]
 ·intro na;refine ⟨λt' e=>(by cases e),λ_ r hr hc=>?_⟩;rcases zhS.mp hr with h|h
  ·exact T.no na r h hc
  ·exact T.no na _ h (zjP.mpr hc)
theorem zrw{r:Bool}{A B q:List Tr}{b:Tr}(h:q∈arr r (A++b::B)):∃ q1 q2,q=q1++b::q2/\(q1++q2).Perm (A++B)/\∀ x,q1++x::q2∈arr r (A++x::B):=by
 cases r with
 |false =>
  have hp:=zaC h;obtain ⟨q1,q2,rfl⟩:=List.append_of_mem (hp.mem_iff.mpr (by simp:b∈A++b::B));have:(q1++q2).Perm (A++B):=(List.perm_cons b).mp (List.perm_middle.symm.trans (hp.trans List.perm_middle));exact ⟨q1,q2,rfl,this,λx=>(zcB _ _ _ rfl).mpr (List.perm_middle.trans ((this.cons x).trans List.perm_middle.symm))⟩
 |true =>
  have:q=A++b::B\/q=(A++b::B).reverse:=by simpa [arr] using h
  rcases this with rfl|rfl
  ·exact ⟨A,B,rfl,.refl _,λx=>by simp[arr]⟩
  ·exact ⟨B.reverse,A.reverse,xws,by rw[<- List.reverse_append];exact List.reverse_perm _,λx=>by simp[arr]⟩
theorem zoC{r:Bool}{A B:List Tr}{b c:Tr}{x:List Int}(hN:∀ y∈A++B,sh p y=0)(hb:sh p b≠0)(hbc:∀ y,y∈zaq b/\Ct p y->y∈zaq c)(hx:x∈zaq (.nd r (A++b::B)))(hc:Ct p x):x∈zaq (.nd r (A++c::B)):=by obtain ⟨q,hq,hm⟩:=zaG.mp hx;obtain ⟨q1,q2,rfl,hp,hq'⟩:=zrw hq;obtain ⟨a,r2,rfl,m1,m2⟩:=zas.mp hm;obtain ⟨s,w,rfl,m3,m4⟩:=zbd.mp m2;have hN':∀ y∈q1++q2,sh p y=0:=λy hy=>hN y (hp.mem_iff.mp hy);have cs:=(zoH (zc3 m1 (zaQ.mp hN').1) (λe=>hb ((zg8 m3).mp e)) (zc3 m4 (zaQ.mp hN').2)).mp hc;exact zaG.mpr ⟨_,hq' c,zas.mpr ⟨a,_,rfl,m1,zbd.mpr ⟨s,w,rfl,hbc s ⟨m3,cs⟩,m4⟩⟩⟩
theorem zu1{r:Bool}{A B:List Tr}{b:Tr}{x:List Int}(hN:∀ y∈A++B,sh p y=0)(hb:sh p b≠0)(hx:x∈zaq (.nd r (A++b::B))):∃ s,s∈zaq b/\(Ct p x ↔ Ct p s):=by obtain ⟨q,hq,hm⟩:=zaG.mp hx;obtain ⟨q1,q2,rfl,hp,_⟩:=zrw hq;obtain ⟨a,r2,rfl,m1,m2⟩:=zas.mp hm;obtain ⟨s,w,rfl,m3,m4⟩:=zbd.mp m2;have hN':∀ y∈q1++q2,sh p y=0:=λy hy=>hN y (hp.mem_iff.mp hy);exact ⟨s,m3,zoH (zc3 m1 (zaQ.mp hN').1) (λe=>hb ((zg8 m3).mp e)) (zc3 m4 (zaQ.mp hN').2)⟩
theorem zqb{r:Bool}{A B:List Tr}{b:Tr}{o:Option Tr}(H:zbQ (.nd r (A++b::B)))(hN:∀ y∈A++B,sh p y=0)(hb:sh p b≠0)(T:zf4 p b o):zf4 p (.nd r (A++b::B)) (o.map λc=>.nd r (A++c::B)):=by
 obtain ⟨_,hk,hn⟩:=H.kids;cases o with
 |none =>
  refine ⟨λt' e=>(by cases e),λ_ x hx hc=>?_⟩;obtain ⟨s,hs,e⟩:=zu1 hN hb hx;exact T.no rfl s hs (e.mp hc)
 |some c =>
  obtain ⟨h1,h2,h3⟩:=T.yes c rfl;have hc:sh p c≠0:=λz=>hb (zpi.mpr λg hg=>zpi.mp z g (h2.mem_iff.mpr hg));have lv:(zae (A++c::B)).Perm (zae (A++b::B)):=by rw[zbq,zbq];exact .append_left _ (List.Perm.append_right _ h2)
  refine ⟨λt' e=>?_,λe=>(by cases e)⟩;cases e;refine ⟨zlr (by simpa using hn) (λx hx=>?_) (lv.nodup_iff.mpr H.n),lv,λx=>⟨λhx=>?_,λhx=>?_⟩⟩
  ·rcases wax.mp hx with q|q
   ·exact hk x (by simp[q])
   ·rcases wap.mp q with rfl|q
    ·exact h1
    ·exact hk x (by simp[q])
  ·obtain ⟨s,hs,e⟩:=zu1 hN hc hx;have:=e.mpr ((h3 s).mp hs).2;exact ⟨zoC hN hc (λy hy=>((h3 y).mp hy.1).1) hx this,this⟩
  ·exact zoC hN hb (λy hy=>(h3 y).mpr hy) hx.1 hx.2
variable{p:List Int}
noncomputable def zhW(f:Tr->Option Tr)(p:List Int)(bs:List Tr):List (Option Tr):=bs.map λb=>if sh p b=0 then some b else f b
noncomputable def znd:List (Option Tr)->Option (List Tr)
 |[]=>some []
 |none::_=>none
 |some a::l=>(znd l).map (a::·)
open Classical in
noncomputable def zxV(f:Tr->Option Tr)(p:List Int)(r:Bool)(bs:List Tr):Option Tr :=
 if (ws p 0 bs).length+1=bs.length then (znd (zhW f p bs)).map (.nd r)
 else if r=true then (if NAN p (zbn (zc5 7 p) p [] bs) then some (.nd true (zbn (zc5 7 p) p [] bs)) else none)
 else if NAN p (zbn (zc5 7 p) p [] (zfk p bs)) then some ((bun (ws p 0 bs++[zki (zbn (zc5 7 p) p [] (zfk p bs))])).headD (.lf 0)) else none
noncomputable def nodT(f:Tr->Option Tr)(p:List Int):Tr->Option Tr
 |.lf g=>some (.lf g)
 |.nd r bs=>zxV f p r bs
noncomputable def zcy:Nat->List Int->Tr->Option Tr
 |0,_,t=>some t
 |n+1,p,t=>if sh p t=2 then some t else nodT (zcy n p) p t
theorem ziN:∀{A:List Tr}{l:List (Option Tr)},znd (A.map some++l)=(znd l).map (A++·)
 |[],l=>by show znd l=_;cases znd l <;> rfl
 |a::A,l=>by show (znd (A.map some++l)).map _=_;rw[ziN];cases znd l <;> rfl
theorem zmx{f:Tr->Option Tr}{A:List Tr}(h:∀ x∈A,sh p x=0):zhW f p A=A.map some:=List.map_congr_left λx hx=>if_pos (h x hx)
theorem zw8{f:Tr->Option Tr}{A B:List Tr}{b:Tr}(hA:∀ x∈A,sh p x=0)(hB:∀ x∈B,sh p x=0)(hb:sh p b≠0):znd (zhW f p (A++b::B))=(f b).map λc=>A++c::B:=by
 have:zhW f p (A++b::B)=A.map some++f b::(B.map some++[]):=by rw[zhW,List.map_append,List.map_cons,if_neg hb,List.append_nil];have e1:=zmx (f:=f) hA;have e2:=zmx (f:=f) hB;rw[zhW] at e1 e2;rw[e1,e2]
 rw[this,ziN];cases f b with
 |none=>rfl
 |some c =>
  show ((znd (B.map some++[])).map _).map _=_;rw[ziN];simp[znd]
theorem zlg{f:Tr->List Tr}:∀{os acc:List Tr},(∀ x∈os,f x≠[])->acc.length+os.length<=(zbn f p acc os).length
 |[],acc,_=>by simp[zbn]
 |b::os,acc,h=>by
  rw[zbn];have:=zlg (f:=f) (os:=os) (acc:=acc++(if (acc.any λx=>sh p x == 2)=true then (f b).reverse else f b)) λx hx=>h x (wah _ hx);refine waN ?_ this;have h1:1<=(if (acc.any λx=>sh p x == 2)=true then (f b).reverse else f b).length:=by
   have:=List.length_pos_iff.mpr (h b wau);split
   ·rw[List.length_reverse];exact this
   ·exact this
  rw[List.length_append,List.length_cons];omega
theorem zcu.ne{t:Tr}{pc:List Tr}(L:zcu p t pc)(H:zbQ t):pc≠[]:=λz=>by have:=L.lv;rw[z] at this;exact zbX H this.symm.eq_nil
theorem zcu.two{t:Tr}{pc:List Tr}(L:zcu p t pc)(H:zbQ t)(hs:sh p t=1):2<=pc.length:=by
 match pc,L with
 |[],L=>exact absurd rfl (L.ne H)
 |[x],L =>
  exfalso;rcases L.pure x xws with e|e
  ·exact L.has (by rw[hs];decide) λy hy=>by rw[List.mem_singleton.mp hy];exact e
  ·have:=L.all H λy hy=>by rw[List.mem_singleton.mp hy];exact e
   rw[hs] at this;cases this
 |_::_::_,_=>simp
theorem znz{bs:List Tr}(h2:∀ x∈bs,zbQ x)(h3:(zae bs).Nodup){x:Tr}(hx:x∈zfk p bs):zbQ x/\(sh p x≠1\/x∈bs):=by
 have W:∀{k:Nat},x∈ws p k bs->zbQ x/\(sh p x≠1\/x∈bs):=λh=>⟨h2 x (zcX.mp h).1,.inr (zcX.mp h).1⟩
 rcases wax.mp hx with hx|hx
 ·exact W (List.mem_of_mem_take hx)
 ·rcases wax.mp hx with hx|hx
  ·refine ⟨zrG (zil h2) (zwU h3) x hx,.inl ?_⟩;rw[zou (zil h2) (.inr rfl) (λy hy=>(zcX.mp hy).2) x hx]
   decide
  ·exact W (List.mem_of_mem_drop hx)
theorem zmL{bs:List Tr}{n:Nat}(H:zbQ (.nd false bs))(hd:∀ b∈bs,dep b<=n)(h2:(ws p 0 bs).length+2<=bs.length) :
  zhk p (zfk p bs) (zbn (zc5 n p) p [] (zfk p bs))/\((zbn (zc5 n p) p [] (zfk p bs)).length=1\/3<=(zbn (zc5 n p) p [] (zfk p bs)).length):=by
 obtain ⟨_,hk,_⟩:=H.kids;have L:LOK p (zc5 n p) (zfk p bs):=⟨λx hx=>by
  obtain ⟨h1,h2⟩:=znz hk H.n hx;exact zi0 n x (λz=>by
   rcases h2 with q|q
   ·exact absurd z q
   ·exact hd x q) h1,λx _ q=>zdJ q,λx hx=>(znz hk H.n hx).1⟩
 have hp:=(zdg (p:=p) bs).length_eq;rw[List.length_append,List.length_append] at hp;have b2:=zou (p:=p) (l:=ws p 2 bs) (zil hk) (.inr rfl) (λy hy=>(zcX.mp hy).2);have bl:(ws p 2 bs).length≠0->(bun (ws p 2 bs)).length=1:=λh=>by
  unfold bun;split
  ·omega
  ·rfl
 have an:zfk p bs=(ws p 1 bs).take 1++(bun (ws p 2 bs)++(ws p 1 bs).drop 1):=rfl;cases hT:ws p 1 bs with
 |nil =>
  rw[hT,List.length_nil] at hp;obtain ⟨x,hx⟩:=List.length_eq_one_iff.mp (bl xwo);rw[hT,hx] at an;have an:zfk p bs=[x]:=an;rw[hx] at b2;have s:=b2 x xws;have T:=zv3 (L.ok x (by rw[an];simp)) s (zdJ (n:=n) (by rw[s];decide));rw[an];refine ⟨T,.inl ?_⟩;simp[zbn,zdJ (n:=n) (p:=p) (t:=x) (by rw[s];decide)]
 |cons x T =>
  have hn:∀ y∈zfk p bs,sh p y≠0:=λy hy=>by
   have W:y∈ws p 1 bs->sh p y≠0:=λh=>by rw[(zcX.mp h).2];decide
   rcases wax.mp hy with hy|hy
   ·exact W (List.mem_of_mem_take hy)
   ·rcases wax.mp hy with hy|hy
    ·rw[b2 y hy];decide
    ·exact W (List.mem_of_mem_drop hy)
  have sx:sh p x=1:=(zcX.mp (by rw[hT];simp:x∈ws p 1 bs)).2;rw[hT] at an;have an:zfk p bs=x::(bun (ws p 2 bs)++T):=an;rw[hT,List.length_cons] at hp;have hlen:1<=(bun (ws p 2 bs)++T).length:=by
   rw[List.length_append];by_cases z:(ws p 2 bs).length=0
   ·omega
   ·rw[bl z];omega
  refine ⟨zkT L ?_,.inr ?_⟩
  ·rw[zii hn,an,List.length_nil,List.length_cons];omega
  ·have Lx:=L.lean x (by rw[an];simp);have t2:=Lx.two (L.ok x (by rw[an];simp)) sx;rw[an,zbn];have:=zlg (f:=zc5 n p) (p:=p) (os:=bun (ws p 2 bs)++T) (acc:=[]++zc5 n p x) λy hy=>by
    have:y∈zfk p bs:=by rw[an];exact wah _ hy
    exact (L.lean y this).ne (L.ok y this)
   refine waN ?_ this;rw[List.nil_append];omega
theorem zg5:∀(n:Nat)(t:Tr),n<=8->dep t<=n->zbQ t->sh p t≠0->zf4 p t (zcy n p t)
 |0,t,_,h,_,_=>by cases t <;> simp[dep] at h
 |n+1,t,hn8,h,H,h0=>by
  rw[zcy];by_cases hs:sh p t=2
  ·rw[if_pos hs];refine ⟨λt' e=>?_,λe=>(by cases e)⟩;cases e;exact ⟨H,.refl _,λr=>⟨λhr=>⟨hr,zxt ((zos (zbX H) hr).mpr hs)⟩,λhr=>hr.1⟩⟩
  ·rw[if_neg hs];have h1:sh p t=1:=by
    rcases zlv (p:=p) t with e|e|e
    ·exact absurd e h0
    ·exact e
    ·exact absurd e hs
   cases t with
   |lf g=>exact absurd h1 ztg
   |nd r bs =>
    show zf4 p _ (zxV (zcy n p) p r bs);simp only[dep] at h;have hd:=zaS.mp (by omega:zdt bs<=n);have hd8:∀ b∈bs,dep b<=7:=λb hb=>waN (hd b hb) xwo;obtain ⟨_,hk,hlen⟩:=H.kids;have hnn:¬ ∀ x∈bs,sh p x=0:=zhR (t:=.nd r bs) (.refl _) h0;obtain ⟨A,b,B,e,hA,hb⟩:=zcV hnn;unfold zxV;by_cases hw:(ws p 0 bs).length+1=bs.length
    ·rw[if_pos hw];have hB:∀ x∈B,sh p x=0:=by
      rw[e,zkp,zgf,if_neg hb,zgK hA] at hw;simp only[wav,wan,List.nil_append] at hw;have:(ws p 0 B).length=B.length:=by omega
      intro x hx;have e2:ws p 0 B=B:=List.filter_sublist.eq_of_length this;rw[<- e2] at hx;exact (zcX.mp hx).2
     subst e;rw[zw8 hA hB hb,Option.map_map];exact zqb H (zaQ.mpr ⟨hA,hB⟩) hb (zg5 n b xwo (hd b xws) (hk b xws) hb)
    ·rw[if_neg hw];have h2:(ws p 0 bs).length+2<=bs.length:=by
      have hle:(ws p 0 bs).length<=bs.length:=List.length_filter_le _ _;have:(ws p 0 bs).length≠bs.length:=λz=>hnn λx hx=>by have e2:ws p 0 bs=bs:=List.filter_sublist.eq_of_length z;rw[<- e2] at hx;exact (zcX.mp hx).2
      omega
     cases r with
     |true =>
      rw[if_pos rfl];have L:LOK p (zc5 7 p) bs:=⟨λx hx=>zi0 7 x (λ_=>hd8 x hx) (hk x hx),λx _ q=>zdJ q,hk⟩
      have R:=zrh H (zkT L h2) (waN hlen (by have:=zlg (f:=zc5 7 p) (p:=p) (os:=bs) (acc:=[]) λy hy=>(L.lean y hy).ne (hk y hy);simpa using this))
      split
      ·rename_i q;exact R.1 q
      ·rename_i q;exact R.2 q
     |false =>
      rw[if_neg xwd];obtain ⟨T,hl⟩:=zmL (n:=7) H hd8 h2;have R:=zqS H h2 T hl;split
      ·rename_i q;exact R.1 q
      ·rename_i q;exact R.2 q
theorem zpb{r:Bool}{bs:List Tr}{Z:Ev}(h:zab 0 Z=.ok (toD (.nd r bs),Z)):dIt (dOp gIx (zab 0) (dC (.int 1))) Z=.ok (bs.map toD,Z):=by unfold dIt;rw[zdS h,zaY];rfl
theorem zqq{t:Tr}{Z:Ev}{f:DS}(h:zab 0 Z=.ok (toD t,Z)):dIf (dTB (zai zcc (dR (zab 0) dR0))) f dNx Z=if zzj t=true then f Z else .ok (.nx,Z):=by
 have e:=za4 (zdf h (zmN t));cases hl:zzj t with
 |true=>rw[hl] at e;rw[zdG e];rfl
 |false=>rw[hl] at e;rw[zbF e];rfl
theorem zmE{F:FD}{r:Bool}{bs:List Tr}(IH:∀ b∈bs,F [.val (toD b)]=.ok (.lst ((zad b).map .int),[.val .non]))(hl:(zae bs).length<=1000):zav false [false] 2 (zff F) [.val (toD (.nd r bs))]=.ok (.lst ((zae bs).map .int),[.val .non]):=by
 let T:Option B:=some (.val (toD (.nd r bs)));let Z0:Ev:=[T,none,none]
 let Z1:Ev:=[T,some (.own []),none]
 obtain ⟨Z',⟨o',rfl⟩,e⟩:=zct (u:=toD) (l:=bs) (g:=zbr 2) (body:=dEx (zg7 1 (zai F (dR (zab 2) dR0)))) (Z:=Z1) (I:=λdn Z=>∃ o',Z=[T,some (.own ((zae dn).map .int)),o']) (zpb (Z:=Z1) (r:=r) rfl) rfl ⟨none,rfl⟩
  (λdn b zby e Z ⟨o',hρ⟩=>by
   subst hρ;have hb:b∈bs:=by rw[e];simp
   let r1:Ev:=[T,some (.own ((zae dn).map .int)),some (.val (toD b))]
   have hlen:(zae dn).length+(zad b).length<=1000:=by rw[e,zaO,List.flatMap_append,List.length_append,List.flatMap_cons,List.length_append] at hl;rw[zaO];lia
   refine ⟨r1,_,rfl,zeY (zpw (Z1:=r1) (l:=(zad b).map .int) rfl (zdf (Z':=r1) (d:=toD b) rfl (IH b hb)) rfl rfl (by simp only[wag];lia)),some (.val (toD b)),?_⟩;show [T,some (B.own ((zae dn).map Dt.int++(zad b).map Dt.int)),_]=_;rw[<- List.map_append];have:zae (dn++[b])=zae dn++zad b:=by rw[zaO,List.flatMap_append,zaO];simp
   rw[this])
 refine zak (Z':=[T,some (.val (.lst ((zae bs).map .int))),o']) rfl ?_ rfl;show zax (dIf (dTB (zai zcc (dR (zab 0) dR0))) (zbb (dFz (zc7 (dA (zab 0) dA0)))) dNx) (zax (zcY 1 (zc7 dA0)) (zax (zh1 (dIt (dOp gIx (zab 0) (dC (.int 1)))) (zbr 2) (dEx (zg7 1 (zai F (dR (zab 2) dR0))))) (zbb (zhc 1)))) Z0=_;rw[zag (zqq (t:=.nd r bs) (Z:=Z0) rfl),zag (Z1:=Z1) rfl,zag e];rfl
theorem zh3:∀(n:Nat)(t:Tr),dep t<=n->(zad t).length<=1000->zb9 n [.val (toD t)]=.ok (.lst ((zad t).map .int),[.val .non])
 |0,t,h,_=>by cases t <;> simp[dep] at h
 |n+1,.lf g,_,_=>by rw[toD,zad];exact zak (d:=.lst [.int g]) (Z':=[some (.val (.int g)),none,none]) rfl rfl rfl
 |n+1,.nd r bs,h,hl=>by simp only[dep] at h;rw[zad] at hl ⊢;exact zmE (F:=zb9 n) (λb hb=>zh3 n b (zaS.mp (by lia:zdt bs<=n) b hb) (by have:=zdh hb;lia)) hl
end Lw
end
section
namespace LQ
open PySem PySem.Spec L2 PV Lw
noncomputable def mn(t:Tr):Int:=(zaK (zad t)).headD 0
noncomputable def zpL(r:Bool)(l:List Tr):List Tr:=if r then (if mn (l.headD (.lf 0)) > mn (l.getLastD (.lf 0)) then l.reverse else l) else byK (l.map mn) l
mutual
noncomputable def zaj:Tr->Tr
 |.lf i=>.lf i
 |.nd r l=>.nd r (zpL r (zlE l))
noncomputable def zlE:List Tr->List Tr
 |[]=>[]
 |t::r=>zaj t::zlE r
end
theorem zcA:∀ l:List Tr,zlE l=l.map zaj
 |[]=>by simp[zlE]
 |t::r=>by simp[zlE,zcA r]
theorem zbL:∀(n:Nat)(t:Tr),dep t<=n->okT t=true->zad t≠[]
 |n,.lf i,_,_=>by simp[zad]
 |0,.nd r l,h,_=>by simp[dep] at h
 |n+1,.nd r l,h,ho=>by
  simp only[dep,okT,wae,war] at h ho;cases l with
  |nil=>have:=ho.1;cases r <;> simp at this
  |cons t q =>
   simp only[ziC,wae] at ho;have:=zbL n t (by simp only[zdt] at h;lia) ho.2.1;simp only[zad,zae];intro z;exact this (List.append_eq_nil_iff.mp z).1
theorem zkF{a b:List Int}(h:a.Perm b):zaK a=zaK b:=W.lks_uniq ((zaw a).trans (h.trans (zaw b).symm)) (zbO a) (zbO b)
theorem zo7{l:List Int}(h:l≠[]):(zaK l).headD 0∈l:=by
 have hp:=zaw l;cases e:zaK l with
 |nil=>rw[e] at hp;exact absurd hp.symm.eq_nil h
 |cons a r=>rw[e] at hp;exact hp.mem_iff.mp xws
theorem zvs{l:List Int}{x:Int}(h:x∈l):(zaK l).headD 0<=x:=by
 have hp:=zaw l;have ha:=zbO l;cases e:zaK l with
 |nil=>rw[e] at hp;rw[hp.symm.eq_nil] at h;cases h
 |cons a r =>
  rw[e] at hp ha;rcases wap.mp (hp.mem_iff.mpr h) with rfl|z
  ·simp
  ·simpa using (List.pairwise_cons.mp ha).1 x z
theorem zyz{t:Tr}(h:zad t≠[]):mn t∈zad t:=zo7 h
inductive Tw:Tr->Tr->Prop
 |lf (i:Int):Tw (.lf i) (.lf i)
 |any {l l1 l2:List Tr}:Paired Tw l l1->l1.Perm l2->Tw (.nd false l) (.nd false l2)
 |row {l l1 l2:List Tr}:Paired Tw l l1->(l2=l1\/l2=l1.reverse)->Tw (.nd true l) (.nd true l2)
theorem zic{l1 l2:List Tr}(h:l2=l1\/l2=l1.reverse):l1.Perm l2:=by
 rcases h with rfl|rfl
 ·exact .refl _
 ·exact (List.reverse_perm _).symm
theorem zrP{l1 l2:List Tr}(h:l1.Perm l2):ziC l2=ziC l1/\(zae l2).Perm (zae l1)/\(∀ n,zdt l1<=n->zdt l2<=n)/\l2.length=l1.length:=by
 refine ⟨?_,?_,λn hn=>?_,h.length_eq.symm⟩
 ·rw[zcM,zcM,Bool.eq_iff_iff,List.all_eq_true,List.all_eq_true];exact ⟨λk t ht=>k t (h.mem_iff.mp ht),λk t ht=>k t (h.mem_iff.mpr ht)⟩
 ·rw[zaO,zaO];exact (h.flatMap_right zad).symm
 ·rw[zaS] at hn ⊢;exact λt ht=>hn t (h.mem_iff.mpr ht)
theorem zdH{n:Nat}(ih:∀ t t',dep t<=n->Tw t t'->okT t'=okT t/\(zad t').Perm (zad t)/\dep t'<=dep t):∀{l l1:List Tr},Paired Tw l l1->zdt l<=n->ziC l1=ziC l/\(zae l1).Perm (zae l)/\zdt l1<=zdt l/\l1.length=l.length
 |_,_,.nil,_=>by simp[zae,zdt]
 |t::l,t'::l1,.cons h r,hd=>by simp only[zdt] at hd;obtain ⟨a1,a2,a3⟩:=ih t t' xwl h;obtain ⟨b1,b2,b3,b4⟩:=zdH ih r xwl;simp only[ziC,zae,zdt,wan];exact ⟨by rw[a1,b1],a2.append b2,xwl,xwl⟩
theorem zif(n:Nat):∀(t t':Tr),dep t<=n->Tw t t'->okT t'=okT t/\(zad t').Perm (zad t)/\dep t'<=dep t:=by
 induction n with
 |zero =>
  intro t t' hd h;cases t <;> simp[dep] at hd
 |succ n ih =>
  intro t t' hd h;cases h with
  |lf i=>exact ⟨rfl,.refl _,wal _⟩
  |any hp hq =>
   simp only[dep] at hd;obtain ⟨b1,b2,b3,b4⟩:=zdH ih hp xwl;obtain ⟨c1,c2,c3,c4⟩:=zrP hq;simp only[okT,zad,dep];refine ⟨by rw[c1,b1,c4,b4],c2.trans b2,?_⟩;have:=c3 _ b3;lia
  |row hp hq =>
   simp only[dep] at hd;obtain ⟨b1,b2,b3,b4⟩:=zdH ih hp xwl;obtain ⟨c1,c2,c3,c4⟩:=zrP (zic hq);simp only[okT,zad,dep];refine ⟨by rw[c1,b1,c4,b4],c2.trans b2,?_⟩;have:=c3 _ b3;lia
theorem zt5{α:Type}{ks:List Int}{l:List α}(h:ks.length=l.length):(byK ks l).Perm l:=by have:=(zbU (ks.zip l)).map Prod.snd;rw[List.map_snd_zip xwl] at this;exact this
theorem zcs{α β:Type}{F:α->β->Prop}(f:α->β):∀{l:List α},(∀ a∈l,F a (f a))->Paired F l (l.map f)
 |[],_=>.nil
 |a::l,h=>.cons (h a xws) (zcs f λb hb=>h b (by simp[hb]))
theorem zeD:∀(n:Nat)(t:Tr),dep t<=n->Tw t (zaj t)
 |n,.lf i,_=>by simp only[zaj];exact .lf i
 |0,.nd r l,h=>by simp[dep] at h
 |n+1,.nd r l,h=>by
  simp only[dep] at h;have hp:Paired Tw l (l.map zaj):=zcs zaj λt ht=>zeD n t (zaS.mp (by lia:zdt l<=n) t ht);simp only[zaj];rw[zcA];cases r with
  |false =>
   refine .any hp ?_;show (l.map zaj).Perm (byK _ _);exact (zt5 xws).symm
  |true =>
   refine .row hp ?_;unfold zpL;simp only[if_true];split
   ·exact .inr rfl
   ·exact .inl rfl
theorem zkt{f:Tr->Int}:∀{l:List Tr},(∀ t∈l,f t∈zad t)->(zae l).Nodup->(l.map f).Nodup
 |[],_,_=>by simp
 |t::r,hm,hn=>by
  simp only[zae] at hn;rw[List.nodup_append] at hn;rw[List.map_cons,List.nodup_cons];refine ⟨λz=>?_,zkt (λu hu=>hm u (by simp[hu])) hn.2.1⟩;obtain ⟨u,hu,e⟩:=List.mem_map.mp z;have h1:=hm t xws;have h2:f t∈zae r:=by rw[zaO,List.mem_flatMap];exact ⟨u,hu,by rw[<- e];exact hm u (by simp[hu])⟩
  exact hn.2.2 _ h1 _ h2 rfl
theorem zyy{l1 l2:List Tr}{f:Tr->Int}(h:l1.Perm l2)(hn:(l1.map f).Nodup):byK (l2.map f) l2=byK (l1.map f) l1:=by
 unfold byK;have hz:∀ l:List Tr,(l.map f).zip l=l.map λt=>(f t,t):=λl=>by
  induction l with
  |nil=>rfl
  |cons a r ih=>simp[ih]
 rw[hz,hz];have hp:(zhl (l2.map λt=>(f t,t))).Perm (zhl (l1.map λt=>(f t,t))):=(zbU _).trans ((h.symm.map _).trans (zbU _).symm);rw[zvP hp ?_ (zfz _) (zfz _)];have q:=((zbU (l2.map λt=>(f t,t))).map Prod.fst).trans ((h.symm.map (λt=>(f t,t))).map Prod.fst);rw[q.nodup_iff];rw[List.map_map];exact hn
theorem ziq{n:Nat}(ih:∀ t t',dep t<=n->Tw t t'->okT t=true->(zad t).Nodup->zaj t'=zaj t):∀{l l1:List Tr},Paired Tw l l1->zdt l<=n->ziC l=true->(zae l).Nodup->l1.map zaj=l.map zaj
 |_,_,.nil,_,_,_=>rfl
 |t::l,t'::l1,.cons h r,hd,ho,hn=>by simp only[zdt] at hd;simp only[ziC,wae] at ho;simp only[zae] at hn;rw[List.nodup_append] at hn;rw[List.map_cons,List.map_cons,ih t t' xwl h ho.1 hn.1,ziq ih r xwl ho.2 hn.2.1]
theorem zle{n:Nat}{l:List Tr}(hd:zdt l<=n)(ho:ziC l=true):∀ t∈l.map zaj,mn t∈zad t:=λu hu=>by obtain ⟨t,ht,rfl⟩:=List.mem_map.mp hu;have h1:=zaS.mp hd t ht;rw[zcM,List.all_eq_true] at ho;have h2:=zif n t (zaj t) h1 (zeD n t h1);exact zyz (zbL n _ (waN h2.2.2 h1) (by rw[h2.1];exact ho t ht))
theorem zdD{n:Nat}{l:List Tr}(hd:zdt l<=n)(ho:ziC l=true)(hn:(zae l).Nodup):((l.map zaj).map mn).Nodup:=by refine zkt (zle hd ho) ?_;have:=(zdH (zif n) (zcs zaj λt ht=>zeD n t (zaS.mp hd t ht)) hd).2.1;exact this.nodup_iff.mpr hn
theorem zrO{l:List Tr}(hl:2<=l.length)(hn:(l.map mn).Nodup):mn (l.headD (.lf 0))≠mn (l.getLastD (.lf 0)):=by
 cases l with
 |nil=>simp at hl
 |cons a r =>
  cases r with
  |nil=>simp at hl
  |cons b q =>
   rw[List.map_cons,List.nodup_cons] at hn;intro z;refine hn.1 ?_;have e:(a::b::q).getLastD (.lf 0)=(b::q).getLast xws:=by simp[List.getLastD]
   rw[e] at z;have z':mn a=mn ((b::q).getLast xws):=z;rw[z'];exact List.mem_map.mpr ⟨_,List.getLast_mem _,rfl⟩
theorem zt8{l:List Tr}(hl:2<=l.length)(hn:(l.map mn).Nodup):zpL true l.reverse=zpL true l:=by
 have ne:=zrO hl hn;have h1:l.reverse.headD (.lf 0)=l.getLastD (.lf 0):=by simp[List.headD_eq_head?_getD,List.getLastD_eq_getLast?]
 have h2:l.reverse.getLastD (.lf 0)=l.headD (.lf 0):=by
  cases l with
  |nil=>rfl
  |cons a q=>simp
 unfold zpL;simp only[if_true,h1,h2];by_cases h:mn (l.headD (.lf 0)) > mn (l.getLastD (.lf 0))
 ·rw[if_pos h,if_neg xwl]
 ·rw[if_neg h,if_pos xwl,List.reverse_reverse]
theorem zlX(n:Nat):∀(t t':Tr),dep t<=n->Tw t t'->okT t=true->(zad t).Nodup->zaj t'=zaj t:=by
 induction n with
 |zero =>
  intro t t' hd h;cases t <;> simp[dep] at hd
 |succ n ih =>
  intro t t' hd h ho hn;cases h with
  |lf i=>rfl
  |@any l l1 l2 hp hq =>
   simp only[dep] at hd;simp only[okT,wae] at ho;simp only[zad] at hn;have hd':zdt l<=n:=by lia
   have e:=ziq ih hp hd' ho.2 hn;simp only[zaj,zcA];congr 1;show byK ((l2.map zaj).map mn) (l2.map zaj)=byK ((l.map zaj).map mn) (l.map zaj);have hpm:(l.map zaj).Perm (l2.map zaj):=by rw[<- e];exact hq.map _
   exact zyy hpm (zdD hd' ho.2 hn)
  |@row l l1 l2 hp hq =>
   simp only[dep] at hd;simp only[okT,wae,war,if_true] at ho;simp only[zad] at hn;have hd':zdt l<=n:=by lia
   have e:=ziq ih hp hd' ho.2 hn;simp only[zaj,zcA];congr 1;rcases hq with rfl|rfl
   ·rw[e]
   ·rw[List.map_reverse,e];exact zt8 (by simp;lia) (zdD hd' ho.2 hn)
theorem zji:∀{l:List Tr}{t:Tr},t∈l->(zae l).Nodup->(zad t).Nodup
 |[],_,h,_=>by cases h
 |u::l,t,h,hn=>by
  simp only[zae] at hn;rw[List.nodup_append] at hn;rcases wap.mp h with rfl|h
  ·exact hn.1
  ·exact zji h hn.2.1
theorem zib{t:Tr}(h:dep t<=8)(hl:(zad t).length<64):zbf [.val (toD t)]=.ok (.lst ((zaK (zad t)).map .int),[.val .non]):=by
 let Z:Ev:=[some (.val (toD t))]
 refine zak (Z':=Z) rfl ?_ rfl;have a0:zab 0 Z=.ok (toD t,Z):=rfl;exact zba (zaL (zhs (zdf a0 (zh3 8 t h xwl)) (zha xwl)))
theorem zgl{t:Tr}(h:dep t<=8)(hl:(zad t).length<64)(hne:zad t≠[]):zaH [.val (toD t)]=.ok (.int (mn t),[.val .non]):=by
 refine zak (Z':=[some (.val (toD t))]) rfl ?_ rfl;show zeB [some (.val (toD t))]=_;have ec:=zdf (F:=zbf) (fa:=zab 0) (Z:=[some (.val (toD t))]) (Z':=[some (.val (toD t))]) rfl (zib h hl);unfold zeB zbb dOp;rw[ec];have hne':zaK (zad t)≠[]:=λz=>hne (by have:=zaw (zad t);rw[z] at this;exact this.symm.eq_nil);cases e:zaK (zad t) with
 |nil=>exact absurd e hne'
 |cons a q =>
  simp only[R.bind_ok,dC,List.map_cons];have:gIx (.lst (.int a::q.map .int)) (.int 0)=.ok (.int a):=by unfold gIx;simp only[zfI]
  rw[this];simp only[R.bind_ok];unfold mn;rw[e];rfl
theorem znx{L:List Tr}(h:L≠[]):gIx (.lst (L.map toD)) (.int 0)=.ok (toD (L.headD (.lf 0))):=by
 cases L with
 |nil=>exact absurd rfl h
 |cons a q =>
  unfold gIx;simp only[List.map_cons,zfI];rfl
theorem zid{α:Type}{l:List α}(h:l≠[]):atI l (-1)=l.getLast? := by
 unfold atI ixN;have hl:0<l.length:=List.length_pos_iff.mpr h;rw[if_neg xwd,if_pos xwl];have e:((-1:Int)+(l.length:Nat)).toNat=l.length-1:=by lia
 rw[e,Option.bind_some,List.getLast?_eq_getElem?]
theorem zwK{L:List Tr}(h:L≠[]):gIx (.lst (L.map toD)) (.int (-1))=.ok (toD (L.getLastD (.lf 0))):=by
 unfold gIx;have:atI (L.map toD) (-1)=some (toD (L.getLastD (.lf 0))):=by
  rw[zid (by simpa using h),List.getLast?_map,List.getLastD_eq_getLast?];cases e:L.getLast? with
  |none=>exact absurd (List.getLast?_eq_none_iff.mp e) h
  |some a=>rfl
 simp only[this]
theorem zo9{L:List Int}(h:L≠[]):gIx (.lst (L.map .int)) (.int 0)=.ok (.int (L.headD 0)):=by
 cases L with
 |nil=>exact absurd rfl h
 |cons a q =>
  unfold gIx;simp only[List.map_cons,zfI];rfl
theorem zkH{L:List Int}(h:L≠[]):gIx (.lst (L.map .int)) (.int (-1))=.ok (.int (L.getLastD 0)):=by
 unfold gIx;have:atI (L.map Dt.int) (-1)=some (.int (L.getLastD 0)):=by
  rw[zid (by simpa using h),List.getLast?_map,List.getLastD_eq_getLast?];cases e:L.getLast? with
  |none=>exact absurd (List.getLast?_eq_none_iff.mp e) h
  |some a=>rfl
 simp only[this]
theorem zmd:∀{l:List Int},l.Nodup->zjg l=true
 |[],_=>rfl
 |a::r,h=>by rw[List.nodup_cons] at h;unfold zjg;rw[zmd h.2,Bool.and_true];simpa using h.1
theorem zpq{α β:Type}(f:α->β)(p:Int×α):∀ l:List (Int×α),zpM (p.1,f p.2) (l.map λq=>(q.1,f q.2))=(zpM p l).map λq=>(q.1,f q.2)
 |[]=>rfl
 |q::r=>by
  simp only[List.map_cons,zpM];split
  ·rfl
  ·simp only[List.map_cons,zpq f p r]
theorem zms{α β:Type}(f:α->β):∀ l:List (Int×α),zhl (l.map λq=>(q.1,f q.2))=(zhl l).map λq=>(q.1,f q.2)
 |[]=>rfl
 |q::r=>by simp only[List.map_cons,zhl,zms f r];exact zpq f q _
theorem zqn{α β:Type}(f:α->β)(ks:List Int)(l:List α):byK ks (l.map f)=(byK ks l).map f:=by
 unfold byK;have:ks.zip (l.map f)=(ks.zip l).map λq=>(q.1,f q.2):=by rw[List.zip_map_right];rfl
 rw[this,zms,List.map_map,List.map_map];rfl
theorem zlL:∀{L:List Tr},(∀ t∈L,dep t<=8/\(zad t).length<64/\zad t≠[])->zfc zaH (L.map toD)=some (L.map mn)
 |[],_=>rfl
 |t::r,h=>by have ht:=h t xws;have ih:zfc zaH (r.map toD)=some (r.map mn):=zlL λu hu=>h u (wah _ hu);rw[List.map_cons,zfc,zgl ht.1 ht.2.1 ht.2.2];simp only[ih];rfl
theorem zxI{D:List Dt}{r:Bool}{x:Dt}{Z:Ev}{i:Nat}(h:Z[i]? = some (some (.val (.tup [.str (wd r),x])))):dTB (dOp (gEq false) (dOp gIx (zab i) (dC (.int 0))) (dC (.str (Str.ofString "any")))) Z=.ok (!r,Z):=by
 have e:dOp gIx (zab i) (dC (.int 0)) Z=.ok (.str (wd r),Z):=by unfold dOp zab;rw[h];rfl
 unfold dTB;rw[dOp,e];simp only[R.bind_ok,dC];rw[zbt (by rw[okN];exact zfK r) (by rw[okN];exact ziz),eqS,zuW];rfl
theorem zuH{r:Bool}{x:Dt}{Z:Ev}{i:Nat}(h:Z[i]? = some (some (.val (.tup [.str (wd r),x])))):dTB (dOp (gEq false) (dOp gIx (zab i) (dC (.int 0))) (dC (.str (Str.ofString "row")))) Z=.ok (r,Z):=by
 have e:dOp gIx (zab i) (dC (.int 0)) Z=.ok (.str (wd r),Z):=by unfold dOp zab;rw[h];rfl
 unfold dTB;rw[dOp,e];simp only[R.bind_ok,dC];rw[zbt (by rw[okN];exact zfK r) (by rw[okN];exact zi3),eqS,zuY];rfl
theorem zpf{n:Nat}{r:Bool}{l:List Tr}(hd:zdt l<=n)(ho:okT (.nd r l)=true)(hn:(zae l).Nodup)(hl:(zae l).length<64) :
  (∀ t∈l.map zaj,dep t<=n/\(zad t).length<64/\zad t≠[])/\((l.map zaj).map mn).Nodup/\l.map zaj≠[]/\2<=(l.map zaj).length/\(l.map zaj).length<64:=by
 simp only[okT,wae,war] at ho;have h2:2<=l.length:=by have:=ho.1;cases r <;> simp at this <;> lia
 refine ⟨λu hu=>?_,zdD hd ho.2 hn,?_,by simpa using h2,?_⟩
 ·obtain ⟨t,ht,rfl⟩:=List.mem_map.mp hu;have h1:=zaS.mp hd t ht;have ho':=ho.2;rw[zcM,List.all_eq_true] at ho';obtain ⟨q1,q2,q3⟩:=zif n t (zaj t) h1 (zeD n t h1);refine ⟨waN q3 h1,?_,zbL n _ (waN q3 h1) (by rw[q1];exact ho' t ht)⟩;have:=zdh ht;rw[q2.length_eq];lia
 ·intro z;rw[List.map_eq_nil_iff] at z;rw[z] at h2;simp at h2
 ·rw[List.length_map];have:l.length<=(zae l).length:=by
   have hok:=ho.2;have:∀(l:List Tr),zdt l<=n->ziC l=true->l.length<=(zae l).length:=by
    intro l
    induction l with
    |nil=>intros;simp
    |cons t q ih =>
     intro hd ho;simp only[zdt] at hd;simp only[ziC,wae] at ho;have h1:=List.length_pos_iff.mpr (zbL n t xwl ho.1);have h2:=ih xwl ho.2;simp only[zae,wav,wan];lia
   exact this l hd hok
  lia
theorem zl1:∀(n:Nat)(t:Tr),n<=8->dep t<=n->okT t=true->(zad t).Nodup->(zad t).length<64->zb8 n [.val (toD t)]=.ok (toD (zaj t),[.val .non])
 |0,t,_,h,_,_,_=>by cases t <;> simp[dep] at h
 |n+1,.lf i,h8,h,ho,hn,hl=>by refine zak (Z':=[some (.val (.int i)),none]) rfl ?_ rfl;rw[toD,zaj];rfl
 |n+1,.nd r l,h8,h,ho,hn,hl=>by
  simp only[dep] at h;simp only[zad] at hl hn;have hd:zdt l<=n:=by lia
  obtain ⟨B1,B2,B3,B4,B5⟩:=zpf hd ho hn hl;have ho2:∀ t∈l,okT t=true:=by simp only[okT,wae] at ho;have:=ho.2;rw[zcM,List.all_eq_true] at this;exact this
  have hn2:∀ t∈l,(zad t).Nodup:=λt ht=>zji ht hn;have hD:toD (.nd r l)=.tup [.str (wd r),.tup (zka l)]:=by rw[toD]
  have e0:dIf (dTB (zai zcc (dR (zab 0) dR0))) (zbb (zab 0)) dNx [some (.val (toD (.nd r l))),none]=.ok (.nx,[some (.val (toD (.nd r l))),none]):=by have ec:=zdf (F:=zcc) (fa:=zab 0) (Z:=[some (.val (toD (.nd r l))),none]) (Z':=[some (.val (toD (.nd r l))),none]) rfl (zmN (.nd r l));unfold dIf dTB;rw[ec];rfl
  have e1:zaX 1 (dFz (zbh (dIt (dOp gIx (zab 0) (dC (.int 1)))) (zbr 2) dTT (zai (zb8 n) (dR (zab 2) dR0)) 1)) [some (.val (toD (.nd r l))),none]=.ok (.nx,[some (.val (toD (.nd r l))),some (.val (.lst ((l.map zaj).map toD)))]):=by
   have:=zdz (Z0:=[some (.val (toD (.nd r l))),none]) (fi:=dIt (dOp gIx (zab 0) (dC (.int 1)))) (fe:=zai (zb8 n) (dR (zab 2) dR0)) (l:=l) (u:=toD) (f:=λt=>toD (zaj t)) (ds:=zka l) (j:=2) (by rw[hD];rfl) (zaY l) (by simp only[wag] at B5;lia)
    (λt ht=>zdf (Z':=[some (.val (toD (.nd r l))),none]++[some (.val (toD t))]) rfl (zl1 n t xwl (zaS.mp hd t ht) (ho2 t ht) (hn2 t ht) (by have:=zdh ht;lia))) rfl
   unfold zaX dFz;rw[this];simp only[R.bind_ok];rw[List.map_map];rfl
  have e2:dIf (dTB (dOp (gEq false) (dOp gIx (zab 0) (dC (.int 0))) (dC (.str (Str.ofString "any"))))) (zaX 1 (dFz (zmu zaH (zab 1)))) (dIf (dTB (dOp gGt (zai zaH (dR (dOp gIx (zab 1) (dC (.int 0))) dR0)) (zai zaH (dR (dOp gIx (zab 1) (znf (dC (.int 1)))) dR0)))) (zaX 1 (dFz (zgB (zab 1)))) dNx) [some (.val (toD (.nd r l))),some (.val (.lst ((l.map zaj).map toD)))]=.ok (.nx,[some (.val (toD (.nd r l))),some (.val (.lst ((zpL r (l.map zaj)).map toD)))]):=by
   unfold dIf;rw[zxI (D:=[]) (r:=r) (x:=.tup (zka l)) (by rw[hD];rfl)];simp only[R.bind_ok];cases r with
   |false =>
    simp only[Bool.not_false,if_true];unfold zaX dFz zmu;show ((((match zfc zaH ((l.map zaj).map toD) with|some ks=>if (decide (((l.map zaj).map toD).length<64) && zjg ks)=true then R.ok (byK ks ((l.map zaj).map toD),_) else .no|none=>.no):R (List Dt×Ev)).bind _).bind _)=_;rw[zlL λt ht=>by have:=B1 t ht;exact ⟨xwl,this.2⟩]
    simp only;rw[zmd B2,if_pos (by simp only[Bool.and_true,decide_eq_true_eq,List.length_map] at B5 ⊢;exact B5)];rw[zqn];rfl
   |true =>
    rw[if_neg xwd];have c1:=zdf (F:=zaH) (fa:=dOp gIx (zab 1) (dC (.int 0))) (Z:=[some (.val (toD (.nd true l))),some (.val (.lst ((l.map zaj).map toD)))]) (Z':=[some (.val (toD (.nd true l))),some (.val (.lst ((l.map zaj).map toD)))]) (d:=toD ((l.map zaj).headD (.lf 0))) (by
      show ((gIx (.lst ((l.map zaj).map toD)) (.int 0)).bind _)=_;rw[znx B3];rfl) (by
      have hm:(l.map zaj).headD (.lf 0)∈l.map zaj:=by
       cases e:l.map zaj with
       |nil=>exact absurd e B3
       |cons a q=>simp
      have:=B1 _ hm;exact zgl xwl this.2.1 this.2.2)
    have c2:=zdf (F:=zaH) (fa:=dOp gIx (zab 1) (znf (dC (.int 1)))) (Z:=[some (.val (toD (.nd true l))),some (.val (.lst ((l.map zaj).map toD)))]) (Z':=[some (.val (toD (.nd true l))),some (.val (.lst ((l.map zaj).map toD)))]) (d:=toD ((l.map zaj).getLastD (.lf 0))) (by
      show ((gIx (.lst ((l.map zaj).map toD)) (.int (-1))).bind _)=_;rw[zwK B3];rfl) (by
      have hm:(l.map zaj).getLastD (.lf 0)∈l.map zaj:=by
       rw[List.getLastD_eq_getLast?];cases e:(l.map zaj).getLast? with
       |none=>exact absurd (List.getLast?_eq_none_iff.mp e) B3
       |some a=>exact List.mem_of_getLast? e
      have:=B1 _ hm;exact zgl xwl this.2.1 this.2.2)
    have c3:dTB (dOp gGt (zai zaH (dR (dOp gIx (zab 1) (dC (.int 0))) dR0)) (zai zaH (dR (dOp gIx (zab 1) (znf (dC (.int 1)))) dR0))) [some (.val (toD (.nd true l))),some (.val (.lst ((l.map zaj).map toD)))]=.ok (decide (mn ((l.map zaj).getLastD (.lf 0))<mn ((l.map zaj).headD (.lf 0))),[some (.val (toD (.nd true l))),some (.val (.lst ((l.map zaj).map toD)))]):=by exact za4 (zao c1 c2 rfl)
    rw[c3];simp only[R.bind_ok];unfold zpL;rw[if_pos rfl];by_cases hgt:mn ((l.map zaj).getLastD (.lf 0))<mn ((l.map zaj).headD (.lf 0))
    ·rw[if_pos (decide_eq_true hgt),if_pos hgt];rw[List.map_reverse];rfl
    ·rw[if_neg (by simpa using hgt),if_neg hgt];rfl
  refine zak (Z':=[some (.val (toD (.nd r l))),some (.val (.lst ((zpL r (l.map zaj)).map toD)))]) rfl ?_ rfl;show zgr (zb8 n) [some (.val (toD (.nd r l))),none]=_;unfold zgr zax;rw[e0];simp only[R.bind_ok];rw[e1];simp only[R.bind_ok];rw[e2];simp only[R.bind_ok];rw[zaj,zcA,hD,toD];simp only[zaY];rfl
theorem zg3{F:Tr->Tr->Prop}{p bs:List Tr}(h:p.Perm bs):∀{q:List Tr},Paired F p q->∃ l,Paired F bs l/\q.Perm l:=by
 induction h with
 |nil=>intro q hq;cases hq;exact ⟨[],.nil,.refl _⟩
 |cons x _ ih =>
  intro q hq;cases hq with
  |cons h1 h2=>obtain ⟨l,a,b⟩:=ih h2;exact ⟨_::l,.cons h1 a,b.cons _⟩
 |swap x y l =>
  intro q hq;cases hq with
  |cons h1 h2=>cases h2 with
   |cons h3 h4=>exact ⟨_,.cons h3 (.cons h1 h4),.swap _ _ _⟩
 |trans _ _ ih1 ih2 =>
  intro q hq;obtain ⟨l,a,b⟩:=ih1 hq;obtain ⟨m,c,d⟩:=ih2 a;exact ⟨m,c,b.trans d⟩
theorem zbc{F:Tr->Tr->Prop}:∀{a b c d:List Tr},Paired F a b->Paired F c d->Paired F (a++c) (b++d)
 |_,_,_,_,.nil,h=>h
 |_,_,_,_,.cons x y,h=>.cons x (zbc y h)
theorem paired_rev{F:Tr->Tr->Prop}:∀{a b:List Tr},Paired F a b->Paired F a.reverse b.reverse
 |_,_,.nil=>.nil
 |_,_,.cons x y=>by rw[List.reverse_cons,List.reverse_cons];exact zbc (paired_rev y) (.cons x .nil)
theorem zmi{n:Nat}(IH:∀ a b,dep a<=n->Eqv a b->Tw a b):∀{p q:List Tr},(∀ t∈p,dep t<=n)->Paired Eqv p q->Paired Tw p q
 |_,_,_,.nil=>.nil
 |_,_,h,.cons x y=>.cons (IH _ _ (h _ wau) x) (zmi IH (λt ht=>h t (wah _ ht)) y)
theorem zxL:∀(n:Nat)(a b:Tr),dep a<=n->Eqv a b->Tw a b
 |n,.lf g,_,_,.lf _=>.lf g
 |0,.nd r bs,_,h,_=>by simp[dep] at h
 |n+1,.nd r bs,_,h,.nd (cs:=cs) (p:=p) (q:=q) hp hq hpq=>by
  have hb:∀ t∈bs,dep t<=n:=zaS.mp (by simpa [dep] using h);have hpp:=zaC hp;have hw:=zmi (n:=n) (zxL n) (λt ht=>hb t (hpp.mem_iff.mp ht)) hpq;cases r with
  |false =>
   obtain ⟨l,h1,h2⟩:=zg3 hpp hw;exact .any h1 (h2.symm.trans (zaC hq))
  |true =>
   unfold arr at hp hq;rw[if_pos rfl] at hp hq;simp only[wap,wak,or_false] at hp hq;rcases hp with rfl|rfl
   ·rcases hq with rfl|rfl
    ·exact .row hw (.inl rfl)
    ·exact .row hw (.inr (by rw[List.reverse_reverse]))
   ·have hw':=paired_rev hw;rw[List.reverse_reverse] at hw';rcases hq with rfl|rfl
    ·exact .row hw' (.inr (by rw[List.reverse_reverse]))
    ·exact .row hw' (.inl (by rw[List.reverse_reverse]))
theorem zi8{F G:Tr->Tr->Prop}(h:∀ a b,F a b->G b a):∀{p q:List Tr},Paired F p q->Paired G q p
 |_,_,.nil=>.nil
 |_,_,.cons x y=>.cons (h _ _ x) (zi8 h y)
theorem zmW{x:List Int}:∀{p q:List Tr}{ys:List (List Int)},Paired zdm p q->Paired (λy t=>y∈zaq t) ys p->Paired (λy t=>y∈zaq t) ys q
 |_,_,_,.nil,.nil=>.nil
 |_,_,_,.cons h t,.cons a b=>.cons ((h _).mp a) (zmW (x:=x) t b)
theorem half{r:Bool}{l l2:List Tr}{x:List Int}(h:∀ p∈arr r l,∃ q∈arr r l2,Paired zdm p q)(hx:x∈zaq (.nd r l)):x∈zaq (.nd r l2):=by obtain ⟨p,hp,ys,h1,h2⟩:=zaG.mp hx;obtain ⟨q,hq,hpq⟩:=h p hp;exact zaG.mpr ⟨q,hq,ys,zmW (x:=x) hpq h1,h2⟩
theorem znN{bs p:List Tr}:p∈arr false bs ↔ p.Perm bs:=by unfold arr;rw[if_neg xws];exact zcB _ _ _ rfl
theorem zhq{bs p:List Tr}:p∈arr true bs ↔ p=bs\/p=bs.reverse:=by unfold arr;rw[if_pos rfl];simp
theorem zgp{n:Nat}(IH:∀ a b,dep a<=n->Tw a b->zdm a b):∀{p q:List Tr},(∀ t∈p,dep t<=n)->Paired Tw p q->Paired zdm p q
 |_,_,_,.nil=>.nil
 |_,_,h,.cons x y=>.cons (IH _ _ (h _ wau) x) (zgp IH (λt ht=>h t (wah _ ht)) y)
theorem zgZ{r:Bool}{l l1 l2:List Tr}(hp:Paired zdm l l1)(h:if r then l2=l1\/l2=l1.reverse else l1.Perm l2):∀ p∈arr r l,∃ q∈arr r l2,Paired zdm p q:=λp hpa=>by
 cases r with
 |false =>
  obtain ⟨q,h1,h2⟩:=zg3 (znN.mp hpa).symm hp;exact ⟨q,znN.mpr (h2.symm.trans h),h1⟩
 |true =>
  rcases zhq.mp hpa with rfl|rfl
  ·refine ⟨l1,zhq.mpr ?_,hp⟩;rcases h with rfl|rfl
   ·exact .inl rfl
   ·exact .inr (by rw[List.reverse_reverse])
  ·refine ⟨l1.reverse,zhq.mpr ?_,paired_rev hp⟩;rcases h with rfl|rfl
   ·exact .inr rfl
   ·exact .inl rfl
theorem zrR{a b:Tr}(h:zdm a b):zdm b a:=λx=>(h x).symm
theorem zrf{r:Bool}{l l1 l2:List Tr}(hp:Paired zdm l l1)(h:if r then l2=l1\/l2=l1.reverse else l1.Perm l2):zdm (.nd r l) (.nd r l2):=λx =>
 ⟨half (zgZ hp h),half (r:=r) (l:=l2) (λp hpa=>by
  have hb:=zi8 (λ_ _=>zrR) hp;cases r with
  |false =>
   obtain ⟨m,h1,h2⟩:=zg3 (show l1.Perm l2 from h) hb;exact zgZ (r:=false) h1 h2.symm p hpa
  |true =>
   rcases h with rfl|rfl
   ·exact zgZ (r:=true) hb (.inl rfl) p hpa
   ·exact zgZ (r:=true) (paired_rev hb) (.inr (by rw[List.reverse_reverse])) p hpa)⟩
theorem ziD:∀(n:Nat)(a b:Tr),dep a<=n->Tw a b->zdm a b
 |n,.lf g,_,_,.lf _=>λ_=>Iff.rfl
 |0,.nd r bs,_,h,_=>by simp[dep] at h
 |n+1,.nd false bs,_,h,.any h1 h2=>zrf (r:=false) (zgp (ziD n) (zaS.mp (by simpa [dep] using h)) h1) h2
 |n+1,.nd true bs,_,h,.row h1 h2=>zrf (r:=true) (zgp (ziD n) (zaS.mp (by simpa [dep] using h)) h1) h2
theorem zpz{a b:Tr}(ha:zbQ a)(hb:zbQ b):zdm a b ↔ zaj b=zaj a:=by
 constructor
 ·intro h;exact zlX _ a b (wal _) (zxL _ _ _ (wal _) (zuj _ a b (wal _) ha hb h)) ha.o ha.n
 ·intro h x;have h1:=ziD _ _ _ (wal _) (zeD _ a (wal _));have h2:=ziD _ _ _ (wal _) (zeD _ b (wal _));rw[h1 x,h2 x,h]
theorem zpc{x y z:Dt}{bs:List B}:∀{Z:Ev}{k:Nat},zjD [.d x,.d y,.d z] bs k Z = Z
 |[],_=>rfl
 |o::r,k=>by show (match zf3 [.d x,.d y,.d z] k with|some j=>bs[j]?|none=>o)::zjD [.d x,.d y,.d z] bs (k+1) r=_;rw[zpc (Z:=r)];rfl
theorem zkx{F:FD}{fa fb fc:De}{Z Z1 Z2 Z3:Ev}{d e g y:Dt}{l:List B}(h:fa Z=.ok (d,Z1))(h2:fb Z1=.ok (e,Z2))(h3:fc Z2=.ok (g,Z3))(hF:F [.val d,.val e,.val g]=.ok (y,l)):zai F (dR fa (dR fb (dR fc dR0))) Z=.ok (y,Z3):=by unfold zai dR dR0;rw[h];simp only[R.bind_ok,h2,h3,zpI,zbH,if_true,zaM,hF];rw[zpc]
theorem ziX{F:FD}{fa:De}{Z Z':Ev}{d:Dt}{y:List Dt}{l:List B}(h:fa Z=.ok (d,Z'))(hF:F [.val d]=.ok (.lst y,l)):zaZ F (dR fa dR0) Z=.ok (y,Z'):=by unfold zaZ dR dR0;rw[h];simp only[R.bind_ok,zpI,zbH,if_true,zaM,hF];rw[zpo]
theorem zry:∀(n:Nat)(t:Tr),dep t<=n->okT t=true->dep t<=(zad t).length
 |0,t,h,_=>by cases t <;> simp[dep] at h
 |n+1,.lf g,_,_=>by simp[dep,zad]
 |n+1,.nd r l,h,ho=>by
  simp only[dep] at h ⊢;have hd:=zaS.mp (by omega:zdt l<=n);rw[okT,Bool.and_eq_true,decide_eq_true_eq,zcM,List.all_eq_true] at ho;have h2:2<=l.length:=by have:=ho.1;cases r <;> simp at this <;> omega
  show zdt l+1<=(zae l).length;refine Nat.succ_le_of_lt (Nat.lt_of_le_of_lt (zaS.mpr λt ht=>?_:zdt l<=(zae l).length-1) ?_)
  ·have e:=zry n t (hd t ht) (ho.2 t ht);obtain ⟨A,B,rfl⟩:=List.append_of_mem ht;have:∃ u,u∈A++B:=by
    cases e:A++B with
    |nil=>simp at e;simp[e.1,e.2] at h2
    |cons u q=>exact ⟨u,xws⟩
   obtain ⟨u,hu⟩:=this;have hu':u∈A++t::B:=by rcases wax.mp hu with q|q <;> simp[q]
   have e1:=List.length_pos_iff.mpr (zbL n u (hd u hu') (ho.2 u hu'));have e2:=zdh hu;rw[zbq] at e2 ⊢;simp only[zae,wav] at e2 ⊢;omega
  ·cases l with
   |nil=>simp at h2
   |cons t q =>
    have:=List.length_pos_iff.mpr (zbL n t (hd t xws) (ho.2 t xws));simp only[zae,wav];omega
structure Sm(t:Tr):Prop where
 ok:zbQ t
 l:(zad t).length<=6
theorem Sm.d{t:Tr}(h:Sm t):dep t<=6:=waN (zry _ t (wal _) h.ok.o) h.l
theorem Sm.ne{t:Tr}(h:Sm t):zad t≠[]:=zbX h.ok
variable{p:List Int}
theorem zcH{t:Tr}(S:Sm t):zbz [.val (toD t),.val (tz p)]=.ok (.int (sh p t:Nat),[.val .non,.val .non]):=by
 have hd:=S.d;have hl:=S.l;let G:=zaK (zad t);have hG:G.Perm (zad t):=zaw _;let M:=G.filter λg=>decide (g∈p);let Z0:Ev:=[some (.val (toD t)),some (.val (tz p)),none,none]
 let Z1:Ev:=[some (.val (toD t)),some (.val (tz p)),some (.val (.lst (G.map .int))),none]
 let Z2:Ev:=[some (.val (toD t)),some (.val (tz p)),some (.val (.lst (G.map .int))),some (.val (.int (M.length:Nat)))]
 refine zak (Z':=Z2) rfl ?_ rfl;refine (zag (Z1:=Z1) ?_).trans ((zag (Z1:=Z2) ?_).trans ?_)
 ·exact zaE (Z1:=Z0) (zdf (Z':=Z0) (d:=toD t) rfl (zib xwo xwo)) (show 2<4 by decide)
 ·refine zaE (Z1:=Z1) (zcf (d:=.lst (M.map .int)) (zaL ?_) (by simp[zcb,wag])) (show 3<4 by decide);refine zbw (u:=Dt.int) (f:=Dt.int) (p:=λg=>decide (g∈p)) (l:=G) (ds:=G.map .int) rfl rfl rfl (by rw[hG.length_eq];omega) (λg hg=>?_) λg hg _=>rfl;refine za4 (zao (d:=.int g) (e:=tz p) rfl rfl ?_);rw[tz,(zgL rfl zin).1,zho];rfl
 ·have e0:M.length=0 ↔ sh p t=0:=by rw[zpi,List.length_eq_zero_iff,List.filter_eq_nil_iff];exact ⟨λh g hg=>by simpa using h g (hG.mem_iff.mpr hg),λh g hg=>by simpa using h g (hG.mem_iff.mp hg)⟩
  have e2:M.length=G.length ↔ sh p t=2:=by rw[zuv S.ne,List.length_filter_eq_length_iff];exact ⟨λh g hg=>by simpa using h g (hG.mem_iff.mpr hg),λh g hg=>by simpa using h g (hG.mem_iff.mp hg)⟩
  have t0:dTB (dOp (gEq false) (zab 3) (dC (.int 0))) Z2=.ok (((M.length:Nat):Int) == 0,Z2):=za4 (zao (d:=.int (M.length:Nat)) (e:=.int 0) rfl rfl zsd);have t2:dTB (dOp (gEq false) (zab 3) (dFn zcb (dA (zab 2) dA0))) Z2=.ok (((M.length:Nat):Int) == ((G.length:Nat):Int),Z2):=za4 (zao (d:=.int (M.length:Nat)) (e:=.int (G.length:Nat)) rfl (zcf (d:=.lst (G.map .int)) rfl (by simp[zcb])) zsd);rcases zlv (p:=p) t with e|e|e
  ·rw[e0.mpr e] at t0;refine (zb1 (Z1:=Z2) (d:=.int 0) ?_).trans (by rw[e];rfl);exact (zdG t0).trans rfl
  ·have n0:(((M.length:Nat):Int) == 0)=false:=by rw[beq_eq_false_iff_ne];intro z;have:=e0.mp xwo;omega
   have n2:(((M.length:Nat):Int) == ((G.length:Nat):Int))=false:=by rw[beq_eq_false_iff_ne];intro z;have:=e2.mp xwo;omega
   rw[n0] at t0;rw[n2] at t2;refine (zag (Z1:=Z2) ((zbF t0).trans rfl)).trans (zba ?_);unfold zkf;rw[t2,e];rfl
  ·have n0:(((M.length:Nat):Int) == 0)=false:=by rw[beq_eq_false_iff_ne];intro z;have:=e0.mp xwo;omega
   have n2:(((M.length:Nat):Int) == ((G.length:Nat):Int))=true:=by rw[beq_iff_eq];have:=e2.mpr e;omega
   rw[n0] at t0;rw[n2] at t2;refine (zag (Z1:=Z2) ((zbF t0).trans rfl)).trans (zba ?_);unfold zkf;rw[t2,e];rfl
theorem zkG{l:List Tr}{d:Dt}{k:Nat}(hs:∀ t∈l,Sm t)(hd:ziE d=some (l.map toD))(hl:l.length<=1000):za6 [.val d,.val (tz p),.val (.int (k:Nat))]=.ok (.lst ((ws p k l).map toD),[.val .non,.val .non,.val .non]):=by
 let Z:Ev:=[some (.val d),some (.val (tz p)),some (.val (.int (k:Nat)))]
 refine zak (Z':=Z) rfl ?_ rfl;refine zba (zaL ?_);refine (zbw (u:=toD) (f:=toD) (p:=λb=>sh p b == k) (l:=l) (ds:=l.map toD) (fi:=dIt (zab 0)) (Z0:=Z) ?_ rfl rfl xwo (λb hb=>?_) λb hb _=>rfl).trans rfl
 ·have e:zab 0 Z=.ok (d,Z):=rfl;unfold dIt;rw[e];simp only[R.bind_ok];cases d <;> simp[ziE] at hd
  all_goals rw[hd]
 ·refine za4 (zao (d:=.int (sh p b:Nat)) (e:=.int (k:Nat)) (zdv (d:=toD b) (e:=tz p) rfl rfl (zcH (hs b hb))) rfl ?_);rw[zsd];have:(((sh p b:Nat):Int) == ((k:Nat):Int))=(sh p b == k):=by rw[Bool.eq_iff_iff,beq_iff_eq,beq_iff_eq];omega
  rw[if_neg xwd,this]
theorem zhV{l:List Tr}(hl:l.length<=1000):zbM [.val (.lst (l.map toD))]=.ok (.lst ((bun l).map toD),[.val .non]):=by
 let Z:Ev:=[some (.val (.lst (l.map toD)))]
 refine zak (Z':=Z) rfl ?_ rfl;have t0:dTB (dOp gLt (dFn zcb (dA (zab 0) dA0)) (dC (.int 2))) Z=.ok (decide (((l.length:Nat):Int)<2),Z):=za4 (zao (d:=.int (l.length:Nat)) (e:=.int 2) (zcf (d:=.lst (l.map toD)) rfl (by simp[zcb])) rfl rfl);by_cases h:l.length<2
 ·rw[decide_eq_true xwo] at t0;refine (zb1 (Z1:=Z) (d:=.lst ((bun l).map toD)) ?_);refine (zdG t0).trans (zdu ?_);rw[bun,if_pos h];rfl
 ·rw[decide_eq_false xwo] at t0;refine (zag (Z1:=Z) ((zbF t0).trans rfl)).trans (zdu ?_);rw[bun,if_neg h,List.map_cons,List.map_nil,toD,zaY];rfl
variable{p:List Int}
theorem zhB{r:Bool}{bs:List Tr}(S:Sm (.nd r bs)):(∀ b∈bs,Sm b)/\bs.length<=6/\bs≠[]:=by
 obtain ⟨_,hk,hl⟩:=S.ok.kids;have h6:(zae bs).length<=6:=S.l;refine ⟨λb hb=>⟨hk b hb,waN (zdh hb) h6⟩,?_,λz=>by rw[z] at hl;cases r <;> simp at hl⟩;have:∀ l:List Tr,(∀ b∈l,zbQ b)->l.length<=(zae l).length:=λl=>by
  induction l with
  |nil=>intro _;simp
  |cons t q ih =>
   intro h;have h1:=List.length_pos_iff.mpr (zbX (h t xws));have h2:=ih λb hb=>h b (by simp[hb]);simp only[zae,wav,wan];omega
 exact waN (this bs hk) h6
noncomputable abbrev lo2:DS:=dIf (dTB (dOp gGt (zai zbz (dR (dOp gIx (zab 2) (dC (.int 0))) (dR (zab 1) dR0))) (zai zbz (dR (dOp gIx (zab 2) (znf (dC (.int 1)))) (dR (zab 1) dR0))))) (zeb (zr1 (zab 2))) dNx
noncomputable abbrev zzk:DS:=zax (zaX 3 (zai za6 (dR (zab 2) (dR (zab 1) (dR (dC (.int 1)) dR0))))) (zax (zaX 4 (dFz (zaZ zbM (dR (zai za6 (dR (zab 2) (dR (zab 1) (dR (dC (.int 0)) dR0)))) dR0)))) (zeb (zjt (dFz (zjt (zab 4) (zab 3))) (dFz (zaZ zbM (dR (zai za6 (dR (zab 2) (dR (zab 1) (dR (dC (.int 2)) dR0)))) dR0))))))
theorem zuq:zfF=zax (zaX 2 (dOp gIx (zab 0) (dC (.int 1)))) (zax (dIf (dTB (dOp (gEq false) (dOp gIx (zab 0) (dC (.int 0))) (dC (.str (Str.ofString "any"))))) zzk dNx) (zax lo2 (zeb (zem zjB (dA (zab 2) dA0))))):=rfl
theorem zt7{L:List Tr}(h:L≠[]):gIx (.tup (L.map toD)) (.int 0)=.ok (toD (L.headD (.lf 0))):=by
 cases L with
 |nil=>exact absurd rfl h
 |cons a q =>
  unfold gIx;simp only[List.map_cons,zfI];rfl
theorem zt4{L:List Tr}(h:L≠[]):gIx (.tup (L.map toD)) (.int (-1))=.ok (toD (L.getLastD (.lf 0))):=by
 unfold gIx;have:atI (L.map toD) (-1)=some (toD (L.getLastD (.lf 0))):=by
  rw[zid (by simpa using h),List.getLast?_map,List.getLastD_eq_getLast?];cases e:L.getLast? with
  |none=>exact absurd (List.getLast?_eq_none_iff.mp e) h
  |some a=>rfl
 simp only[this]
theorem zw0{L:List Tr}(h:L≠[]):L.headD (.lf 0)∈L:=by
 cases L with
 |nil=>exact absurd rfl h
 |cons a q=>simp
theorem zvk{L:List Tr}(h:L≠[]):L.getLastD (.lf 0)∈L:=by rw[List.getLastD_eq_getLast?,List.getLast?_eq_some_getLast h];exact List.getLast_mem h
theorem znU(l:List Tr):(bun l).length<=l.length:=by
 unfold bun;split
 ·exact wal _
 ·simp;omega
theorem zwF{r:Bool}{bs:List Tr}(S:Sm (.nd r bs)):zd2 [.val (toD (.nd r bs)),.val (tz p)]=.ok (.lst ((zb6 p r bs).map toD),[.val .non,.val .non]):=by
 obtain ⟨hk,hl,hne⟩:=zhB S;let T:Option B:=some (.val (toD (.nd r bs)));let P:Option B:=some (.val (tz p));let K:Option B:=some (.val (.tup (bs.map toD)));let Z0:Ev:=[T,P,none,none,none]
 let Z1:Ev:=[T,P,K,none,none]
 have hT:zab 0 Z0=.ok (toD (.nd r bs),Z0):=rfl;have e1:zaX 2 (dOp gIx (zab 0) (dC (.int 1))) Z0=.ok (.nx,Z1):=by have:=zdS hT;rw[zaY] at this;exact zaE (Z1:=Z0) this (show 2<5 by decide)
 have hT1:zab 0 Z1=.ok (toD (.nd r bs),Z1):=rfl;have t0:=za4 (zlc hT1);have W:∀(k:Nat)(Z:Ev),zab 2 Z=.ok (.tup (bs.map toD),Z)->zab 1 Z=.ok (tz p,Z)->zai za6 (dR (zab 2) (dR (zab 1) (dR (dC (.int (k:Nat))) dR0))) Z=.ok (.lst ((ws p k bs).map toD),Z):=λk Z h2 h1=>zkx h2 h1 rfl (zkG hk rfl xwo);have wl:∀ k,(ws p k bs).length<=6:=λk=>waN (List.length_filter_le _ _) hl;cases r with
 |false =>
  let Z2:Ev:=[T,P,K,some (.val (.lst ((ws p 1 bs).map toD))),none]
  let Z3:Ev:=[T,P,K,some (.val (.lst ((ws p 1 bs).map toD))),some (.val (.lst ((bun (ws p 0 bs)).map toD)))]
  refine zak (Z':=Z3) rfl ?_ rfl;rw[zuq];refine (zag e1).trans (zb1 ((zdG t0).trans ?_));refine (zag (Z1:=Z2) ?_).trans ((zag (Z1:=Z3) ?_).trans (zdu ?_))
  ·exact zaE (Z1:=Z1) (W 1 Z1 rfl rfl) (show 3<5 by decide)
  ·exact zaE (Z1:=Z2) (zaL (ziX (W 0 Z2 rfl rfl) (zhV (waN (wl 0) xwd)))) (show 4<5 by decide)
  ·have b0:=znU (ws p 0 bs);have b2:=znU (ws p 2 bs);have w0:=wl 0;have w1:=wl 1;have w2:=wl 2;have c1:zjt (zab 4) (zab 3) Z3=.ok ((bun (ws p 0 bs)).map toD++(ws p 1 bs).map toD,Z3):=zku rfl rfl (by simp only[wag];omega);have:=zku (zaL c1) (zaL (ziX (W 2 Z3 rfl rfl) (zhV (l:=ws p 2 bs) xwo))) (by simp only[wag,wav];omega);refine this.trans ?_;rw[zb6,if_neg xwd,List.map_append,List.map_append,List.append_assoc]
 |true =>
  refine zak (Z':=Z1) rfl ?_ rfl;rw[zuq];refine (zag e1).trans ((zag (Z1:=Z1) ((zbF t0).trans rfl)).trans ?_);have g1:dTB (dOp gGt (zai zbz (dR (dOp gIx (zab 2) (dC (.int 0))) (dR (zab 1) dR0))) (zai zbz (dR (dOp gIx (zab 2) (znf (dC (.int 1)))) (dR (zab 1) dR0)))) Z1=.ok (decide (((sh p (bs.getLastD (.lf 0)):Nat):Int)<((sh p (bs.headD (.lf 0)):Nat):Int)),Z1):=by refine za4 (zao (Z1:=Z1) (zdv (Z':=Z1) (zao (Z1:=Z1) (d:=.tup (bs.map toD)) (e:=.int 0) rfl rfl (zt7 hne)) rfl (zcH (hk _ (zw0 hne)))) (zdv (Z':=Z1) (zao (Z1:=Z1) (d:=.tup (bs.map toD)) (e:=.int (-1)) rfl rfl (zt4 hne)) rfl (zcH (hk _ (zvk hne)))) ?_);rfl
  by_cases hgt:sh p (bs.headD (.lf 0)) > sh p (bs.getLastD (.lf 0))
  ·rw[decide_eq_true xwo] at g1;refine zb1 ((zdG g1).trans (zdu ?_));have e:zab 2 Z1=.ok (.tup (bs.map toD),Z1):=rfl;unfold zr1;rw[e];simp only[R.bind_ok];rw[if_neg (by rw[List.length_map];exact λz=>hne (List.length_eq_zero_iff.mp z)),zb6,if_pos rfl,if_pos hgt,List.map_reverse]
  ·rw[decide_eq_false xwo] at g1;refine (zag (Z1:=Z1) ((zbF g1).trans rfl)).trans (zdu ?_);rw[zb6,if_pos rfl,if_neg hgt];rfl
variable{p:List Int}
section
variable{f:Tr->List Tr}
theorem zlO:∀{dn acc:List Tr}{b:Tr},zbn f p acc (dn++[b])=zbn f p acc dn++(if ((zbn f p acc dn).any λx=>sh p x == 2)=true then (f b).reverse else f b)
 |[],acc,b=>rfl
 |a::dn,acc,b=>by rw[List.cons_append,zbn,zbn];exact zlO
theorem zkC:∀{os acc:List Tr}{x:Tr},x∈zbn f p acc os->x∈acc\/∃ b∈os,x∈f b
 |[],acc,x,h=>.inl h
 |b::os,acc,x,h=>by
  rw[zbn] at h;rcases zkC h with h|⟨c,hc,h⟩
  ·rcases wax.mp h with h|h
   ·exact .inl h
   ·refine .inr ⟨b,wau,?_⟩;split at h
    ·exact List.mem_reverse.mp h
    ·exact h
  ·exact .inr ⟨c,wah _ hc,h⟩
theorem zoe{k:Nat}:∀{os acc:List Tr},(∀ b∈os,(f b).length<=k)->(zbn f p acc os).length<=acc.length+os.length * k
 |[],acc,_=>by simp[zbn]
 |b::os,acc,h=>by
  rw[zbn];refine waN (zoe λc hc=>h c (wah _ hc)) ?_;have h1:=h b wau;have h2:(if (acc.any λx=>sh p x == 2)=true then (f b).reverse else f b).length=(f b).length:=by split <;> simp
  rw[List.length_append,h2,List.length_cons,Nat.succ_mul];omega
theorem zu5{acc:List Tr}:((acc.any λx=>sh p x == 2)=true) ↔ 0<(ws p 2 acc).length:=by
 rw[List.any_eq_true,List.length_pos_iff,ne_eq,List.filter_eq_nil_iff];constructor
 ·rintro ⟨x,hx,e⟩ h;exact h x hx e
 ·intro h;refine Classical.byContradiction λz=>h λx hx e=>z ⟨x,hx,e⟩
noncomputable abbrev zzv:De:=zsY 2 (zab 1) (dC (.int 2)) za6
noncomputable abbrev zx6(F:FD):DS:=zax (zaX 4 (zai F (dR (zab 3) (dR (zab 1) dR0)))) (zax (dIf (dTB (dOp gGt zzv (dC (.int 0)))) (zaX 4 (dFz (zgB (zab 4)))) dNx) (dEx (zg7 2 (zab 4))))
theorem ztd(F:FD):zun F=zax (zcY 2 (zc7 dA0)) (zax (zh1 (dIt (zab 0)) (zbr 3) (zx6 F)) (zbb (zhc 2))):=rfl
theorem zmf{F:FD}{os:List Tr}{d:Dt}(hd:ziE d=some (os.map toD))(hF:∀ b∈os,F [.val (toD b),.val (tz p)]=.ok (.lst ((f b).map toD),[.val .non,.val .non]))(hS:∀ b∈os,∀ x∈f b,Sm x)(hk:∀ b∈os,(f b).length<=6)(hl:os.length<=12) :
  zjY F [.val d,.val (tz p)]=.ok (.lst ((zbn f p [] os).map toD),[.val .non,.val .non]):=by
 let D:Option B:=some (.val d);let P:Option B:=some (.val (tz p));let I:List Tr->Ev->Prop:=λdn Z=>∃ o3 o4,Z=[D,P,some (.own ((zbn f p [] dn).map toD)),o3,o4]
 let Z0:Ev:=[D,P,some (.own []),none,none]
 have hi:dIt (zab 0) Z0=.ok (os.map toD,Z0):=by
  have e:zab 0 Z0=.ok (d,Z0):=rfl;unfold dIt;rw[e];simp only[R.bind_ok];cases d <;> simp[ziE] at hd
  all_goals rw[hd]
 obtain ⟨Z',⟨o3,o4,rfl⟩,hf⟩:=zct (u:=toD) (l:=os) (I:=I) (g:=zbr 3) (body:=zx6 F) hi rfl ⟨none,none,rfl⟩ λdn b zby e Z hI=>by
  obtain ⟨o3,o4,rfl⟩:=hI;have hb:b∈os:=by rw[e];simp
  have hsub:∀ c∈dn,c∈os:=λc hc=>by rw[e];simp[hc]
  have acl:(zbn f p [] dn).length<=72:=by
   have:=zoe (p:=p) (acc:=[]) (os:=dn) λc hc=>hk c (hsub c hc);have:dn.length<=os.length:=by rw[e];simp
   simp at *;omega
  have acs:∀ x∈zbn f p [] dn,Sm x:=λx hx=>by
   rcases zkC hx with h|⟨c,hc,h⟩
   ·cases h
   ·exact hS c (hsub c hc) x h
  let A:=zbn f p [] dn;let Z1:Ev:=[D,P,some (.own (A.map toD)),some (.val (toD b)),o4]
  let M:=if (A.any λx=>sh p x == 2)=true then (f b).reverse else f b
  let Z2:Ev:=[D,P,some (.own (A.map toD)),some (.val (toD b)),some (.val (.lst ((f b).map toD)))]
  let Z3:Ev:=[D,P,some (.own (A.map toD)),some (.val (toD b)),some (.val (.lst (M.map toD)))]
  let Z4:Ev:=[D,P,some (.own (A.map toD++M.map toD)),some (.val (toD b)),some (.val (.lst (M.map toD)))]
  have Ml:M.length<=6:=by
   have:=hk b hb;show (if _ then _ else _:List Tr).length<=6;split
   ·rw[List.length_reverse];exact this
   ·exact this
  refine ⟨Z1,Z4,rfl,?_,⟨some (.val (toD b)),some (.val (.lst (M.map toD))),?_⟩⟩
  ·refine (zag (Z1:=Z2) ?_).trans ((zag (Z1:=Z3) ?_).trans ?_)
   ·exact zaE (Z1:=Z1) (zdv (Z':=Z1) (d:=toD b) (e:=tz p) rfl rfl (hF b hb)) (show 4<5 by decide)
   ·have hlen:zzv Z2=.ok (.int ((ws p 2 A).length:Nat),Z2):=by have w:=zkG (p:=p) (k:=2) (d:=.lst (A.map toD)) acs rfl xwo;show (match za6 [.val (.lst (A.map toD)),.val (tz p),.val (.int ((2:Nat):Int))] with|.ok (.lst ds,_)=>R.ok (Dt.int ds.length,Z2)|_=>.no)=_;rw[w];simp only[wag];rfl
    have tg:dTB (dOp gGt zzv (dC (.int 0))) Z2=.ok (decide ((0:Int)<((ws p 2 A).length:Nat)),Z2):=za4 (zao (e:=.int 0) hlen rfl rfl);by_cases ha:(A.any λx=>sh p x == 2)=true
    ·have:=zu5.mp ha;rw[decide_eq_true xwo] at tg;refine (zdG tg).trans ((zaE (Z1:=Z2) (d:=.lst (((f b).map toD).reverse)) rfl (show 4<5 by decide)).trans ?_);have eM:M=(f b).reverse:=if_pos ha;show R.ok (Fl.nx,[D,P,some (.own (A.map toD)),some (.val (toD b)),some (.val (.lst (((f b).map toD).reverse)))])=.ok (.nx,[D,P,some (.own (A.map toD)),some (.val (toD b)),some (.val (.lst (M.map toD)))]);rw[eM,List.map_reverse]
    ·have:¬ 0<(ws p 2 A).length:=λz=>ha (zu5.mpr z);rw[decide_eq_false xwo] at tg;refine (zbF tg).trans ?_;have eM:M=f b:=if_neg ha;show R.ok (Fl.nx,Z2)=.ok (.nx,[D,P,some (.own (A.map toD)),some (.val (toD b)),some (.val (.lst (M.map toD)))]);rw[eM]
   ·exact zeY (zpw (Z1:=Z3) (l0:=A.map toD) (ds:=A.map toD) (l:=M.map toD) (d:=.lst (M.map toD)) rfl rfl rfl rfl (by have:A.length<=72:=acl;simp only[wag];omega))
  ·show [D,P,some (.own (A.map toD++M.map toD)),some (.val (toD b)),some (.val (.lst (M.map toD)))]=[D,P,some (.own ((zbn f p [] (dn++[b])).map toD)),some (.val (toD b)),some (.val (.lst (M.map toD)))]
   rw[zlO,List.map_append]
 refine zak (Z':=[D,P,some (.val (.lst ((zbn f p [] os).map toD))),o3,o4]) rfl ?_ rfl;rw[ztd];refine (zag (Z1:=Z0) rfl).trans ((zag hf).trans (zba ?_));rfl
end
variable{p:List Int}
theorem zqT{l:List Tr}(h:∀ x∈l,zbQ x)(h6:(zae l).length<=6):(∀ x∈l,Sm x)/\l.length<=6:=by
 refine ⟨λb hb=>⟨h b hb,waN (zdh hb) h6⟩,?_⟩;have:∀ l:List Tr,(∀ b∈l,zbQ b)->l.length<=(zae l).length:=λl=>by
  induction l with
  |nil=>intro _;simp
  |cons t q ih =>
   intro h;have h1:=List.length_pos_iff.mpr (zbX (h t xws));have h2:=ih λb hb=>h b (by simp[hb]);simp only[zae,wav,wan];omega
 exact waN (this l h) h6
theorem zhg{n:Nat}{t:Tr}(S:Sm t)(h:sh p t=1->dep t<=n):(∀ x∈zc5 n p t,Sm x)/\(zc5 n p t).length<=6:=by have L:=zi0 n t h S.ok;exact zqT L.ok (by rw[L.lv.length_eq];exact S.l)
theorem znl:∀(n:Nat)(t:Tr),Sm t->(sh p t=1->dep t<=n)->zdP (n+1) [.val (toD t),.val (tz p)]=.ok (.lst ((zc5 n p t).map toD),[.val .non,.val .non]):=by
 have body:∀(F:FD)(t:Tr),Sm t->dTB (dOp (gEq true) (zai zbz (dR (zab 0) (dR (zab 1) dR0))) (dC (.int 1))) [some (.val (toD t)),some (.val (tz p))]=.ok (!(((sh p t:Nat):Int) == 1),[some (.val (toD t)),some (.val (tz p))]):=λF t S=>by refine za4 (zao (Z1:=[some (.val (toD t)),some (.val (tz p))]) (e:=.int 1) (zdv (d:=toD t) (e:=tz p) rfl rfl (zcH S)) rfl ?_);rw[zsd];rfl
 have one:∀(F:FD)(t:Tr),Sm t->sh p t≠1->zav false [false,false] 0 (zk1 F) [.val (toD t),.val (tz p)]=.ok (.lst ([t].map toD),[.val .non,.val .non]):=λF t S hs=>by refine zak (Z':=[some (.val (toD t)),some (.val (tz p))]) rfl ?_ rfl;have b:=body F t S;rw[show (((sh p t:Nat):Int) == 1)=false by rw[beq_eq_false_iff_ne];omega] at b;exact zb1 ((zdG b).trans rfl)
 intro n
 induction n with
 |zero =>
  intro t S h;have hs:sh p t≠1:=λz=>by have:=h z;cases t <;> simp[dep] at this
  rw[zdJ hs];exact one _ t S hs
 |succ n ih =>
  intro t S h;by_cases hs:sh p t=1
  ·cases t with
   |lf g=>exact absurd hs ztg
   |nd r bs =>
    have hd:=h hs;simp only[dep] at hd;have hd':=zaS.mp (by omega:zdt bs<=n);obtain ⟨_,hk,_⟩:=S.ok.kids;obtain ⟨o1,o2⟩:=zqT (l:=zb6 p r bs) (λx hx=>(zhQ hk S.ok.n hx).1) (by rw[(zu6 (p:=p) (r:=r) (bs:=bs)).length_eq];exact S.l);have hx1:∀ x∈zb6 p r bs,sh p x=1->dep x<=n:=λx hx z=>by
     rcases (zhQ hk S.ok.n hx).2 with q|q
     ·exact absurd z q
     ·exact hd' x q
    rw[zc5,if_pos hs];show zav false [false,false] 0 (zk1 (zdP (n+1))) _=.ok (.lst ((zbn (zc5 n p) p [] (zb6 p r bs)).map toD),_);let Z:Ev:=[some (.val (toD (.nd r bs))),some (.val (tz p))]
    refine zak (Z':=Z) rfl ?_ rfl;have b:=body (zdP (n+1)) (.nd r bs) S;rw[show (((sh p (.nd r bs):Nat):Int) == 1)=true by rw[beq_iff_eq];omega] at b;refine (zag (Z1:=Z) ((zbF b).trans rfl)).trans (zba ?_);refine zdv (l:=[.val .non,.val .non]) (Z':=Z) (d:=.lst ((zb6 p r bs).map toD)) (e:=tz p) (zaL (zhA (d:=toD (.nd r bs)) (e:=tz p) rfl rfl (zwF S))) rfl ?_;exact zmf rfl (λx hx=>ih x (o1 x hx) (hx1 x hx)) (λx hx=>(zhg (o1 x hx) (hx1 x hx)).1) (λx hx=>(zhg (o1 x hx) (hx1 x hx)).2) xwo
  ·rw[zdJ hs];exact one _ t S hs
variable{p:List Int}
noncomputable def zhz(p:List Int):Nat->List Tr->List Int
 |_,[]=>[]
 |k,x::l=>if sh p x=2 then (k:Int)::zhz p (k+1) l else zhz p (k+1) l
noncomputable def enF:Nat->List Tr->List Dt
 |_,[]=>[]
 |k,x::l=>.tup [.int (k:Nat),toD x]::enF (k+1) l
theorem zy0:∀(l:List Tr)(k:Nat),((List.range' k l.length).zip (l.map toD)).map (λz=>Dt.tup [.int (z.1:Nat),z.2])=enF k l
 |[],_=>rfl
 |x::l,k=>by rw[List.length_cons,List.range'_succ,List.map_cons,List.zip_cons_cons,List.map_cons,zy0 l (k+1)];rfl
theorem zuF:∀(l:List Tr)(k:Nat),(enF k l).length=l.length
 |[],_=>rfl
 |x::l,k=>by rw[enF,List.length_cons,zuF l,List.length_cons]
theorem ztt(l:List Tr):zpA (l.map toD)=enF 0 l:=by unfold zpA;rw[List.length_map,List.range_eq_range',zy0]
theorem zhX:∀{A:List Tr}{l:List Tr}{k:Nat},(∀ x∈A,sh p x=0)->zhz p k (A++l)=zhz p (k+A.length) l
 |[],l,k,_=>rfl
 |a::A,l,k,h=>by rw[List.cons_append,zhz,if_neg (by rw[h a List.mem_cons_self];decide),zhX λx hx=>h x (wah _ hx),wan];congr 1;omega
theorem zr2:∀{A l:List Tr}{k:Nat},zhz p k (A++l)=zhz p k A++zhz p (k+A.length) l
 |[],l,k=>rfl
 |a::A,l,k=>by rw[List.cons_append,zhz,zhz,zr2,List.length_cons,show k+1+A.length=k+(A.length+1) by omega];split <;> rfl
theorem znG:∀{A:List Tr}{k:Nat},(zhz p k A).length=(ws p 2 A).length
 |[],_=>rfl
 |a::A,k=>by
  rw[zhz,zgf];split
  ·rw[List.length_cons,znG];simp
  ·rw[znG];rfl
theorem zqy{pc:List Tr}(hp:∀ x∈pc,sh p x=0\/sh p x=2)(hn:¬ ∀ x∈pc,sh p x=0) :
  zhz p 0 pc≠[]/\(NAN p pc ↔ (zhz p 0 pc).getLastD 0-(zhz p 0 pc).headD 0=((zhz p 0 pc).length:Int)-1):=by
 obtain ⟨A,b,B,rfl,hA,hb⟩:=zcV hn;have hb2:sh p b=2:=by
  rcases hp b xws with e|e
  ·exact absurd e hb
  ·exact e
 rw[zhX hA,Nat.zero_add];have hpre:NAN p (A++b::B) ↔ NAN p (b::B):=zkb zyu hA λz=>hb (z b xws);rw[hpre];by_cases hB:∀ x∈B,sh p x=0
 ·have e:zhz p A.length (b::B)=[(A.length:Int)]:=by rw[zhz,if_pos hb2];have:=zhX (l:=[]) (k:=A.length+1) hB;rw[List.append_nil] at this;rw[this];rfl
  rw[e];refine ⟨xws,⟨λ_=>by simp,λ_=>⟨[],[b],B,xws,xws,λx hx=>by rw[List.mem_singleton.mp hx];exact hb2,hB⟩⟩⟩
 ·obtain ⟨M,c,Zq,rfl,hZ,hc⟩:=zoD hB;have hc2:sh p c=2:=by
   rcases hp c xws with e|e
   ·exact absurd e hc
   ·exact e
  have e:zhz p A.length (b::(M++c::Zq))=(A.length:Int)::(zhz p (A.length+1) M++[((A.length+1+M.length:Nat):Int)]):=by rw[zhz,if_pos hb2,zr2,zhz,if_pos hc2];have:=zhX (l:=[]) (k:=A.length+1+M.length+1) hZ;rw[List.append_nil] at this;rw[this];rfl
  rw[e];have hlast:((A.length:Int)::(zhz p (A.length+1) M++[((A.length+1+M.length:Nat):Int)])).getLastD 0=((A.length+1+M.length:Nat):Int):=by rw[List.getLastD_eq_getLast?,<- List.cons_append,List.getLast?_append];rfl
  rw[hlast];refine ⟨xws,?_⟩;have hM:NAN p (b::(M++c::Zq)) ↔ ∀ x∈M,sh p x=2:=by rw[show b::(M++c::Zq)=[b]++(M++c::Zq) from rfl,NAN,zlq (λz=>hb (z b xws)) (λz=>hc (z c xws)),show (M++c::Zq).reverse=Zq.reverse++([c]++M.reverse) by simp,zjQ zyu (zbW.mpr hZ) (λz=>hc (z c xws)),zbW];exact ⟨λh=>h.2.2,λh=>⟨zq9 λx hx=>by rw[List.mem_singleton.mp hx];exact hb2,zq9 λx hx=>by rw[List.mem_singleton.mp hx];exact hc2,h⟩⟩
  rw[hM];simp only[List.headD_cons,wan,wav,List.length_nil,znG];have hle:(ws p 2 M).length<=M.length:=List.length_filter_le _ _;constructor
  ·intro h;rw[zgK h];omega
  ·intro h;have e2:ws p 2 M=M:=List.filter_sublist.eq_of_length (show (ws p 2 M).length=M.length by omega);intro x hx;rw[<- e2] at hx;exact (zcX.mp hx).2
theorem zoX{a b c d:Option B}{ft:DT}:∀{l:List Tr}{k:Nat}{o o2:Option B},(∀ x∈l,∀ o,ft [a,b,c,d,o,some (.val (toD x))]=.ok (decide (sh p x=2),[a,b,c,d,o,some (.val (toD x))])) ->
  ∃ o' o2',zc8 (zlw 4 5) ft (zab 4) (enF k l) [a,b,c,d,o,o2]=.ok ((zhz p k l).map .int,[a,b,c,d,o',o2'])
 |[],k,o,o2,_=>⟨o,o2,rfl⟩
 |x::l,k,o,o2,h=>by
  obtain ⟨o',o2',e⟩:=zoX (l:=l) (k:=k+1) (o:=some (.val (.int (k:Nat)))) (o2:=some (.val (toD x))) λy hy=>h y (wah _ hy);refine ⟨o',o2',?_⟩;have hx:=h x wau (some (.val (.int (k:Nat))));rw[enF,zc8];have hg:zlw 4 5 (.tup [.int (k:Nat),toD x]) [a,b,c,d,o,o2]=.ok [a,b,c,d,some (.val (.int (k:Nat))),some (.val (toD x))]:=rfl;rw[hg];simp only[R.bind_ok,hx];by_cases q:sh p x=2
  ·have hv:zab 4 [a,b,c,d,some (.val (.int (k:Nat))),some (.val (toD x))]=.ok (.int (k:Nat),[a,b,c,d,some (.val (.int (k:Nat))),some (.val (toD x))]):=rfl;simp only[q,decide_true,if_true,hv,R.bind_ok,e];rw[zhz,if_pos q];rfl
  ·simp only[q,decide_false,Bool.false_eq_true,if_false,e];rw[zhz,if_neg q]
variable{p:List Int}
noncomputable abbrev pcs(p:List Int)(os:List Tr):List Tr:=zbn (zc5 7 p) p [] os
theorem zxW{os:List Tr}(hs:∀ x∈os,Sm x):∀ x∈pcs p os,Sm x:=λx hx=>by
 rcases zkC hx with h|⟨b,hb,h⟩
 ·cases h
 ·exact (zhg (hs b hb) λ_=>waN (hs b hb).d xwd).1 x h
theorem zq1{os:List Tr}(hs:∀ x∈os,Sm x)(hl:os.length<=12):(pcs p os).length<=72:=by have:=zoe (p:=p) (f:=zc5 7 p) (k:=6) (acc:=[]) (os:=os) λb hb=>(zhg (hs b hb) λ_=>waN (hs b hb).d xwd).2;show (zbn (zc5 7 p) p [] os).length<=72;simp at this;omega
noncomputable abbrev zzz:DN:=zbh (zpC (zab 2)) (zlw 4 5) (dTB (dOp (gEq false) (zai zbz (dR (zab 5) (dR (zab 1) dR0))) (dC (.int 2)))) (zab 4) 2
noncomputable abbrev ztm:DT:=dTB (dOp (gEq false) (dOp zi1 (dOp gIx (zab 3) (znf (dC (.int 1)))) (dOp gIx (zab 3) (dC (.int 0)))) (dOp zi1 (dFn zcb (dA (zab 3) dA0)) (dC (.int 1))))
theorem zvF:zkm=zax (zaX 2 (zai (zjY (zdP 8)) (dR (zab 0) (dR (zab 1) dR0)))) (zax (zaX 3 (dFz zzz)) (zbb (zkf ztm (zab 2) (dC .non)))):=rfl
open Classical in
theorem zo6{os:List Tr}{d:Dt}(hd:ziE d=some (os.map toD))(hs:∀ x∈os,Sm x)(hl:os.length<=12)(hp:∀ x∈pcs p os,sh p x=0\/sh p x=2)(hn:¬ ∀ x∈pcs p os,sh p x=0) :
  zd0 [.val d,.val (tz p)]=.ok (if NAN p (pcs p os) then .lst ((pcs p os).map toD) else .non,[.val .non,.val .non]):=by
 have hsm:=zxW (p:=p) hs;have hlen:=zq1 (p:=p) hs hl;obtain ⟨hne,hiff⟩:=zqy hp hn;have e1:zjY (zdP 8) [.val d,.val (tz p)]=.ok (.lst ((pcs p os).map toD),[.val .non,.val .non]):=zmf hd (λb hb=>znl 7 b (hs b hb) λ_=>waN (hs b hb).d xwd) (λb hb=>(zhg (hs b hb) λ_=>waN (hs b hb).d xwd).1) (λb hb=>(zhg (hs b hb) λ_=>waN (hs b hb).d xwd).2) hl;generalize pcs p os=pc at *;let D:Option B:=some (.val d);let P:Option B:=some (.val (tz p));let C:Option B:=some (.val (.lst (pc.map toD)));let L:=zhz p 0 pc;let Z0:Ev:=[D,P,none,none]
 let Z1:Ev:=[D,P,C,none]
 let Z2:Ev:=[D,P,C,some (.val (.lst (L.map .int)))]
 refine zak (Z':=Z2) rfl ?_ rfl;rw[zvF];refine (zag (Z1:=Z1) ?_).trans ((zag (Z1:=Z2) ?_).trans (zba ?_))
 ·exact zaE (Z1:=Z0) (zdv (Z':=Z0) (d:=d) (e:=tz p) rfl rfl e1) (show 2<4 by decide)
 ·have hc:zzz Z1=.ok (L.map .int,Z1):=by
   have he:zpC (zab 2) Z1=.ok (enF 0 pc,Z1):=by have e:zab 2 Z1=.ok (.lst (pc.map toD),Z1):=rfl;unfold zpC;rw[e];simp only[R.bind_ok];rw[ztt]
   obtain ⟨o',o2',e⟩:=zoX (p:=p) (a:=D) (b:=P) (c:=C) (d:=none) (ft:=dTB (dOp (gEq false) (zai zbz (dR (zab 5) (dR (zab 1) dR0))) (dC (.int 2)))) (l:=pc) (k:=0) (o:=none) (o2:=none) λx hx o=>by
    refine za4 (zao (d:=.int (sh p x:Nat)) (e:=.int 2) (zdv (d:=toD x) (e:=tz p) rfl rfl (zcH (hsm x hx))) rfl ?_);rw[zsd];have:((((sh p x:Nat):Int) == 2):Bool)=decide (sh p x=2):=by rw[Bool.eq_iff_iff,beq_iff_eq,decide_eq_true_eq];omega
    rw[if_neg xwd,this]
   unfold zzz zbh;rw[he];simp only[R.bind_ok];rw[if_pos (by unfold zia;rw[decide_eq_true_eq,zuF];omega)];show (match zc8 _ _ _ _ [D,P,C,none,none,none] with|.ok z=>R.ok (z.1,z.2.take 4)|_=>.no)=_;rw[e];rfl
  exact zaE (Z1:=Z1) (zaL hc) (show 3<4 by decide)
 ·have ht:ztm Z2=.ok (L.getLastD 0-L.headD 0 == (L.length:Int)-1,Z2):=by refine za4 (zao (Z1:=Z2) (d:=.int (L.getLastD 0-L.headD 0)) (e:=.int ((L.length:Int)-1)) (zao (Z1:=Z2) (d:=.int (L.getLastD 0)) (e:=.int (L.headD 0)) (zao (Z1:=Z2) (d:=.lst (L.map .int)) (e:=.int (-1)) rfl rfl (zkH hne)) (zao (Z1:=Z2) (d:=.lst (L.map .int)) (e:=.int 0) rfl rfl (zo9 hne)) rfl) (zao (Z1:=Z2) (d:=.int (L.length:Nat)) (e:=.int 1) (zcf (d:=.lst (L.map .int)) rfl (by simp[zcb])) rfl rfl) zsd)
  unfold zkf;rw[ht];simp only[R.bind_ok];by_cases h:NAN p pc
  ·rw[if_pos h,if_pos (beq_iff_eq.mpr (hiff.mp h))];rfl
  ·rw[if_neg h,if_neg (λz=>h (hiff.mpr (beq_iff_eq.mp z)))];rfl
variable{p:List Int}
noncomputable def toO:Option Tr->Dt
 |none=>.non
 |some t=>toD t
theorem zo4{os pc:List Tr}(T:zhk p os pc)(hn:¬ ∀ x∈os,sh p x=0):¬ ∀ x∈pc,sh p x=0:=by refine zhR (t:=.nd true os) T.lv λz=>hn λx hx=>?_;rw[zpi] at z ⊢;intro g hg;exact z g (zaB.mpr ⟨x,hx,hg⟩)
theorem zzu{os:List Tr}(h:(ws p 0 os).length+1<=os.length):¬ ∀ x∈os,sh p x=0:=λz=>by rw[zgK z] at h;omega
open Classical in
theorem zr5{bs:List Tr}(S:Sm (.nd true bs))(h2:(ws p 0 bs).length+2<=bs.length) :
  zdy [.val (.tup (bs.map toD)),.val (tz p)]=.ok (toO (if NAN p (pcs p bs) then some (.nd true (pcs p bs)) else none),[.val .non,.val .non]):=by
 obtain ⟨hk,hl,hne⟩:=zhB S;have L:LOK p (zc5 7 p) bs:=⟨λx hx=>zi0 7 x (λ_=>waN (hk x hx).d xwd) (hk x hx).ok,λx _ q=>zdJ q,λx hx=>(hk x hx).ok⟩
 have T:=zkT L h2;have E:=zo6 (p:=p) (os:=bs) (d:=.tup (bs.map toD)) rfl hk xwo T.pure (zo4 T (zzu xwo));let K:Option B:=some (.val (.tup (bs.map toD)));let P:Option B:=some (.val (tz p));let x:Dt:=if NAN p (pcs p bs) then .lst ((pcs p bs).map toD) else .non
 let Z1:Ev:=[K,P,some (.val x)]
 refine zak (Z':=Z1) rfl ?_ rfl;refine (zag (Z1:=Z1) (zaE (Z1:=[K,P,none]) (zdv (Z':=[K,P,none]) (d:=.tup (bs.map toD)) (e:=tz p) rfl rfl E) (show 2<3 by decide))).trans (zba ?_);by_cases h:NAN p (pcs p bs)
 ·have hx:x=.lst ((pcs p bs).map toD):=if_pos h;have e1:Z1=[K,P,some (.val (.lst ((pcs p bs).map toD)))]:=by rw[<- hx]
  rw[e1,if_pos h];show R.ok (Dt.tup [.str (Str.ofString "row"),.tup ((pcs p bs).map toD)],_)=_;rw[toO,toD,zaY];rfl
 ·have hx:x=.non:=if_neg h;have e1:Z1=[K,P,some (.val .non)]:=by rw[<- hx]
  rw[e1,if_neg h];rfl
variable{p:List Int}
theorem zwT{bs:List Tr}:(zae (zfk p bs)).length<=(zae bs).length:=by
 rw[zfk,zbq,zbq,zir,<- zbq,<- zbq];have h:((ws p 1 bs).take 1++(ws p 2 bs++(ws p 1 bs).drop 1)).Perm (ws p 1 bs++ws p 2 bs):=by refine (List.Perm.append_left _ List.perm_append_comm).trans ?_;rw[<- List.append_assoc,List.take_append_drop]
 rw[(zbk h).length_eq];have:=(zbk (zdg (p:=p) bs)).length_eq;rw[zbq,List.length_append] at this;omega
theorem zzp{l:List Tr}:zjs (l.map toD) none (some 1)=(l.take 1).map toD:=by have:=zuw (l.map toD) 1;rw[List.map_take];exact this
theorem zzi{l:List Tr}:zjs (l.map toD) (some 1) none=(l.drop 1).map toD:=by have:=zkY (l.map toD) 1;rw[List.map_drop];exact this
noncomputable abbrev wsC(k:Int):De:=zai za6 (dR (zab 0) (dR (zab 1) (dR (dC (.int k)) dR0)))
noncomputable abbrev zsh:De:=dFz (zjt (dFz (zjt (dFz (zlS (zab 2) dO0 (dO1 (dC (.int 1))))) (zab 3))) (dFz (zlS (zab 2) (dO1 (dC (.int 1))) dO0)))
noncomputable abbrev zyJ:De:=zkf (dTB (dOp (gEq false) (dFn zcb (dA (zab 4) dA0)) (dC (.int 1)))) (dOp gIx (zab 4) (dC (.int 0))) (zd1 (dA (dC (.str (Str.ofString "row"))) (dA (dFn zbI (dA (zab 4) dA0)) dA0)))
noncomputable abbrev zyc:De:=dOp gIx (dFz (zaZ zbM (dR (dFz (zjt (wsC 0) (dFz (zc7 (dA (zab 5) dA0))))) dR0))) (dC (.int 0))
theorem zpg:zgM=zax (zaX 2 (wsC 1)) (zax (zaX 3 (dFz (zaZ zbM (dR (wsC 2) dR0)))) (zax (zaX 4 (zai zd0 (dR zsh (dR (zab 1) dR0)))) (zax (dIf (zl6 true (zab 4)) (zbb (dC .non)) dNx) (zax (zaX 5 zyJ) (zbb zyc))))):=rfl
open Classical in
theorem zqR{bs:List Tr}(S:Sm (.nd false bs))(h2:(ws p 0 bs).length+2<=bs.length) :
  zdr [.val (.tup (bs.map toD)),.val (tz p)]=.ok (toO (if NAN p (pcs p (zfk p bs)) then some ((bun (ws p 0 bs++[zki (pcs p (zfk p bs))])).headD (.lf 0)) else none),[.val .non,.val .non]):=by
 obtain ⟨hk,hl,hne⟩:=zhB S;have h6:(zae bs).length<=6:=S.l;obtain ⟨T,_⟩:=zmL (p:=p) (n:=7) S.ok (λb hb=>waN (hk b hb).d xwd) h2;obtain ⟨o1,o2⟩:=zqT (l:=zfk p bs) (λx hx=>(znz (λb hb=>(hk b hb).ok) S.ok.n hx).1) (waN zwT h6);have hnn:¬ ∀ x∈pcs p (zfk p bs),sh p x=0:=by
  refine zo4 T λz=>?_;have hp:=zdg (p:=p) bs;have hlen:=hp.length_eq;rw[List.length_append,List.length_append] at hlen;have q1:∀ x∈ws p 1 bs,x∈zfk p bs:=λx hx=>by
   rw[<- List.take_append_drop 1 (ws p 1 bs)] at hx;unfold zfk;rcases wax.mp hx with h|h
   ·exact waR _ h
   ·exact waz _ (waz _ h)
  have e1:ws p 1 bs=[]:=by
   cases e:ws p 1 bs with
   |nil=>rfl
   |cons a q =>
    have ha:a∈ws p 1 bs:=by rw[e];simp
    have:=z a (q1 a ha);rw[(zcX.mp ha).2] at this;cases this
  rw[e1,List.length_nil] at hlen;have hb2:=zou (p:=p) (l:=ws p 2 bs) (zil λb hb=>(hk b hb).ok) (.inr rfl) λy hy=>(zcX.mp hy).2;cases e:bun (ws p 2 bs) with
  |nil =>
   unfold bun at e;split at e
   ·rw[e,List.length_nil] at hlen;omega
   ·cases e
  |cons a q =>
   have ha:a∈bun (ws p 2 bs):=by rw[e];simp
   have:=z a (by unfold zfk;exact waz _ (waR _ ha));rw[hb2 a ha] at this;cases this
 have E:=zo6 (p:=p) (os:=zfk p bs) (d:=.lst ((zfk p bs).map toD)) rfl o1 xwo T.pure hnn;let K:Option B:=some (.val (.tup (bs.map toD)));let P:Option B:=some (.val (tz p));let T1:Option B:=some (.val (.lst ((ws p 1 bs).map toD)));let C:Option B:=some (.val (.lst ((bun (ws p 2 bs)).map toD)));let x:Dt:=if NAN p (pcs p (zfk p bs)) then .lst ((pcs p (zfk p bs)).map toD) else .non
 let Z0:Ev:=[K,P,none,none,none,none]
 let Z1:Ev:=[K,P,T1,none,none,none]
 let Z2:Ev:=[K,P,T1,C,none,none]
 let Z3:Ev:=[K,P,T1,C,some (.val x),none]
 have W:∀(k:Nat)(Z:Ev),zab 0 Z=.ok (.tup (bs.map toD),Z)->zab 1 Z=.ok (tz p,Z)->zai za6 (dR (zab 0) (dR (zab 1) (dR (dC (.int (k:Nat))) dR0))) Z=.ok (.lst ((ws p k bs).map toD),Z):=λk Z h2 h1=>zkx h2 h1 rfl (zkG hk rfl xwo);have wl:∀ k,(ws p k bs).length<=6:=λk=>waN (List.length_filter_le _ _) hl;have w0:=wl 0;have w1:=wl 1;have w2:=wl 2;have b2:=znU (ws p 2 bs);have hcat:zsh Z2=.ok (.lst ((zfk p bs).map toD),Z2):=by
  have c1:zlS (zab 2) dO0 (dO1 (dC (.int 1))) Z2=.ok (((ws p 1 bs).take 1).map toD,Z2):=by rw[<- zzp];exact zoc (x:=(ws p 1 bs).map toD) rfl rfl rfl
  have c2:zlS (zab 2) (dO1 (dC (.int 1))) dO0 Z2=.ok (((ws p 1 bs).drop 1).map toD,Z2):=by rw[<- zzi];exact zoc (x:=(ws p 1 bs).map toD) rfl rfl rfl
  have c3:=zku (zaL c1) (show zab 3 Z2=.ok (.lst ((bun (ws p 2 bs)).map toD),Z2) from rfl) (by simp only[wag,List.length_take];omega);have c4:=zku (zaL c3) (zaL c2) (by simp only[wag,wav,List.length_take,List.length_drop];omega);refine (zaL c4).trans ?_;rw[zfk,List.map_append,List.map_append,List.append_assoc]
 have s1:zaX 2 (wsC 1) Z0=.ok (.nx,Z1):=zaE (Z1:=Z0) (W 1 Z0 rfl rfl) (show 2<6 by decide);have s2:zaX 3 (dFz (zaZ zbM (dR (wsC 2) dR0))) Z1=.ok (.nx,Z2):=zaE (Z1:=Z1) (zaL (ziX (W 2 Z1 rfl rfl) (zhV xwo))) (show 3<6 by decide);have s3:zaX 4 (zai zd0 (dR zsh (dR (zab 1) dR0))) Z2=.ok (.nx,Z3):=zaE (Z1:=Z2) (zdv hcat (e:=tz p) rfl E) (show 4<6 by decide);by_cases h:NAN p (pcs p (zfk p bs))
 ·have hx:x=.lst ((pcs p (zfk p bs)).map toD):=if_pos h;have e1:Z3=[K,P,T1,C,some (.val (.lst ((pcs p (zfk p bs)).map toD))),none]:=by rw[<- hx]
  rw[if_pos h];have hpl:=zq1 (p:=p) o1 xwo;generalize pcs p (zfk p bs)=pc at *;let Z4:Ev:=[K,P,T1,C,some (.val (.lst (pc.map toD))),some (.val (toD (zki pc)))]
  refine zak (Z':=Z4) rfl ?_ rfl;rw[zpg];refine (zag s1).trans ((zag s2).trans ((zag s3).trans ?_));rw[e1];refine (zag (Z1:=[K,P,T1,C,some (.val (.lst (pc.map toD))),none]) rfl).trans ((zag (Z1:=Z4) ?_).trans (zba ?_))
  ·refine zaE (Z1:=[K,P,T1,C,some (.val (.lst (pc.map toD))),none]) (d:=toD (zki pc)) ?_ (show 5<6 by decide);have t1:dTB (dOp (gEq false) (dFn zcb (dA (zab 4) dA0)) (dC (.int 1))) [K,P,T1,C,some (.val (.lst (pc.map toD))),none]=.ok (((pc.length:Nat):Int) == 1,[K,P,T1,C,some (.val (.lst (pc.map toD))),none]):=za4 (zao (d:=.int (pc.length:Nat)) (e:=.int 1) (zcf (d:=.lst (pc.map toD)) rfl (by simp[zcb])) rfl zsd);unfold zyJ zkf;rw[t1];simp only[R.bind_ok];by_cases h1:pc.length=1
   ·rw[if_pos (by rw[beq_iff_eq];omega),zki,if_pos h1];exact zao (d:=.lst (pc.map toD)) (e:=.int 0) rfl rfl (znx (by intro z;rw[z] at h1;cases h1))
   ·rw[if_neg (by rw[beq_iff_eq];omega),zki,if_neg h1,toD,zaY];rfl
  ·have c0:=zku (Z1:=Z4) (W 0 Z4 rfl rfl) (show dFz (zc7 (dA (zab 5) dA0)) Z4=.ok (.lst [toD (zki pc)],Z4) from rfl) (by simp only[wag,wan,List.length_nil];omega);have e2:(ws p 0 bs).map toD++[toD (zki pc)]=(ws p 0 bs++[zki pc]).map toD:=by rw[List.map_append];rfl
   rw[e2] at c0;exact zao (Z1:=Z4) (e:=.int 0) (zaL (ziX (zaL c0) (zhV (by simp only[wav,wan,List.length_nil];omega)))) rfl (znx (by
    unfold bun;split
    ·simp
    ·simp))
 ·have hx:x=.non:=if_neg h;have e1:Z3=[K,P,T1,C,some (.val .non),none]:=by rw[<- hx]
  rw[if_neg h];refine zak (Z':=[K,P,T1,C,some (.val .non),none]) rfl ?_ rfl;rw[zpg];refine (zag s1).trans ((zag s2).trans ((zag s3).trans ?_));rw[e1];rfl
variable{p:List Int}
theorem zys:∀ o:Option Tr,eqD (toO o) .non=o.isNone
 |none=>by rw[toO,eqD];rfl
 |some (.lf g)=>by rw[toO,toD];simp[eqD]
 |some (.nd r l)=>by rw[toO,toD];simp[eqD]
theorem zxh(l:List (Option Tr)):inD .non (l.map toO)=l.any Option.isNone:=by unfold inD;rw[List.any_map];congr 1;funext o;exact zys o
theorem zoy:∀{l:List (Option Tr)},l.any Option.isNone=true->znd l=none
 |none::l,_=>rfl
 |some a::l,h=>by have:=zoy (l:=l) (by simpa using h);show (znd l).map _=none;rw[this];rfl
theorem zqw:∀{l:List (Option Tr)},l.any Option.isNone=false->∃ ts:List Tr,znd l=some ts/\l=ts.map some
 |[],_=>⟨[],rfl,rfl⟩
 |none::l,h=>by simp at h
 |some a::l,h=>by obtain ⟨ts,h1,h2⟩:=zqw (l:=l) (by simpa using h);refine ⟨a::ts,?_,by rw[h2];rfl⟩;show (znd l).map _=_;rw[h1];rfl
noncomputable abbrev zvr(F:FD):DS:=dIf (dTB (dOp (gEq false) (zai zbz (dR (zab 3) (dR (zab 1) dR0))) (dC (.int 0)))) (dEx (zew 2 (zab 3))) (dEx (zew 2 (zai F (dR (zab 3) (dR (zab 1) dR0)))))
noncomputable abbrev zyW:De:=zkf (dTB (zqj false 2 (dC .non))) (dC .non) (zd1 (dA (dOp gIx (zab 0) (dC (.int 0))) (dA (dFn zbI (dA (zhc 2) dA0)) dA0)))
theorem zv1(F:FD):zdi F=zax (zcY 2 (zc7 dA0)) (zax (zh1 (dIt (dOp gIx (zab 0) (dC (.int 1)))) (zbr 3) (zvr F)) (zbb zyW)):=rfl
theorem ztL{F:FD}{f:Tr->Option Tr}{r:Bool}{bs:List Tr}(S:Sm (.nd r bs))(hF:∀ b∈bs,sh p b≠0->F [.val (toD b),.val (tz p)]=.ok (toO (f b),[.val .non,.val .non]))(hok:∀ b∈bs,sh p b≠0->okN 60 (toO (f b))=true) :
  zco F [.val (toD (.nd r bs)),.val (tz p)]=.ok (toO ((znd (zhW f p bs)).map (.nd r)),[.val .non,.val .non]):=by
 obtain ⟨hk,hl,hne⟩:=zhB S;let T:Option B:=some (.val (toD (.nd r bs)));let P:Option B:=some (.val (tz p));let I:List Tr->Ev->Prop:=λdn Z=>∃ o3,Z=[T,P,some (.own ((zhW f p dn).map toO)),o3]
 let Z0:Ev:=[T,P,some (.own []),none]
 obtain ⟨Z',⟨o3,rfl⟩,hf⟩:=zct (u:=toD) (l:=bs) (I:=I) (g:=zbr 3) (body:=zvr F) (zpb (Z:=Z0) rfl) rfl ⟨none,rfl⟩ λdn b zby e Z hI=>by
  obtain ⟨o3,rfl⟩:=hI;have hb:b∈bs:=by rw[e];simp
  have hdl:dn.length<=6:=by rw[e] at hl;simp at hl;omega
  let A:=(zhW f p dn).map toO;have hA:A.length<=6:=by show ((zhW f p dn).map toO).length<=6;rw[List.length_map,zhW,List.length_map];exact hdl
  let Z1:Ev:=[T,P,some (.own A),some (.val (toD b))]
  have t0:dTB (dOp (gEq false) (zai zbz (dR (zab 3) (dR (zab 1) dR0))) (dC (.int 0))) Z1=.ok (((sh p b:Nat):Int) == 0,Z1):=za4 (zao (d:=.int (sh p b:Nat)) (e:=.int 0) (zdv (d:=toD b) (e:=tz p) rfl rfl (zcH (hk b hb))) rfl zsd);have key:zvr F Z1=.ok (.nx,[T,P,some (.own (A++[toO (if sh p b=0 then some b else f b)])),some (.val (toD b))]):=by
   by_cases h:sh p b=0
   ·rw[show (((sh p b:Nat):Int) == 0)=true by rw[beq_iff_eq];omega] at t0;refine (zdG t0).trans ?_;rw[if_pos h];exact zeY (zrB (Z1:=Z1) (l0:=A) (ds:=A) (d:=toD b) rfl rfl rfl xwo)
   ·rw[show (((sh p b:Nat):Int) == 0)=false by rw[beq_eq_false_iff_ne];omega] at t0;refine (zbF t0).trans ?_;rw[if_neg h];exact zeY (zrB (Z1:=Z1) (l0:=A) (ds:=A) (d:=toO (f b)) rfl (zdv (d:=toD b) (e:=tz p) rfl rfl (hF b hb h)) rfl xwo)
  refine ⟨Z1,_,rfl,key,⟨some (.val (toD b)),?_⟩⟩;show _=[T,P,some (.own ((zhW f p (dn++[b])).map toO)),some (.val (toD b))]
  rw[zhW,List.map_append,List.map_append];rfl
 have hin:dTB (zqj false 2 (dC .non)) [T,P,some (.own ((zhW f p bs).map toO)),o3]=.ok ((zhW f p bs).any Option.isNone,[T,P,some (.own ((zhW f p bs).map toO)),o3]):=by
  refine za4 ?_;have g:=(zgL (neg:=false) (x:=.non) (ds:=(zhW f p bs).map toO) rfl λd hd=>by
   obtain ⟨o,ho,rfl⟩:=List.mem_map.mp hd;obtain ⟨b,hb,rfl⟩:=List.mem_map.mp ho;by_cases h:sh p b=0
   ·rw[if_pos h];exact zpm (zzB (waN (hk b hb).d xwd)) xwd
   ·rw[if_neg h];exact hok b hb h).2
  show ((gIn false .non (.lst ((zhW f p bs).map toO))).bind λz=>R.ok (z,_))=_;rw[g,zxh];rfl
 have head:∀{Z':Ev}{d:Dt},zyW [T,P,some (.own ((zhW f p bs).map toO)),o3]=.ok (d,Z')->zdi F [T,P,none,none]=.ok (.rt d,Z'):=λh=>by rw[zv1];exact (zag (Z1:=Z0) rfl).trans ((zag hf).trans (zba h))
 cases hany:(zhW f p bs).any Option.isNone with
 |true =>
  rw[zoy hany];refine zak (Z':=[T,P,some (.own ((zhW f p bs).map toO)),o3]) rfl (head ?_) rfl;unfold zyW zkf;rw[hin,hany];rfl
 |false =>
  obtain ⟨ts,h1,h2⟩:=zqw hany;rw[h1];refine zak (Z':=[T,P,some (.val (.lst ((zhW f p bs).map toO))),o3]) rfl (head ?_) rfl;unfold zyW zkf;rw[hin,hany];simp only[R.bind_ok,Bool.false_eq_true,if_false];have e:Dt.tup [.str (wd r),.tup ((zhW f p bs).map toO)]=toO ((some ts).map (.nd r)):=by rw[h2,Option.map_some,toO,toD,zaY,List.map_map];rfl
  exact congrArg (λd=>(R.ok (d,[T,P,some (.val (.lst ((zhW f p bs).map toO))),o3]):R (Dt×Ev))) e
variable{p:List Int}
theorem zoR{n:Nat}{t t':Tr}(S:Sm t)(h8:n<=8)(hd:dep t<=n)(h0:sh p t≠0)(e:zcy n p t=some t'):Sm t':=by obtain ⟨h1,h2,_⟩:=(zg5 n t h8 hd S.ok h0).yes t' e;exact ⟨h1,by rw[h2.length_eq];exact S.l⟩
noncomputable abbrev kid:De:=dOp gIx (zab 0) (dC (.int 1))
noncomputable abbrev tiIf:DT:=dTB (dOp (gEq false) (dFn zcb (dA (zab 2) dA0)) (dOp zi1 (dFn zcb (dA kid dA0)) (dC (.int 1))))
theorem zuE(F:FD):ziP F=zax (dIf (dTB (dOp (gEq false) (zai zbz (dR (zab 0) (dR (zab 1) dR0))) (dC (.int 2)))) (zbb (zab 0)) dNx) (zax (zaX 2 (zai za6 (dR kid (dR (zab 1) (dR (dC (.int 0)) dR0))))) (zax (dIf tiIf (zbb (zai (zco F) (dR (zab 0) (dR (zab 1) dR0)))) dNx) (zax (dIf (dTB (dOp (gEq false) (dOp gIx (zab 0) (dC (.int 0))) (dC (.str (Str.ofString "any"))))) (zbb (zai zdr (dR kid (dR (zab 1) dR0)))) dNx) (zbb (zai zdy (dR kid (dR (zab 1) dR0))))))):=rfl
theorem zrQ:∀(n:Nat)(t:Tr),n<=8->Sm t->dep t<=n->sh p t≠0->zfB n [.val (toD t),.val (tz p)]=.ok (toO (zcy n p t),[.val .non,.val .non])
 |0,t,_,_,h,_=>by cases t <;> simp[dep] at h
 |n+1,t,h8,S,h,h0=>by
  let P:Option B:=some (.val (tz p));let Z0:Ev:=[some (.val (toD t)),P,none]
  have t2:dTB (dOp (gEq false) (zai zbz (dR (zab 0) (dR (zab 1) dR0))) (dC (.int 2))) Z0=.ok (((sh p t:Nat):Int) == 2,Z0):=za4 (zao (d:=.int (sh p t:Nat)) (e:=.int 2) (zdv (d:=toD t) (e:=tz p) rfl rfl (zcH S)) rfl zsd);show zav false [false,false] 1 (ziP (zfB n)) _=_;by_cases hs:sh p t=2
  ·rw[show (((sh p t:Nat):Int) == 2)=true by rw[beq_iff_eq];omega] at t2;rw[zcy,if_pos hs];refine zak (Z':=Z0) rfl ?_ rfl;rw[zuE];exact zb1 ((zdG t2).trans rfl)
  ·rw[show (((sh p t:Nat):Int) == 2)=false by rw[beq_eq_false_iff_ne];omega] at t2;rw[zcy,if_neg hs];have h1:sh p t=1:=by
    rcases zlv (p:=p) t with e|e|e
    ·exact absurd e h0
    ·exact e
    ·exact absurd e hs
   cases t with
   |lf g=>exact absurd h1 ztg
   |nd r bs =>
    simp only[dep] at h;have hd:=zaS.mp (by omega:zdt bs<=n);obtain ⟨hk,hl,hne⟩:=zhB S;have hnn:¬ ∀ x∈bs,sh p x=0:=zhR (t:=.nd r bs) (.refl _) h0;let Z1:Ev:=[some (.val (toD (.nd r bs))),P,some (.val (.lst ((ws p 0 bs).map toD)))]
    have k0:kid Z0=.ok (.tup (bs.map toD),Z0):=by have:=zdS (r:=r) (bs:=bs) (Z:=Z0) rfl;rw[zaY] at this;exact this
    have k1:kid Z1=.ok (.tup (bs.map toD),Z1):=by have:=zdS (r:=r) (bs:=bs) (Z:=Z1) rfl;rw[zaY] at this;exact this
    have s1:zaX 2 (zai za6 (dR kid (dR (zab 1) (dR (dC (.int 0)) dR0)))) Z0=.ok (.nx,Z1):=zaE (Z1:=Z0) (zkx (e:=tz p) (g:=.int ((0:Nat):Int)) k0 rfl rfl (zkG hk rfl xwo)) (show 2<3 by decide);have t3:tiIf Z1=.ok ((((ws p 0 bs).length:Nat):Int) == (bs.length:Nat)-1,Z1):=za4 (zao (Z1:=Z1) (d:=.int ((ws p 0 bs).length:Nat)) (e:=.int ((bs.length:Nat)-1)) (zcf (d:=.lst ((ws p 0 bs).map toD)) rfl (by simp[zcb])) (zao (Z1:=Z1) (d:=.int (bs.length:Nat)) (e:=.int 1) (zcf k1 (by simp[zcb])) rfl rfl) zsd);have t4:=za4 (zlc (r:=r) (bs:=bs) (Z:=Z1) rfl);show _=R.ok (toO (zxV (zcy n p) p r bs),_);refine zak (Z':=Z1) rfl ?_ rfl;rw[zuE];refine (zag (Z1:=Z0) ((zbF t2).trans rfl)).trans ((zag s1).trans ?_);unfold zxV;by_cases hw:(ws p 0 bs).length+1=bs.length
    ·rw[if_pos hw];rw[show ((((ws p 0 bs).length:Nat):Int) == (bs.length:Nat)-1)=true by rw[beq_iff_eq];omega] at t3;refine zb1 ((zdG t3).trans (zba ?_));refine zdv (l:=[.val .non,.val .non]) (d:=toD (.nd r bs)) (e:=tz p) rfl rfl (ztL S (λb hb hb0=>zrQ n b xwo (hk b hb) (hd b hb) hb0) λb hb hb0=>?_);cases e:zcy n p b with
     |none=>rfl
     |some t'=>exact zpm (zzB (waN (zoR (hk b hb) xwo (hd b hb) hb0 e).d xwd)) xwd
    ·rw[if_neg hw];have h2:(ws p 0 bs).length+2<=bs.length:=by
      have hle:(ws p 0 bs).length<=bs.length:=List.length_filter_le _ _;have:(ws p 0 bs).length≠bs.length:=λz=>hnn λx hx=>by have e2:ws p 0 bs=bs:=List.filter_sublist.eq_of_length z;rw[<- e2] at hx;exact (zcX.mp hx).2
      omega
     rw[show ((((ws p 0 bs).length:Nat):Int) == (bs.length:Nat)-1)=false by rw[beq_eq_false_iff_ne];omega] at t3;refine (zag (Z1:=Z1) ((zbF t3).trans rfl)).trans ?_;cases r with
     |true =>
      rw[if_pos rfl];exact (zag (Z1:=Z1) ((zbF t4).trans rfl)).trans (zba (zdv (l:=[.val .non,.val .non]) k1 (e:=tz p) rfl (zr5 S h2)))
     |false =>
      rw[if_neg xwd];exact zb1 ((zdG t4).trans (zba (zdv (l:=[.val .non,.val .non]) k1 (e:=tz p) rfl (zqR S h2))))
theorem zfY{n:Nat}{t:Tr}(h1:1<=n)(h7:n<=7)(S:Sm t)(h0:sh p t≠0):zb5 [.val (.int (n:Nat)),.val (toD t),.val (tz p)]=.ok (toO ((zcy 8 p t).map zaj),[.val .non,.val .non,.val .non]):=by
 have hd8:dep t<=8:=waN S.d xwd;let Z0:Ev:=[some (.val (.int (n:Nat))),some (.val (toD t)),some (.val (tz p)),none]
 let Z1:Ev:=[some (.val (.int (n:Nat))),some (.val (toD t)),some (.val (tz p)),some (.val (toO (zcy 8 p t)))]
 refine zak (Z':=Z1) rfl ?_ rfl;refine (zag (Z1:=Z0) (zeY (zdf (d:=.int (n:Nat)) rfl (zkU xwo xwo)))).trans ((zag (Z1:=Z1) (zaE (Z1:=Z0) (zdv (d:=toD t) (e:=tz p) rfl rfl (zrQ 8 t (wal _) S hd8 h0)) (show 3<4 by decide))).trans (zba ?_));cases e:zcy 8 p t with
 |none =>
  have e1:Z1=[some (.val (.int (n:Nat))),some (.val (toD t)),some (.val (tz p)),some (.val .non)]:=by show ([some (.val (.int (n:Nat))),some (.val (toD t)),some (.val (tz p)),some (.val (toO (zcy 8 p t)))]:Ev)=_;rw[e];rfl
  rw[e1];rfl
 |some t' =>
  have S':=zoR S (wal _) hd8 h0 e;have e1:Z1=[some (.val (.int (n:Nat))),some (.val (toD t)),some (.val (tz p)),some (.val (toD t'))]:=by show ([some (.val (.int (n:Nat))),some (.val (toD t)),some (.val (tz p)),some (.val (toO (zcy 8 p t)))]:Ev)=_;rw[e];rfl
  rw[e1];have hn:zn1 (toD t')=false:=by cases t' <;> rfl
  unfold zkf zl6;show ((R.ok ((true == zn1 (toD t')),_):R (Bool×Ev)).bind _)=_;rw[hn];exact zdf (F:=zb8 8) (fa:=zab 3) (Z:=[some (.val (.int (n:Nat))),some (.val (toD t)),some (.val (tz p)),some (.val (toD t'))]) (Z':=[some (.val (.int (n:Nat))),some (.val (toD t)),some (.val (tz p)),some (.val (toD t'))]) (d:=toD t') rfl (zl1 8 t' (wal _) (waN S'.d xwd) S'.ok.o S'.ok.n (by have:=S'.l;omega))
end LQ
end
section
namespace Lw
open PySem PySem.Spec L2 PV
theorem zwn{α:Type}{l:List α}{f m:Nat}(h:f<=l.length):zjs l (some (f:Int)) (some ((f:Int)+m))=(l.drop f).take m:=by
 unfold zjs;rw[show (f:Int)+m=((f+m:Nat):Int) from rfl,HT.sIx_nat,HT.sIx_nat,Nat.min_eq_left h];by_cases z:f+m<=l.length
 ·rw[Nat.min_eq_left z,show f+m-f=m by omega]
 ·rw[Nat.min_eq_right xwo,List.take_of_length_le xws,List.take_of_length_le (by simp;omega)]
theorem zke:∀ a b:List Bool,zg6 (a.map .bl) (b.map .bl)=(a == b)
 |[],[]=>by rw[List.map_nil,zg6];rfl
 |[],b::r=>by rw[List.map_nil,List.map_cons,zg6];rfl;all_goals (intros;simp at *)
 |a::r,[]=>by rw[List.map_nil,List.map_cons,zg6];rfl;all_goals (intros;simp at *)
 |a::r,b::q=>by rw[List.map_cons,List.map_cons,zg6,eqD,zke r q];rfl
theorem zmO(l:List Bool)(n:Nat):okN (n+1) (.lst (l.map .bl))=true:=by simp[okN]
noncomputable def zwy(x:List Dt)(k:Int)(Z:Ev):R (List Dt×Ev):=if zdx k=true/\x.length * k.toNat<=16777216 then .ok ((List.replicate k.toNat x).flatten,Z) else .no
theorem zyv{fa fb:De}{Z Z1 Z2:Ev}{x:List Dt}{k:Int}(h0:fa Z=.ok (.lst x,Z1))(h:fb Z1=.ok (.int k,Z2)):zyM fa fb Z=zwy x k Z2:=by unfold zyM zwy;rw[h0];simp only[R.bind_ok];rw[h];rfl
theorem zt1{x:List Dt}{k:Int}{Z:Ev}(hc:zdx k=true/\x.length * k.toNat<=16777216):zwy x k Z=.ok ((List.replicate k.toNat x).flatten,Z):=if_pos hc
theorem ziA{m:Nat}(hm:m<=1000):zdx (m:Int)=true:=by unfold zdx;rw[Bool.and_eq_true,decide_eq_true_eq,decide_eq_true_eq];omega
noncomputable def Pty(n:Nat)(p:List Int):Prop:=p≠[]/\p.Pairwise (· < ·)/\∀ x∈p,0<=x/\x<n
theorem zoM{ft:DT}{zby:Ev}:∀{l:List Dt}{st:List Dt}{o:Option B},(∀ d∈l,∀ st,St st->∃ b st',St st'/\ft (some (.own st)::(zby++[some (.val d)]))=.ok (b,some (.own st')::(zby++[some (.val d)])))->St st ->
  ∃ ys st' o',St st'/\ys.Sublist l/\zc8 (zbr (zby.length+1)) ft (zab (zby.length+1)) l (some (.own st)::(zby++[o]))=.ok (ys,some (.own st')::(zby++[o']))
 |[],st,o,_,hs=>⟨[],st,o,hs,.slnil,rfl⟩
 |d::l,st,o,h,hs=>by
  obtain ⟨b,st1,hs1,e1⟩:=h d xws st hs;obtain ⟨ys,st',o',hs',hp,e⟩:=zoM (l:=l) (st:=st1) (o:=some (.val d)) (λb hb=>h b (wah _ hb)) hs1;have hv:zab (zby.length+1) (some (.own st1)::(zby++[some (.val d)]))=.ok (d,some (.own st1)::(zby++[some (.val d)])):=by simp[zab]
  cases b with
  |true =>
   refine ⟨d::ys,st',o',hs',hp.cons_cons d,?_⟩;rw[zc8,zlx];simp only[R.bind_ok];rw[e1];simp only[R.bind_ok,if_true];rw[hv];simp only[R.bind_ok];rw[e];rfl
  |false =>
   refine ⟨ys,st',o',hs',hp.cons d,?_⟩;rw[zc8,zlx];simp only[R.bind_ok];rw[e1];simp only[R.bind_ok,Bool.false_eq_true,if_false];exact e
theorem zrd(n:Nat):(zaW n).Pairwise (· < ·):=by unfold zaW;rw[List.pairwise_map];refine List.Pairwise.imp (R:=λa b=>a<b) (λ{a b} h=>by omega) List.pairwise_lt_range
theorem zx8{zby:Ev}{st:List Dt}{fb:De}{m:Int}{v:Int}{st':List Dt}(e:zap [.own st,.val (.int m)]=.ok (.int v,[.own st',.val .non]))(h:fb (some (.own st)::zby)=.ok (.int m,some (.own st)::zby)):zai zap (dRO 0 (dR fb dR0)) (some (.own st)::zby)=.ok (.int v,some (.own st')::zby) :=
 zhG (Z:=some (.own st)::zby) rfl h e
theorem zvj{α:Type}{l:List α}(h:l.length<=1000):zia l=true:=by unfold zia;rw[decide_eq_true_eq];omega
theorem zvD{fa:De}{Z Z1:Ev}{j:Nat}(h:fa Z=.ok (.int j,Z1))(hj:j<=1000):zdw fa Z=.ok (zch 0 j,Z1):=by rw[zsv h,znP (ziA hj),Int.toNat_natCast]
theorem zpT{n:Nat}{st:List Dt}(h1:1<=n)(h7:n<=7)(hs:St st):∃ p st',St st'/\Pty n p/\zcx [.own st,.val (.int n)]=.ok (tz p,[.own st',.val .non]):=by
 obtain ⟨ys,st1,o',hs1,hsub,e⟩:=zoM (ft:=dTB (dOp (gEq false) (zai zap (dRO 0 (dR (dC (.int 2)) dR0))) (dC (.int 1)))) (zby:=[some (.val (.int n)),none]) (l:=zch 0 n) (st:=st) (o:=none) (λd _ st hs=>by obtain ⟨v,st',e,hs',v0,v1⟩:=zdb (m:=2) hs xwd xwd;exact ⟨v == 1,st',hs',za4 (zao (zx8 e rfl) rfl (by rw[zsd];rfl))⟩) hs
 rw[zkM] at hsub;obtain ⟨zs,hz,rfl⟩:=List.sublist_map_iff.mp hsub;let Z0:Ev:=[some (.own st),some (.val (.int n)),none]
 have hc:zbh (zdw (zab 1)) (zbr 3) (dTB (dOp (gEq false) (zai zap (dRO 0 (dR (dC (.int 2)) dR0))) (dC (.int 1)))) (zab 3) 1 Z0=.ok (zs.map .int,[some (.own st1),some (.val (.int n)),none]):=by unfold zbh;rw[show zdw (zab 1) Z0=.ok (zch 0 n,Z0) from zvD (j:=n) rfl xwo];simp only[R.bind_ok];rw[if_pos (zvj (by unfold zch;rw[List.length_map,List.length_range];omega))];show (match zc8 (zbr 3) _ (zab 3) (zch 0 n) [some (.own st),some (.val (.int n)),none,none] with|.ok z=>R.ok (z.1,z.2.take 3)|_=>.no)=_;have e':zc8 (zbr 3) (dTB (dOp (gEq false) (zai zap (dRO 0 (dR (dC (.int 2)) dR0))) (dC (.int 1)))) (zab 3) (zch 0 n) [some (.own st),some (.val (.int n)),none,none]=_:=e;rw[e'];rfl
 have e1:zaX 2 (dFn zbI (dA (dFz (zbh (zdw (zab 1)) (zbr 3) (dTB (dOp (gEq false) (zai zap (dRO 0 (dR (dC (.int 2)) dR0))) (dC (.int 1)))) (zab 3) 1)) dA0)) Z0=.ok (.nx,[some (.own st1),some (.val (.int n)),some (.val (tz zs))]) :=
  zaE (i:=2) (zcf (zaL hc) rfl) xws
 have hpw:zs.Pairwise (· < ·):=(zrd n).sublist hz;have hin:∀ x∈zs,0<=x/\x<n:=λx hx=>zcw.mp (hz.subset hx);cases zs with
 |nil =>
  obtain ⟨v,st2,e2,hs2,v0,v1⟩:=zdb (m:=(n:Nat)) hs1 xwo xwo;refine ⟨[v],st2,hs2,⟨xws,xws,λx hx=>(by have:x=v:=(by simpa using hx);omega)⟩,zak (Z':=[some (.own st2),some (.val (.int n)),some (.val (tz []))]) rfl ?_ rfl⟩;show zde Z0=_;unfold zde;rw[zag e1];refine zb1 ?_;have hc:dTB (dOp (gEq false) (zab 2) (zd1 dA0)) [some (.own st1),some (.val (.int n)),some (.val (tz []))]=.ok (true,[some (.own st1),some (.val (.int n)),some (.val (tz []))]):=by refine za4 (zao (d:=tz []) (e:=.tup []) (Z1:=[some (.own st1),some (.val (.int n)),some (.val (tz []))]) rfl rfl ?_);rw[zbt rfl rfl];show R.ok (Dt.bl (eqD (.tup []) (.tup [])))=_;rw[eqD,zg6]
  rw[zdG hc];exact zba (zrz (zpD (zx8 e2 rfl) rfl) xws)
 |cons a r =>
  refine ⟨a::r,st1,hs1,⟨xws,hpw,hin⟩,zak (Z':=[some (.own st1),some (.val (.int n)),some (.val (tz (a::r)))]) rfl ?_ rfl⟩;show zde Z0=_;unfold zde;rw[zag e1];have hc:dTB (dOp (gEq false) (zab 2) (zd1 dA0)) [some (.own st1),some (.val (.int n)),some (.val (tz (a::r)))]=.ok (false,[some (.own st1),some (.val (.int n)),some (.val (tz (a::r)))]):=by
   refine za4 (zao (d:=tz (a::r)) (e:=.tup []) (Z1:=[some (.own st1),some (.val (.int n)),some (.val (tz (a::r)))]) rfl rfl ?_);rw[zbt (by show okN 60 (.tup ((a::r).map .int))=true;simp[okN]) rfl];show R.ok (Dt.bl (eqD (.tup ((a::r).map .int)) (.tup [])))=_;rw[eqD,List.map_cons,zg6]
   all_goals (intros;simp at *)
  rw[zag (Z1:=[some (.own st1),some (.val (.int n)),some (.val (tz (a::r)))]) (by rw[zbF hc];rfl)];rfl
end Lw
end
section
namespace LQ
open PySem PySem.Spec L2 PV Lw
theorem zvN{l:List Int}(h:l≠[]):zqk l=(zaK l).headD 0:=(zuI (zo7 h) λa ha=>zvs ha).symm
theorem zqE{α:Type}(z:List (Int×α)):(zhl z).map (·.1)=zaK (z.map (·.1)) :=
 W.lks_uniq (((zbU z).map _).trans (zaw _).symm) (List.pairwise_map.mpr (zfz z)) (zbO _)
theorem zkW:∀{ks:List Int}{k:Int},k∈ks->∃ j,zoU (.int k) (ks.map .int)=some j/\ks[j]? = some k
 |[],_,h=>by cases h
 |a::r,k,h=>by
  rw[List.map_cons,zoU,eqI];by_cases e:a=k
  ·subst e;exact ⟨0,xws,xws⟩
  ·rcases wap.mp h with rfl|h
   ·exact absurd rfl e
   ·obtain ⟨j,h1,h2⟩:=zkW h;refine ⟨j+1,?_,by simpa using h2⟩;rw[if_neg (by simpa using e),h1];rfl
noncomputable def zx7(ks:List Int)(L:List Dt)(k:Int):Dt:=match zoU (.int k) (ks.map .int) with
 |some j=>(L[j]?).getD .non
 |none=>.non
theorem ziL{α:Type}{l:List α}{j:Nat}(h:j<l.length):atI l (j:Nat)=l[j]? := by unfold atI;rw[zls xwo xwo];simp
theorem zue{ks:List Int}{L:List Dt}(hl:ks.length=L.length)(hn:ks.Nodup):(zaK ks).map (zx7 ks L)=byK ks L:=by
 have e1:(ks.zip L).map (·.1)=ks:=by rw[List.map_fst_zip];omega
 have e2:=zqE (ks.zip L);rw[e1] at e2;rw[<- e2,List.map_map];unfold byK;refine List.map_congr_left λp hp=>?_;have hm:=(zbU _).mem_iff.mp hp;obtain ⟨j,hj⟩:=List.mem_iff_getElem?.mp hm;obtain ⟨q1,q2⟩:=List.getElem?_zip_eq_some.mp hj;obtain ⟨j',h1,h2⟩:=zkW (waH q1);have:j'=j:=by obtain ⟨g1,g2⟩:=wam.mp h2;obtain ⟨g3,g4⟩:=wam.mp q1;exact (List.getElem_inj hn).mp (g2.trans g4.symm)
 subst this;show zx7 ks L p.1=p.2;unfold zx7;rw[h1];simp only[q2,Option.getD_some]
theorem zvJ(ks:List Int):(ks.map Dt.int).all (okN 60)=true:=by rw[List.all_eq_true];intro d hd;obtain ⟨k,_,rfl⟩:=List.mem_map.mp hd;rfl
theorem zjm:∀(n:Nat)(t:Tr),n<=8->dep t<=n->okT t=true->(zad t).Nodup->(zad t).length<64->zb4 n [.val (toD t)]=.ok (toD (zaj t),[.val .non])
 |0,t,_,h,_,_,_=>by cases t <;> simp[dep] at h
 |n+1,.lf i,h8,h,ho,hn,hl=>by refine zak (Z':=[some (.val (.int i)),none,none]) rfl ?_ rfl;rw[toD,zaj];rfl
 |n+1,.nd r l,h8,h,ho,hn,hl=>by
  simp only[dep] at h;simp only[zad] at hl hn;have hd:zdt l<=n:=by omega
  obtain ⟨B1,B2,B3,B4,B5⟩:=zpf hd ho hn hl;have ho2:∀ t∈l,okT t=true:=by simp only[okT,wae] at ho;have:=ho.2;rw[zcM,List.all_eq_true] at this;exact this
  have hn2:∀ t∈l,(zad t).Nodup:=λt ht=>zji ht hn;have hD:toD (.nd r l)=.tup [.str (wd r),.tup (zka l)]:=by rw[toD]
  have hll:l.length<=1000:=by simp only[wag] at B5;omega
  have hks:(l.map zaj).map mn≠[]:=by simpa using B3
  have e1:zaX 1 (dFz (zbh (dIt (dOp gIx (zab 0) (dC (.int 1)))) (zbr 3) dTT (zai (zb4 n) (dR (zab 3) dR0)) 1)) [some (.val (toD (.nd r l))),none,none]=.ok (.nx,[some (.val (toD (.nd r l))),some (.val (.lst ((l.map zaj).map toD))),none]):=by
   have:=zdz (Z0:=[some (.val (toD (.nd r l))),none,none]) (fi:=dIt (dOp gIx (zab 0) (dC (.int 1)))) (fe:=zai (zb4 n) (dR (zab 3) dR0)) (l:=l) (u:=toD) (f:=λt=>toD (zaj t)) (ds:=zka l) (j:=3) (by rw[hD];rfl) (zaY l) hll
    (λt ht=>zdf (Z':=[some (.val (toD (.nd r l))),none,none]++[some (.val (toD t))]) rfl (zjm n t xwo (zaS.mp hd t ht) (ho2 t ht) (hn2 t ht) (by have:=zdh ht;omega))) rfl
   rw[show l.map (λt=>toD (zaj t))=(l.map zaj).map toD by rw[List.map_map];rfl] at this;exact zaE (zaL this) xws
  have e2:zaX 2 (dFz (zbh (dIt (zab 1)) (zbr 3) dTT (dFn zk6 (dA (zai (zaI 8) (dR (zab 3) dR0)) dA0)) 1)) [some (.val (toD (.nd r l))),some (.val (.lst ((l.map zaj).map toD))),none]=.ok (.nx,[some (.val (toD (.nd r l))),some (.val (.lst ((l.map zaj).map toD))),some (.val (.lst (((l.map zaj).map mn).map .int)))]):=by
   have:=zdz (Z0:=[some (.val (toD (.nd r l))),some (.val (.lst ((l.map zaj).map toD))),none]) (fi:=dIt (zab 1)) (fe:=dFn zk6 (dA (zai (zaI 8) (dR (zab 3) dR0)) dA0)) (l:=l.map zaj) (u:=toD) (f:=λt=>.int (mn t)) (ds:=(l.map zaj).map toD) (j:=3) rfl rfl xwo
    (λt ht=>zcf (zdf (Z':=[some (.val (toD (.nd r l))),some (.val (.lst ((l.map zaj).map toD))),none]++[some (.val (toD t))]) rfl (zeF 8 t (by have:=B1 t ht;omega) (by have:=B1 t ht;omega))) (by
     unfold zk6;simp only[zsG];have hne:=(B1 t ht).2.2;have hz:=zvN hne;show _=R.ok (Dt.int ((zaK (zad t)).headD 0));rw[<- hz];cases hq:zad t with
     |nil=>exact absurd hq hne
     |cons a q=>rfl)) rfl
   rw[show (l.map zaj).map (λt=>Dt.int (mn t))=((l.map zaj).map mn).map .int by rw[List.map_map (f:=mn)];rfl] at this;exact zaE (zaL this) xws
  refine zak (Z':=[some (.val (toD (.nd r l))),some (.val (.lst ((l.map zaj).map toD))),some (.val (.lst (((l.map zaj).map mn).map .int)))]) rfl ?_ rfl;show zf6 (zb4 n) [some (.val (toD (.nd r l))),none,none]=_;unfold zf6;rw[zag (Z1:=[some (.val (toD (.nd r l))),none,none]) (by rw[hD];rfl),zag e1,zag e2];have er:=zuH (r:=r) (x:=.tup (zka l)) (Z:=[some (.val (toD (.nd r l))),some (.val (.lst ((l.map zaj).map toD))),some (.val (.lst (((l.map zaj).map mn).map .int)))]) (i:=0) (by rw[hD];rfl);have eh:dOp gIx (zab 2) (dC (.int 0)) [some (.val (toD (.nd r l))),some (.val (.lst ((l.map zaj).map toD))),some (.val (.lst (((l.map zaj).map mn).map .int)))]=.ok (.int (((l.map zaj).map mn).headD 0),[some (.val (toD (.nd r l))),some (.val (.lst ((l.map zaj).map toD))),some (.val (.lst (((l.map zaj).map mn).map .int)))]):=zao rfl rfl (zo9 hks);have el:dOp gIx (zab 2) (znf (dC (.int 1))) [some (.val (toD (.nd r l))),some (.val (.lst ((l.map zaj).map toD))),some (.val (.lst (((l.map zaj).map mn).map .int)))]=.ok (.int (((l.map zaj).map mn).getLastD 0),[some (.val (toD (.nd r l))),some (.val (.lst ((l.map zaj).map toD))),some (.val (.lst (((l.map zaj).map mn).map .int)))]):=zao rfl rfl (zkH hks);have mh:((l.map zaj).map mn).headD 0=mn ((l.map zaj).headD (.lf 0)):=by
   cases e:l.map zaj with
   |nil=>exact absurd e B3
   |cons a q=>rfl
  have ml:((l.map zaj).map mn).getLastD 0=mn ((l.map zaj).getLastD (.lf 0)):=by
   rw[List.getLastD_eq_getLast?,List.getLastD_eq_getLast?,List.getLast?_map];cases e:(l.map zaj).getLast? with
   |none=>exact absurd (List.getLast?_eq_none_iff.mp e) B3
   |some a=>rfl
  have ne:=zrO B4 B2;cases r with
  |true =>
   refine zb1 ?_;rw[zdG er];have e5:zkf (dTB (dOp gLt (dOp gIx (zab 2) (dC (.int 0))) (dOp gIx (zab 2) (znf (dC (.int 1)))))) (zab 1) (dFz (zgB (zab 1))) [some (.val (toD (.nd true l))),some (.val (.lst ((l.map zaj).map toD))),some (.val (.lst (((l.map zaj).map mn).map .int)))]=.ok (.lst ((zpL true (l.map zaj)).map toD),[some (.val (toD (.nd true l))),some (.val (.lst ((l.map zaj).map toD))),some (.val (.lst (((l.map zaj).map mn).map .int)))]):=by
    unfold zkf;rw[za4 (zao eh el rfl)];simp only[R.bind_ok,mh,ml];unfold zpL;rw[if_pos rfl];by_cases hgt:mn ((l.map zaj).headD (.lf 0))<mn ((l.map zaj).getLastD (.lf 0))
    ·rw[if_pos (decide_eq_true hgt),if_neg xwo];rfl
    ·rw[if_neg (by simpa using hgt),if_pos xwo,List.map_reverse];rfl
   refine zba ?_;have e6:=zcf (g:=zbI) (z:=.tup ((zpL true (l.map zaj)).map toD)) e5 rfl;unfold zd1;rw[dA];simp only[dC,R.bind_ok];rw[dA,e6];simp only[R.bind_ok,dA0];rw[zaj,zcA];simp only[toD,zaY];rfl
  |false =>
   rw[zag (Z1:=[some (.val (toD (.nd false l))),some (.val (.lst ((l.map zaj).map toD))),some (.val (.lst (((l.map zaj).map mn).map .int)))]) (by rw[zbF er];rfl)];refine zba ?_;have hks2:((l.map zaj).map mn).length=((l.map zaj).map toD).length:=by simp
   have e4:dFz (zbh (dIt (dFz (zem zbl (dA (zab 2) dA0)))) (zbr 3) dTT (dOp gIx (zab 1) (zvT (zab 2) (zab 3))) 1) [some (.val (toD (.nd false l))),some (.val (.lst ((l.map zaj).map toD))),some (.val (.lst (((l.map zaj).map mn).map .int)))]=.ok (.lst ((zpL false (l.map zaj)).map toD),[some (.val (toD (.nd false l))),some (.val (.lst ((l.map zaj).map toD))),some (.val (.lst (((l.map zaj).map mn).map .int)))]):=by
    have:=zdz (Z0:=[some (.val (toD (.nd false l))),some (.val (.lst ((l.map zaj).map toD))),some (.val (.lst (((l.map zaj).map mn).map .int)))]) (fi:=dIt (dFz (zem zbl (dA (zab 2) dA0)))) (fe:=dOp gIx (zab 1) (zvT (zab 2) (zab 3))) (l:=zaK ((l.map zaj).map mn)) (u:=Dt.int) (f:=zx7 ((l.map zaj).map mn) ((l.map zaj).map toD)) (ds:=(zaK ((l.map zaj).map mn)).map .int) (j:=3) (by
      have eS:zem zbl (dA (zab 2) dA0) [some (.val (toD (.nd false l))),some (.val (.lst ((l.map zaj).map toD))),some (.val (.lst (((l.map zaj).map mn).map .int)))]=.ok ((zaK ((l.map zaj).map mn)).map .int,[some (.val (toD (.nd false l))),some (.val (.lst ((l.map zaj).map toD))),some (.val (.lst (((l.map zaj).map mn).map .int)))]):=by show ((zbl [.lst (((l.map zaj).map mn).map .int)]).bind _)=_;unfold zbl;simp only[zsG];rw[if_pos (by rw[List.length_map];exact B5)];rfl
      unfold dIt;rw[zaL eS];rfl) rfl (by rw[(zaw _).length_eq];simp only[wag] at B5 ⊢;omega)
     (λk hk=>by
      have hk':=(zaw _).mem_iff.mp hk;obtain ⟨j,h1,h2⟩:=zkW hk';have hj:j<((l.map zaj).map toD).length:=by have:=(wam.mp h2).1;omega
      refine zao (d:=.lst ((l.map zaj).map toD)) (e:=.int j) rfl ?_ ?_ (Z1:=[some (.val (toD (.nd false l))),some (.val (.lst ((l.map zaj).map toD))),some (.val (.lst (((l.map zaj).map mn).map .int)))]++[some (.val (.int k))])
      ·show ((if (okN 60 (.int k) && ((((l.map zaj).map mn).map Dt.int).all (okN 60)))=true then match zoU (.int k) (((l.map zaj).map mn).map .int) with|some j=>R.ok (Dt.int j,[some (.val (toD (.nd false l))),some (.val (.lst ((l.map zaj).map toD))),some (.val (.lst (((l.map zaj).map mn).map .int)))]++[some (.val (.int k))])|none=>.no else .no):R (Dt×Ev))=_;rw[zvJ,if_pos (show (okN 60 (Dt.int k) && true)=true from rfl),h1]
      ·obtain ⟨y,hy⟩ : ∃ y,((l.map zaj).map toD)[j]? = some y:=⟨_,wac hj⟩
       have hat:atI ((l.map zaj).map toD) (j:Nat)=some y:=by rw[ziL hj];exact hy
       unfold gIx zx7;simp only[hat,h1,hy,Option.getD_some]) rfl
    rw[zue hks2 B2,zqn] at this;exact zaL this
   have e6:=zcf (g:=zbI) (z:=.tup ((zpL false (l.map zaj)).map toD)) e4 rfl;unfold zd1;rw[dA];simp only[dC,R.bind_ok];rw[dA,e6];simp only[R.bind_ok,dA0];rw[zaj,zcA];simp only[toD,zaY];rfl
variable{p:List Int}
theorem zuQ:∀{row:List Int},(∃ g∈row,g∈p)->∃ A g B,row=A++g::B/\No p A/\g∈p
 |[],h=>by obtain ⟨g,hg,_⟩:=h;cases hg
 |x::r,h=>by
  by_cases hx:x∈p
  ·exact ⟨[],x,r,rfl,(λy hy=>by cases hy),hx⟩
  ·obtain ⟨A,g,B,rfl,h1,h2⟩:=zuQ (row:=r) (by
    obtain ⟨g,hg,hp⟩:=h;rcases wap.mp hg with rfl|hg
    ·exact absurd hp hx
    ·exact ⟨g,hg,hp⟩)
   exact ⟨x::A,g,B,rfl,λy hy=>by
    rcases wap.mp hy with rfl|hy
    ·exact hx
    ·exact h1 y hy,h2⟩
theorem zvw{A B:List Int}{g:Int}(hr:(A++g::B).Nodup)(hpn:p.Nodup)(hp:∀ x∈p,x∈A++g::B)(hA:No p A)(hg:g∈p) :
  ((g::B).take p.length).map (λx=>decide (x∈p))=List.replicate p.length true ↔ Ct p (A++g::B):=by
 have hn:=(List.nodup_append.mp hr).2.1;have hpB:∀ x∈p,x∈g::B:=λx hx=>by
  rcases wax.mp (hp x hx) with h|h
  ·exact absurd hx (hA x h)
  ·exact h
 rw[Ct,zkb zuX hA λz=>z g xws hg];constructor
 ·intro h;have hlen:((g::B).take p.length).length=p.length:=by have:=congrArg List.length h;simpa using this
  have hall:∀ x∈(g::B).take p.length,x∈p:=λx hx=>by
   have:decide (x∈p)∈List.replicate p.length true:=by rw[<- h];exact List.mem_map.mpr ⟨x,hx,rfl⟩
   simpa using (List.mem_replicate.mp this).2
  have hn1:((g::B).take p.length).Nodup:=hn.sublist (List.take_sublist _ _);have hperm:=zfN _ p hn1 hall xwo;refine ⟨[],(g::B).take p.length,(g::B).drop p.length,xws,xws,hall,λx hx hxp=>?_⟩;have h1:x∈(g::B).take p.length:=hperm.mem_iff.mpr hxp;rw[<- List.take_append_drop p.length (g::B)] at hn;exact (List.nodup_append.mp hn).2.2 x h1 x hx rfl
 ·rintro ⟨u,v,w,e,hu,hv,hw⟩;have hu0:u=[]:=by
   cases u with
   |nil=>rfl
   |cons a u =>
    have:a=g:=by simp at e;exact e.1.symm
    exact absurd hg (this ▸ hu a xws)
  subst hu0;rw[List.nil_append] at e;have hvn:v.Nodup:=by rw[e] at hn;exact (List.nodup_append.mp hn).1
  have hpv:∀ x∈p,x∈v:=λx hx=>by
   have:=hpB x hx;rw[e] at this;rcases wax.mp this with h|h
   ·exact h
   ·exact absurd hx (hw x h)
  have hl:v.length=p.length:=by have h1:=zi5 hvn hv;have h2:=zi5 hpn hpv;omega
  rw[e,<- hl,List.take_left];refine List.eq_replicate_iff.mpr ⟨xws,λb hb=>?_⟩;obtain ⟨x,hx,rfl⟩:=List.mem_map.mp hb;exact wat (hv x hx)
theorem zmy:∀{A B:List Bool},(∀ b∈A,b=false)->zoU (.bl true) ((A++true::B).map .bl)=some A.length
 |[],B,_=>by rw[List.nil_append,List.map_cons,zoU,eqD];rfl
 |a::A,B,h=>by have:a=false:=h a xws;subst this;rw[List.cons_append,List.map_cons,zoU,eqD,if_neg xws,zmy λb hb=>h b (by simp[hb])];rfl
theorem zuf{fa:De}{Z Z2:Ev}{m:Nat}(h:fa Z=.ok (.int m,Z2))(hm:m<=1000):zyM (dFz (zc7 (dA (dC (.bl true)) dA0))) fa Z=.ok ((List.replicate m true).map .bl,Z2):=by
 have this:∀ k:Nat,(List.replicate k [Dt.bl true]).flatten=(List.replicate k true).map .bl:=by
  intro k
  induction k with
  |zero=>rfl
  |succ k ih=>rw[List.replicate_succ,List.flatten_cons,ih,List.replicate_succ];rfl
 have hc:[Dt.bl true].length * (m:Int).toNat<=16777216:=by rw[Int.toNat_natCast];simp only[wan,List.length_nil];omega
 rw[zyv (Z1:=Z) rfl h,zt1 ⟨ziA hm,hc⟩,Int.toNat_natCast,this]
open Classical in
theorem zp4{row:List Int}(hr:row.Nodup)(hpn:p.Nodup)(hp:∀ x∈p,x∈row)(hne:p≠[])(hl:p.length<=1000)(hl2:row.length<=1000):zeT [.val (tz row),.val (tz p)]=.ok (.bl (decide (Ct p row)),[.val .non,.val .non]):=by
 obtain ⟨A,g,B,e,hA,hg⟩:=zuQ (p:=p) (row:=row) (by
  cases p with
  |nil=>exact absurd rfl hne
  |cons a q=>exact ⟨a,hp a xws,xws⟩)
 let ms:List Bool:=row.map λx=>decide (x∈p);have hms:ms=(A.map λx=>decide (x∈p))++true::(B.map λx=>decide (x∈p)):=by show row.map _=_;rw[e,List.map_append,List.map_cons,decide_eq_true hg]
 let Z0:Ev:=[some (.val (tz row)),some (.val (tz p)),none,none]
 let Z1:Ev:=[some (.val (tz row)),some (.val (tz p)),some (.val (.lst (ms.map .bl))),none]
 let Z2:Ev:=[some (.val (tz row)),some (.val (tz p)),some (.val (.lst (ms.map .bl))),some (.val (.int (A.length:Nat)))]
 have hc:zbh (dIt (zab 0)) (zbr 4) dTT (dOp (gIn false) (zab 4) (zab 1)) 1 Z0=.ok (ms.map .bl,Z0):=by
  refine (zdz (Z0:=Z0) (fi:=dIt (zab 0)) (l:=row) (u:=Dt.int) (f:=λg=>.bl (decide (g∈p))) (ds:=row.map .int) rfl rfl hl2 (λg hg=>?_) rfl).trans ?_
  ·refine zao (d:=.int g) (e:=tz p) rfl rfl ?_;rw[tz,(zgL rfl zin).1,zho];rfl
  ·show R.ok (_,Z0)=R.ok ((row.map λx=>decide (x∈p)).map Dt.bl,Z0);rw[List.map_map];rfl
 have e2:zaX 3 (zvT (zab 2) (dC (.bl true))) Z1=.ok (.nx,Z2):=by
  refine zaE (i:=3) (Z1:=Z1) ?_ (show 3<4 by decide);have i:=zmy (A:=A.map λx=>decide (x∈p)) (B:=B.map λx=>decide (x∈p)) λb hb=>by obtain ⟨x,hx,rfl⟩:=List.mem_map.mp hb;exact waw (hA x hx)
  rw[<- hms,List.length_map] at i;unfold zvT;simp only[zab,Z1,List.getElem?_cons_succ,List.getElem?_cons_zero,R.bind_ok,dC];rw[if_pos (by simp[okN]),i]
 refine zak (Z':=Z2) rfl ?_ rfl;refine (zag (Z1:=Z1) (zaE (Z1:=Z0) (zaL hc) (show 2<4 by decide))).trans ((zag e2).trans ?_);have elen:dFn zcb (dA (zab 1) dA0) Z2=.ok (.int (p.length:Nat),Z2):=zcf (d:=tz p) rfl (by simp[tz,zcb]);have hAl:A.length<=ms.length:=by rw[hms];simp
 have ecut:zlS (zab 2) (dO1 (zab 3)) (dO1 (dOp zeL (zab 3) (dFn zcb (dA (zab 1) dA0)))) Z2=.ok (((ms.drop A.length).take p.length).map .bl,Z2):=by refine (zoc (x:=ms.map .bl) (lo:=some (A.length:Int)) rfl rfl (zty (zao (d:=.int (A.length:Nat)) (e:=.int (p.length:Nat)) rfl elen rfl))).trans ?_;rw[zwn (by simpa using hAl),List.map_take,List.map_drop]
 refine zba (zao (zaL ecut) (zaL (zuf elen hl)) ?_);rw[zbt (zmO _ _) (zmO _ _),eqD,zke];simp only[Bool.false_eq_true,if_false];have hd:ms.drop A.length=(g::B).map λx=>decide (x∈p):=by show (row.map _).drop A.length=_;rw[e,<- List.map_drop,List.drop_left]
 have S:=zvw (p:=p) (A:=A) (g:=g) (B:=B) (e ▸ hr) hpn (e ▸ hp) hA hg;rw[<- e] at S;rw[hd,<- List.map_take];congr 2;rw[Bool.eq_iff_iff,beq_iff_eq,decide_eq_true_eq];exact S
noncomputable abbrev nI1:DT:=zgH (zcp (dTB (zhw "tuple" (zab 0)))) (zgH (dTB (dOp (gEq true) (dFn zcb (dA (zab 0) dA0)) (dC (.int 2)))) (zcp (dTB (zhw "tuple" (dOp gIx (zab 0) (dC (.int 1)))))))
noncomputable abbrev nI2:DT:=zgH (zcp (dTB (zhw "str" (dOp gIx (zab 0) (dC (.int 0)))))) (zgH (dTB (dOp (gIn true) (dOp gIx (zab 0) (dC (.int 0))) (zd1 (dA (dC (.str (Str.ofString "any"))) (dA (dC (.str (Str.ofString "row"))) dA0))))) (dTB (dOp gLt (dFn zcb (dA kid dA0)) (dC (.int 2)))))
noncomputable abbrev nI3:DT:=zk5 (dTB (dOp (gEq false) (dOp gIx (zab 0) (dC (.int 0))) (dC (.str (Str.ofString "row"))))) (dTB (dOp gLt (dFn zcb (dA kid dA0)) (dC (.int 3))))
theorem ztz(F:FD):zei F=zax (dIf (dTB (zhw "int" (zab 0))) (zbb (zai zc0 (dR (zab 0) dR0))) dNx) (zax (dIf nI1 (zbb (dC (.bl false))) dNx) (zax (dIf nI2 (zbb (dC (.bl false))) dNx) (zax (dIf nI3 (zbb (dC (.bl false))) dNx) (zbb (dOp (gEq false) (dFz (zbh (dIt kid) (zbr 1) (zcp (dTB (zai F (dR (zab 1) dR0)))) (zab 1) 1)) (dFz (zc7 dA0))))))):=rfl
theorem zlH:∀(n:Nat)(t:Tr),dep t<=n->Sm t->zbm n [.val (toD t)]=.ok (.bl true,[.val .non])
 |0,t,h,_=>by cases t <;> simp[dep] at h
 |n+1,.lf g,_,_=>rfl
 |n+1,.nd r bs,h,S=>by
  simp only[dep] at h;have hd:=zaS.mp (by omega:zdt bs<=n);obtain ⟨hk,hl,hne⟩:=zhB S;obtain ⟨_,_,h3⟩:=S.ok.kids;let Z:Ev:=[some (.val (toD (.nd r bs)))]
  have k0:kid Z=.ok (.tup (bs.map toD),Z):=by have:=zdS (r:=r) (bs:=bs) (Z:=Z) rfl;rw[zaY] at this;exact this
  have kl:dFn zcb (dA kid dA0) Z=.ok (.int (bs.length:Nat),Z):=zcf k0 (by simp[zcb]);have w0:=zsD (r:=r) (bs:=bs) (Z:=Z) rfl;show zav false [false] 0 (zei (zbm n)) _=_;refine zak (Z':=Z) rfl ?_ rfl;rw[ztz];have i1:nI1 Z=.ok (false,Z):=rfl;have i2:nI2 Z=.ok (false,Z):=by
   refine (zgE (Z1:=Z) rfl).trans ((zgE (Z1:=Z) ?_).trans ?_)
   ·refine za4 (zao (e:=.tup [.str (Str.ofString "any"),.str (Str.ofString "row")]) w0 rfl ?_);rw[(zgL (by rw[okN];exact zfK r) λd hd=>by
     rcases wap.mp hd with rfl|hd
     ·rw[okN];exact ziz
     ·rw[List.mem_singleton.mp hd,okN];exact zi3).1]
    have:inD (.str (wd r)) [.str (Str.ofString "any"),.str (Str.ofString "row")]=true:=by unfold inD;simp only[List.any_cons,List.any_nil,eqS];cases r <;> decide +kernel
    rw[this];rfl
   ·refine (za4 (zao (e:=.int 2) kl rfl (z:=.bl (decide (((bs.length:Nat):Int)<2))) rfl)).trans ?_;rw[decide_eq_false (by cases r <;> simp at h3 <;> omega)]
  have i3:nI3 Z=.ok (false,Z):=by
   have ir:=zwv (r:=r) (bs:=bs) (Z:=Z) rfl;cases r with
   |false=>exact zsm ir
   |true =>
    refine (zn6 ir).trans ((za4 (zao (e:=.int 3) kl rfl (z:=.bl (decide (((bs.length:Nat):Int)<3))) rfl)).trans ?_);rw[decide_eq_false (by simp at h3;omega)]
  refine (zag (Z1:=Z) rfl).trans ((zag (Z1:=Z) ((zbF i1).trans rfl)).trans ((zag (Z1:=Z) ((zbF i2).trans rfl)).trans ((zag (Z1:=Z) ((zbF i3).trans rfl)).trans (zba ?_))));have hi:dIt kid Z=.ok (bs.map toD,Z):=zpb rfl;have c:zbh (dIt kid) (zbr 1) (zcp (dTB (zai (zbm n) (dR (zab 1) dR0)))) (zab 1) 1 Z=.ok ((bs.filter λ_=>false).map toD,Z) :=
   zbw (u:=toD) (f:=toD) (p:=λ_=>false) (l:=bs) (ds:=bs.map toD) (Z0:=Z) hi rfl rfl xwo (λb hb=>zfJ (b:=true) (za4 (zdf (d:=toD b) rfl (zlH n b (hd b hb) (hk b hb))))) λb hb z=>by cases z
  have e0:(bs.filter λ_=>false)=[]:=List.filter_eq_nil_iff.mpr λ_ _ z=>by cases z
  rw[e0] at c;exact zao (e:=.lst []) (zaL c) rfl (by rw[zbt rfl rfl];simp only[Bool.false_eq_true,if_false,List.map_nil,zcq])
theorem zoj{fa:De}{Z Z1:Ev}{n:Nat}(h:fa Z=.ok (.int n,Z1))(hn:n<=1000):zjF fa Z=.ok ((zaW n).map .int,Z1):=by
 have hc:(0:Int)<=n/\(n:Int)<=16777216:=by lia
 unfold zjF;rw[h];show (if 0<=(n:Int)/\(n:Int)<=16777216 then R.ok (zch 0 (n:Int).toNat,Z1) else .no)=_;rw[if_pos hc,Int.toNat_natCast,zkM]
theorem znQ{n:Nat}{t:Tr}(h7:n<=7)(S:Sm t)(hp:(zad t).Perm (zaW n)):zcR [.val (.int (n:Nat)),.val (toD t)]=.ok (.bl true,[.val .non,.val .non]):=by
 have hl:=S.l;let Z:Ev:=[some (.val (.int (n:Nat))),some (.val (toD t))]
 refine zak (Z':=Z) rfl ?_ rfl;refine zba ?_;have e1:zai (zbm 8) (dR (zab 1) dR0) Z=.ok (.bl true,Z):=zdf (d:=toD t) rfl (zlH 8 t (waN S.d xwd) S);have hs:zaK (zad t)=zaW n:=zjO.mpr ⟨S.ok.n,λx hx=>zcw.mp (hp.mem_iff.mp hx),by rw[hp.length_eq,zbB]⟩;have e2:dOp (gEq false) (dFz (zem zbl (dA (zai (zaI 8) (dR (zab 1) dR0)) dA0))) (dFz (zjF (zab 0))) Z=.ok (.bl true,Z):=by refine zao (Z1:=Z) (zaL (zhs (zdf (d:=toD t) rfl (zeF 8 t (waN S.d xwd) xwo)) (zha xwo))) (zaL (zoj (n:=n) rfl xwo)) ?_;rw[zbt (ziI _) (ziI _),ztV,hs];simp
 show zql (zai (zbm 8) (dR (zab 1) dR0)) (dOp (gEq false) (dFz (zem zbl (dA (zai (zaI 8) (dR (zab 1) dR0)) dA0))) (dFz (zjF (zab 0)))) Z=_;unfold zql;rw[e1];exact e2
variable{p:List Int}{n:Nat}{t:Tr}
theorem zoK:∀ l:List Tr,(∀ t∈l,eqD (toD t) (toD t)=true)->zg6 (l.map toD) (l.map toD)=true
 |[],_=>by simp[zg6]
 |a::l,h=>by rw[List.map_cons,zg6,h a xws,zoK l λt ht=>h t (by simp[ht])];rfl
theorem zqZ:∀(n:Nat)(a:Tr),dep a<=n->eqD (toD a) (toD a)=true
 |_,.lf i,_=>by simp[toD,eqD]
 |0,.nd r l,h=>by simp[dep] at h
 |n+1,.nd r l,h=>by have ih:=zoK l λt ht=>zqZ n t (zaS.mp (by simpa [dep] using h) t ht);simp only[toD,zaY,eqD,zg6,Bool.and_true,wae];exact ⟨xws,ih⟩
theorem zod:∀ l:List (List Int),zg6 (lp l) (lp l)=true
 |[]=>by simp[lp,zg6]
 |a::l=>by have:=zod l;unfold lp at this ⊢;rw[List.map_cons,zg6,zqs,this];simp
theorem zkl(l:List (List Int)):okN 60 (.lst (lp l))=true:=by rw[okN,List.all_eq_true];intro d hd;obtain ⟨q,_,rfl⟩:=List.mem_map.mp hd;unfold tz;rw[okN,List.all_eq_true];intro d hd;obtain ⟨i,_,rfl⟩:=List.mem_map.mp hd;rfl
structure Dr(n:Nat)(t:Tr):Prop where
 n1:1<=n
 n6:n<=6
 s:Sm t
 l:(zad t).Perm (zaW n)
theorem zme(h:Pty n p):p.Nodup:=h.2.1.imp λq=>Int.ne_of_lt q
theorem zrI(D:Dr n t)(h:Pty n p):p.length<=1000:=by have:p.length<=(zaW n).length:=(zme h).length_le_of_subset λx hx=>zcw.mpr (h.2.2 x hx);rw[zbB] at this;have:=D.n6;omega
theorem zmh(D:Dr n t)(h:Pty n p):sh p t≠0:=λz=>by obtain ⟨h1,h2,h3⟩:=h;obtain ⟨x,q,rfl⟩:=waI h1;exact (zpi.mp z) x (D.l.mem_iff.mpr (zcw.mpr (h3 x xws))) xws
theorem zgR{u:Tr}(D:Dr n t)(O:zbQ u)(hl:(zad u).Perm (zad t)):Dr n (zaj u)/\zaj (zaj u)=zaj u/\∀ x,x∈zaq (zaj u) ↔ x∈zaq u:=by have w:=zeD _ u (wal _);obtain ⟨f1,f2,f3⟩:=zif _ u _ (wal _) w;refine ⟨⟨D.n1,D.n6,⟨⟨by rw[f1];exact O.o,f2.nodup_iff.mpr O.n⟩,?_⟩,f2.trans (hl.trans D.l)⟩,zlX _ u _ (wal _) w O.o O.n,λx=>(ziD _ u _ (wal _) w x).symm⟩;rw[f2.length_eq,hl.length_eq];exact D.s.l
noncomputable def rws(n:Nat)(t:Tr):List (List Int):=(zbo n n).filter λr=>decide (r∈zaq t)
theorem zkS(D:Dr n t){r:List Int}:r∈rws n t ↔ r∈zaq t:=by unfold rws;rw[List.mem_filter,decide_eq_true_eq,zeG];exact ⟨λh=>h.2,λh=>⟨(zat h).trans D.l,h⟩⟩
theorem zy6(D:Dr n t):rws n t≠[]:=λz=>by have:=zhZ _ t (wal _);obtain ⟨r,hr⟩:=List.exists_mem_of_length_pos (by omega:0<(zaq t).length);have:=(zkS D).mpr hr;rw[z] at this;cases this
theorem zvb(D:Dr n t):(rws n t).length<=1000:=by have h1:(rws n t).length<=(zbo n n).length:=List.length_filter_le _ _;have:=zhU n D.n6 n (wal _);omega
theorem zkO(D:Dr n t):zbj [.val (toD t),.val (.lst (lp (zbo n n)))]=.ok (.lst (lp (rws n t)),[.val .non,.val .non]) :=
 zvO (waN D.s.d xwd) D.s.ok.o D.s.ok.n D.s.l (by have:=zhU n D.n6 n (wal _);omega) λr hr=>(zeG.mp hr).trans D.l.symm
theorem zzs{u:Tr}(D:Dr n u):okN 60 (toD u)=true:=zpm (zzB (waN D.s.d xwd)) xwd
theorem zpU(D:Dr n t):zdN [.val (.int (n:Nat)),.val (toD t)]=.ok (toD (zaj t),[.val .non,.val .non]):=by
 have hl:=D.s.l;have h1:=D.n1;have h6:=D.n6;let Z0:Ev:=[some (.val (.int (n:Nat))),some (.val (toD t))]
 refine zak (Z':=Z0) rfl ?_ rfl;exact (zag (Z1:=Z0) (zeY (zdf (d:=.int (n:Nat)) rfl (zkU xwl xwl)))).trans (zba (zdf (d:=toD t) rfl (zl1 8 t (wal _) (waN D.s.d xwd) D.s.ok.o D.s.ok.n xwl)))
noncomputable def nbr:List Tr->List (List Int)
 |a::b::r=>zaK (zad a++zad b)::nbr (b::r)
 |_=>[]
mutual
noncomputable def bp:Tr->List (List Int)
 |.lf _=>[]
 |.nd r l=>(if r then nbr l else [zaK (zae l)])++bps l
noncomputable def bps:List Tr->List (List Int)
 |[]=>[]
 |t::r=>bp t++bps r
end
theorem zkB{p:List Int}:∀{l:List Tr},p∈bps l ↔ ∃ t∈l,p∈bp t
 |[]=>by simp[bps]
 |t::r=>by simp[bps,zkB (l:=r)]
theorem zqx{L s:List Int}(hs:s.Nodup)(hL:L.Nodup)(hsub:∀ g∈L,g∈s):Ct (zaK L) s ↔ ∃ u x v,s=u++x++v/\x.Perm L:=by
 have hm:∀ g,g∈zaK L ↔ g∈L:=λg=>(zaw L).mem_iff;constructor
 ·rintro ⟨u,x,v,rfl,h1,h2,h3⟩;refine ⟨u,x,v,rfl,(List.perm_ext_iff_of_nodup ((List.nodup_append.mp (List.nodup_append.mp hs).1).2.1) hL).mpr λg=>⟨λh=>(hm g).mp (h2 g h),λh=>?_⟩⟩;rcases wax.mp (hsub g h) with q|q
  ·rcases wax.mp q with q|q
   ·exact absurd ((hm g).mpr h) (h1 g q)
   ·exact q
  ·exact absurd ((hm g).mpr h) (h3 g q)
 ·rintro ⟨u,x,v,rfl,h⟩;rw[List.nodup_append] at hs;obtain ⟨a1,a2,a3⟩:=hs;rw[List.nodup_append] at a1;refine ⟨u,x,v,rfl,λg hg z=>a1.2.2 g hg g (h.mem_iff.mpr ((hm g).mp z)) rfl,λg hg=>(hm g).mpr (h.mem_iff.mp hg),λg hg z=>a3 g (waz _ (h.mem_iff.mpr ((hm g).mp z))) g hg rfl⟩
theorem zkJ{s a z c a' c':List Int}(hs:s.Nodup)(hz:z≠[])(e:s=a++z++c)(e':s=a'++z++c'):a=a'/\c=c':=by
 obtain ⟨g,z,rfl⟩:=waI hz;have h1:=zfe (g:=g) (y:=[g]) (a:=a) (c:=z++c) hs (by rw[e];simp) xws;have h2:=zfe (g:=g) (y:=[g]) (a:=a') (c:=z++c') hs (by rw[e'];simp) xws;simp only[wan,List.length_nil] at h1 h2;have h3:a++((g::z)++c)=a'++((g::z)++c'):=by rw[<- List.append_assoc,<- e,e',List.append_assoc]
 obtain ⟨q1,q2⟩:=List.append_inj h3 xwo;exact ⟨q1,List.append_cancel_left q2⟩
noncomputable def Adj(s y z:List Int):Prop:=∃ a c,s=a++(y++z)++c
theorem zx5{s y z:List Int}(hs:s.Nodup)(hy:∃ a c,s=a++y++c)(hz:∃ a c,s=a++z++c)(hyn:y≠[])(hzn:z≠[])(dj:∀ g∈y,g∉z)(C:∃ u x v,s=u++x++v/\x.Perm (y++z)):Adj s y z\/Adj s z y:=by
 obtain ⟨u,x,v,e,hp⟩:=C;obtain ⟨a,c,ey⟩:=hy;obtain ⟨d,f,ez⟩:=hz;have hn:(u++x++v).Nodup:=by rw[<- e];exact hs
 have hxn:x.Nodup:=(List.nodup_append.mp (List.nodup_append.mp hn).1).2.1;obtain ⟨a',b',e1⟩:=zgC hn (e.symm.trans ey) (λg hg=>hp.mem_iff.mpr (by simp[hg])) hyn;obtain ⟨d',f',e2⟩:=zgC hn (e.symm.trans ez) (λg hg=>hp.mem_iff.mpr (by simp[hg])) hzn;have inz:∀ g,g∈a'\/g∈b'->g∈z:=λg hg=>by
  have h1:g∈x:=by rw[e1];rcases hg with q|q <;> simp[q]
  rcases wax.mp (hp.mem_iff.mp h1) with q|q
  ·exfalso;rw[e1,List.append_assoc,List.nodup_append,List.nodup_append] at hxn;rcases hg with w|w
   ·exact hxn.2.2 g w g (by simp[q]) rfl
   ·exact hxn.2.1.2.2 g q g w rfl
  ·exact q
 have hlen:a'.length+b'.length=z.length:=by have:=hp.length_eq;rw[e1] at this;simp only[wav] at this;omega
 have hone:a'=[]\/b'=[]:=by refine Classical.byContradiction λq=>?_;have q1:a'≠[]:=λz=>q (.inl z);have q2:b'≠[]:=λz=>q (.inr z);obtain ⟨g,g1⟩:=List.exists_mem_of_ne_nil _ q1;obtain ⟨h,h1⟩:=List.exists_mem_of_ne_nil _ q2;obtain ⟨k,k1⟩:=List.exists_mem_of_ne_nil _ hyn;exact dj k k1 (zny hxn e1 e2 g1 k1 h1 (inz g (.inl g1)) (inz h (.inr h1)))
 have key:∀{A B q:List Int},x=A++q++B->(∀ g∈z,g∈q)->q.length=z.length->q=z:=λ{A B q} e3 h1 h2=>by obtain ⟨m,n,e4⟩:=zgC (u:=A) (x:=q) (v:=B) (a:=d') (y:=z) (b:=f') (by rw[<- e3];exact hxn) (by rw[<- e3];exact e2) h1 hzn;rw[e4] at h2 ⊢;simp only[wav] at h2;have h3:m=[]:=List.length_eq_zero_iff.mp xwo;have h4:n=[]:=List.length_eq_zero_iff.mp xwo;rw[h3,h4];simp
 have all:∀ g∈z,g∈a'\/g∈b':=λg hg=>by
  have:g∈x:=hp.mem_iff.mpr (by simp[hg]);rw[e1] at this;rcases wax.mp this with q|q
  ·rcases wax.mp q with q|q
   ·exact .inl q
   ·exact absurd hg (dj g q)
  ·exact .inr q
 rcases hone with rfl|rfl
 ·have:=key (A:=y) (B:=[]) (q:=b') (by rw[e1];simp) (λg hg=>(all g hg).elim (λz=>by cases z) id) (by simpa using hlen);subst this;exact .inl ⟨u,v,by rw[e,e1];simp⟩
 ·have:=key (A:=[]) (B:=y) (q:=a') (by rw[e1];simp) (λg hg=>(all g hg).elim id λz=>by cases z) (by simpa using hlen);subst this;exact .inr ⟨u,v,by rw[e,e1];simp⟩
noncomputable def Ch(s:List Int):List (List Int)->Prop
 |y::z::r=>(Adj s y z\/Adj s z y)/\Ch s (z::r)
 |_=>True
theorem zyt{a b c d:List Int}(h:a++b=c++d)(ha:a≠[])(hc:c≠[]):∃ g∈a,g∈c:=by obtain ⟨x,a,rfl⟩:=waI ha;obtain ⟨y,c,rfl⟩:=waI hc;exact ⟨x,xws,by simp[(List.cons.inj (by simpa using h:x::(a++b)=y::(c++d))).1]⟩
theorem zy4{a b c d:List Int}(h:b++a=d++c)(ha:a≠[])(hc:c≠[]):∃ g∈a,g∈c:=by have h':=congrArg List.reverse h;rw[List.reverse_append,List.reverse_append] at h';obtain ⟨g,h1,h2⟩:=zyt h' (by simpa using ha) (by simpa using hc);exact ⟨g,by simpa using h1,by simpa using h2⟩
theorem zxZ{s:List Int}(hs:s.Nodup):∀{ys:List (List Int)},2<=ys.length->(∀ y∈ys,y≠[])->ys.flatten.Nodup->Ch s ys->(∃ a c,s=a++ys.flatten++c)\/∃ a c,s=a++ys.reverse.flatten++c
 |[],h,_,_,_=>by simp at h
 |[_],h,_,_,_=>by simp at h
 |[y,z],_,_,_,⟨h,_⟩=>by
  rcases h with ⟨a,c,e⟩|⟨a,c,e⟩
  ·exact .inl ⟨a,c,by rw[e];simp⟩
  ·exact .inr ⟨a,c,by rw[e];simp⟩
 |y::z::w::r,_,ne,nd,⟨h,hr⟩=>by
  have hy:=ne y xws;have hz:=ne z xws;have hw:=ne w xws;rw[List.flatten_cons,List.nodup_append] at nd;have dj:∀ g∈y,g∉w:=λg h1 h2=>nd.2.2 g h1 g (by simp[h2]) rfl;rcases zxZ hs (ys:=z::w::r) xws (λy hy=>ne y (by simp[hy])) nd.2.1 hr with ⟨a,c,e⟩|⟨a,c,e⟩
  ·have e':s=a++z++(w++(r.flatten++c)):=by rw[e];simp
   rcases h with ⟨d,f,q⟩|⟨d,f,q⟩
   ·obtain ⟨q1,q2⟩:=zkJ hs hz e' (by rw[q];simp:s=(d++y)++z++f);exact .inl ⟨d,c,by rw[e,q1];simp⟩
   ·obtain ⟨q1,q2⟩:=zkJ hs hz e' (by rw[q];simp:s=d++z++(y++f));obtain ⟨g,h1,h2⟩:=zyt q2 hw hy;exact absurd h1 (dj g h2)
  ·have e':s=(a++r.reverse.flatten++w)++z++c:=by rw[e];simp
   rcases h with ⟨d,f,q⟩|⟨d,f,q⟩
   ·obtain ⟨q1,q2⟩:=zkJ hs hz e' (by rw[q];simp:s=(d++y)++z++f);obtain ⟨g,h1,h2⟩:=zy4 q1 hw hy;exact absurd h1 (dj g h2)
   ·obtain ⟨q1,q2⟩:=zkJ hs hz e' (by rw[q];simp:s=d++z++(y++f));exact .inr ⟨a,f,by rw[e,q2];simp⟩
theorem zyI{t:Tr}{u x v:List Int}(h:Seg t x):Seg t (u++x++v):=by obtain ⟨a,y,c,rfl,h⟩:=h;exact ⟨u++a,y,c++v,xws,h⟩
theorem zwa{p s:List Int}(h:Ct p s.reverse):Ct p s:=by obtain ⟨u,x,v,e,h1,h2,h3⟩:=h;exact ⟨v.reverse,x.reverse,u.reverse,by rw[<- List.reverse_reverse s,e];simp,by simpa using h3,by simpa using h2,by simpa using h1⟩
theorem zrK{s:List Int}(hs:s.Nodup):∀{ys:List (List Int)}{bs:List Tr}{u v:List Int},Paired (λy t=>y∈zaq t) ys bs->s=u++ys.flatten++v->∀ p∈nbr bs,Ct p s
 |_,[],_,_,_,_,p,h=>by simp[nbr] at h
 |_,[_],_,_,_,_,p,h=>by simp[nbr] at h
 |_,b::b'::r,u,v,.cons (a:=y) h1 (.cons (a:=y') (l₁:=q) h2 h3),e,p,h=>by
  simp only[nbr,wap] at h;rcases h with rfl|h
  ·have hp:=(zat h1).append (zat h2);have e':s=u++(y++y')++(q.flatten++v):=by rw[e];simp
   have hn:(y++y').Nodup:=by rw[e'] at hs;exact (List.nodup_append.mp (List.nodup_append.mp hs).1).2.1
   exact (zqx hs (hp.nodup_iff.mp hn) λg hg=>by rw[e'];simp only[wax];exact .inl (.inr (wax.mp (hp.mem_iff.mpr hg)))).mpr ⟨u,_,_,e',hp⟩
  ·exact zrK hs (ys:=y'::q) (bs:=b'::r) (u:=u++y) (v:=v) (.cons h2 h3) (by rw[e];simp) p h
theorem zxi{s:List Int}(hs:s.Nodup):∀{ys:List (List Int)}{bs:List Tr},Paired (λy t=>y∈zaq t/\∃ a c,s=a++y++c) ys bs->zfm bs->(∀ p∈nbr bs,Ct p s)->Ch s ys
 |_,[],.nil,_,_=>trivial
 |_,[_],.cons _ .nil,_,_=>trivial
 |_,b::b'::r,.cons (a:=y) h1 (.cons (a:=y') (l₁:=q) h2 h3),A,hp=>by
  have p1:=zat h1.1;have p2:=zat h2.1;have hnd:(zad b++zad b').Nodup:=by have:=A.nd;simp only[zae,<- List.append_assoc] at this;exact (List.nodup_append.mp this).1
  have dj:=(List.nodup_append.mp hnd).2.2;refine ⟨zx5 hs h1.2 h2.2 (λz=>A.ne b xws (by subst z;exact p1.symm.eq_nil)) (λz=>A.ne b' xws (by subst z;exact p2.symm.eq_nil)) (λg g1 g2=>dj g (p1.mem_iff.mp g1) g (p2.mem_iff.mp g2) rfl) ?_,zxi hs (ys:=y'::q) (bs:=b'::r) (.cons h2 h3) ⟨by have:=A.nd;simp only[zae] at this;exact (List.nodup_append.mp this).2.1,λt ht=>A.ne t (by simp[ht])⟩ λp h=>hp p (by simp[nbr,h])⟩;obtain ⟨u,x,v,e,h⟩:=(zqx hs hnd λg hg=>by
   rcases wax.mp hg with q|q
   ·obtain ⟨a,c,e⟩:=h1.2;rw[e];simp[p1.mem_iff.mpr q]
   ·obtain ⟨a,c,e⟩:=h2.2;rw[e];simp[p2.mem_iff.mpr q]).mp (hp _ (by simp[nbr]))
  exact ⟨u,x,v,e,h.trans (p1.append p2).symm⟩
theorem zuO{s:List Int}:∀{bs:List Tr},(∀ b∈bs,Seg b s)->∃ ys,Paired (λy t=>y∈zaq t/\∃ a c,s=a++y++c) ys bs
 |[],_=>⟨[],.nil⟩
 |b::r,h=>by obtain ⟨ys,q⟩:=zuO (bs:=r) λt ht=>h t (wah _ ht);obtain ⟨a,y,c,e,hy⟩:=h b xws;exact ⟨y::ys,.cons ⟨hy,a,c,e⟩ q⟩
theorem zl8{F:List Int->Tr->Prop}:∀{ys:List (List Int)}{bs:List Tr},Paired F ys bs->∀ y∈ys,∃ t∈bs,F y t
 |_,_,.nil,y,h=>by cases h
 |_,_,.cons h1 h2,y,h=>by
  rcases wap.mp h with rfl|h
  ·exact ⟨_,xws,h1⟩
  ·obtain ⟨t,q1,q2⟩:=zl8 h2 y h;exact ⟨t,by simp[q1],q2⟩
theorem zrq:∀(n:Nat)(t:Tr),dep t<=n->zbQ t->∀ s:List Int,s.Nodup->(∀ g∈zad t,g∈s)->((∀ p∈bp t,Ct p s) ↔ Seg t s)
 |0,t,h,_,_,_,_=>by cases t <;> simp[dep] at h
 |n+1,.lf g,_,_,s,_,hg=>by simp only[bp,wak,false_imp_iff,implies_true,true_iff];obtain ⟨a,c,e⟩:=List.append_of_mem (hg g (by simp[zad]));exact ⟨a,[g],c,by rw[e];simp,by simp[zaq]⟩
 |n+1,.nd r bs,hd,H,s,hs,hsub=>by
  obtain ⟨A,hk,hl⟩:=H.kids;have hd':∀ b∈bs,dep b<=n:=zaS.mp (by simpa [dep] using hd);have kids:(∀ p∈bps bs,Ct p s) ↔ ∀ b∈bs,Seg b s :=
   ⟨λh b hb=>(zrq n b (hd' b hb) (hk b hb) s hs λg hg=>hsub g (zaB.mpr ⟨b,hb,hg⟩)).mp λp hp=>h p (zkB.mpr ⟨b,hb,hp⟩),
     λh p hp=>by
    obtain ⟨b,hb,q⟩:=zkB.mp hp;exact (zrq n b (hd' b hb) (hk b hb) s hs λg hg=>hsub g (zaB.mpr ⟨b,hb,hg⟩)).mpr (h b hb) p q⟩
  have toKids:Seg (.nd r bs) s->∀ b∈bs,Seg b s:=λ⟨u,x,v,e,hx⟩ b hb=>by rw[e];exact zyI (znL hx hb)
  cases r with
  |false =>
   have cs:=zqx hs A.nd hsub;simp only[bp,Bool.false_eq_true,if_false,wax,List.mem_singleton];constructor
   ·intro h;obtain ⟨u,x,v,e,hx⟩:=cs.mp (h _ (.inl rfl));have ks:=kids.mp λp hp=>h p (.inr hp);obtain ⟨p,hp,hm⟩:=zoT _ bs x rfl A hx λb hb=>by obtain ⟨a,y,c,e',hy⟩:=ks b hb;have py:=zat hy;obtain ⟨a',c',q⟩:=zgC (by rw[<- e];exact hs) (e.symm.trans e') (λg hg=>hx.mem_iff.mpr (zaB.mpr ⟨b,hb,py.mem_iff.mp hg⟩)) (λz=>A.ne b hb (by subst z;exact py.symm.eq_nil));exact ⟨a',y,c',q,hy⟩
    exact ⟨u,x,v,e,zaG.mpr ⟨p,znN.mpr hp,hm⟩⟩
   ·intro h p hp;rcases hp with rfl|hp
    ·obtain ⟨u,x,v,e,hx⟩:=h;exact cs.mpr ⟨u,x,v,e,zat hx⟩
    ·exact kids.mpr (toKids h) p hp
  |true =>
   simp only[bp,if_true,wax];constructor
   ·intro h;obtain ⟨ys,q⟩:=zuO (kids.mp λp hp=>h p (.inr hp));have q':Paired (λy t=>y∈zaq t) ys bs:=zeu (λ_ _ z=>z.1) q;have hf:ys.flatten.Perm (zae bs):=zjd ⟨ys,q',rfl⟩;have hlen:ys.length=bs.length:=Paired.length q';have hne:∀ y∈ys,y≠[]:=λy hy=>by obtain ⟨t,ht,h1⟩:=zl8 q' y hy;intro z;exact A.ne t ht (by subst z;exact (zat h1).symm.eq_nil)
    rcases zxZ hs (by rw[hlen];simp at hl;omega) hne (hf.nodup_iff.mpr A.nd) (zxi hs q A λp hp=>h p (.inl hp)) with ⟨a,c,e⟩|⟨a,c,e⟩
    ·exact ⟨a,_,c,e,zaG.mpr ⟨bs,zhq.mpr (.inl rfl),ys,q',rfl⟩⟩
    ·exact ⟨a,_,c,e,zaG.mpr ⟨bs.reverse,zhq.mpr (.inr rfl),ys.reverse,Lw.paired_rev q',rfl⟩⟩
   ·intro h p hp;rcases hp with hp|hp
    ·obtain ⟨u,x,v,e,hx⟩:=h;obtain ⟨o,ho,ys,q,ex⟩:=zaG.mp hx;rcases zhq.mp ho with rfl|rfl
     ·exact zrK hs q (by rw[e,ex]) p hp
     ·have q3:=Lw.paired_rev (zgo (F:=λy t=>y∈zaq t) (F':=λy t=>y∈zaq t) (g:=List.reverse) q λa b hab=>zgU hab);rw[List.reverse_reverse] at q3;refine zwa (zrK (s:=s.reverse) ((List.reverse_perm s).nodup_iff.mpr hs) (u:=v.reverse) (v:=u.reverse) q3 ?_ p hp);rw[e,<- ex];simp[List.reverse_flatten,List.map_reverse]
    ·exact kids.mpr (toKids h) p hp
theorem zru{t:Tr}(O:zbQ t){r:List Int}(hr:r.Perm (zad t)):r∈zaq t ↔ ∀ p∈bp t,Ct p r:=by rw[zrq _ t (Nat.le_refl _) O r (hr.nodup_iff.mpr O.n) λg hg=>hr.mem_iff.mpr hg];refine ⟨λh=>⟨[],r,[],xws,h⟩,λ⟨u,x,v,e,hx⟩=>?_⟩;have:=hr.length_eq;rw[<- (zat hx).length_eq,e] at this;simp only[wav] at this;have h3:u=[]:=List.length_eq_zero_iff.mp xwo;have h4:v=[]:=List.length_eq_zero_iff.mp xwo;rw[e,h3,h4];simpa using hx
theorem zvx{L:List Int}(h:L.Nodup):(zaK L).Pairwise (· < ·) :=
 List.Pairwise.imp₂ (λa b hab hne=>by omega) (zbO L) ((zaw L).nodup_iff.mpr h)
noncomputable def Pg(L p:List Int):Prop:=p≠[]/\p.Pairwise (· < ·)/\∀ x∈p,x∈L
theorem zyE{L M:List Int}(hn:M.Nodup)(hne:M≠[])(hs:∀ x∈M,x∈L):Pg L (zaK M) :=
 ⟨λz=>hne (by have:=zaw M;rw[z] at this;exact this.symm.eq_nil),zvx hn,λx hx=>hs x ((zaw M).mem_iff.mp hx)⟩
theorem zuJ:∀{bs:List Tr},zfm bs->∀ p∈nbr bs,Pg (zae bs) p
 |[],_,p,h=>by simp[nbr] at h
 |[_],_,p,h=>by simp[nbr] at h
 |b::b'::r,A,p,h=>by
  have hn:=A.nd;simp only[zae,<- List.append_assoc] at hn;simp only[nbr,wap] at h;rcases h with rfl|h
  ·exact zyE (List.nodup_append.mp hn).1 (λz=>A.ne b xws (List.append_eq_nil_iff.mp z).1) λx hx=>by simp only[zae,<- List.append_assoc];exact waR _ hx
  ·obtain ⟨h1,h2,h3⟩:=zuJ (bs:=b'::r) ⟨by have:=A.nd;simp only[zae] at this;exact (List.nodup_append.mp this).2.1,λt ht=>A.ne t (by simp[ht])⟩ p h;exact ⟨h1,h2,λx hx=>by rw[zae];exact waz _ (h3 x hx)⟩
theorem zxK:∀(n:Nat)(t:Tr),dep t<=n->zbQ t->∀ p∈bp t,Pg (zad t) p
 |0,t,h,_,_,_=>by cases t <;> simp[dep] at h
 |n+1,.lf g,_,_,p,h=>by simp[bp] at h
 |n+1,.nd r bs,hd,H,p,h=>by
  obtain ⟨A,hk,hl⟩:=H.kids;have hd':∀ b∈bs,dep b<=n:=zaS.mp (by simpa [dep] using hd);rw[bp,List.mem_append] at h;rcases h with h|h
  ·cases r with
   |false =>
    simp only[Bool.false_eq_true,if_false,List.mem_singleton] at h;subst h;refine zyE A.nd (λz=>?_) λx hx=>hx;obtain ⟨b,q,rfl⟩:=waI (λz=>by subst z;simp at hl:bs≠[]);rw[zae] at z;exact A.ne b xws (List.append_eq_nil_iff.mp z).1
   |true=>exact zuJ A p (by simpa using h)
  ·obtain ⟨b,hb,q⟩:=zkB.mp h;obtain ⟨h1,h2,h3⟩:=zxK n b (hd' b hb) (hk b hb) p q;exact ⟨h1,h2,λx hx=>zaB.mpr ⟨b,hb,h3 x hx⟩⟩
theorem znp:∀ bs:List Tr,(nbr bs).length=bs.length-1
 |[]=>rfl
 |[_]=>rfl
 |b::b'::r=>by simp[nbr,znp (b'::r)]
theorem zoi:∀{l:List Tr},(∀ t∈l,(bp t).length+1<=(zad t).length)->(bps l).length+l.length<=(zae l).length
 |[],_=>by simp[bps]
 |t::r,h=>by have h1:=h t xws;have h2:=zoi λt ht=>h t (wah _ ht);simp only[bps,zae,wav,wan];omega
theorem zri:∀(n:Nat)(t:Tr),dep t<=n->zbQ t->(bp t).length+1<=(zad t).length
 |0,t,h,_=>by cases t <;> simp[dep] at h
 |n+1,.lf g,_,_=>by simp[bp,zad]
 |n+1,.nd r bs,hd,H=>by
  obtain ⟨A,hk,hl⟩:=H.kids;have hd':∀ b∈bs,dep b<=n:=zaS.mp (by simpa [dep] using hd);have h1:=zoi λb hb=>zri n b (hd' b hb) (hk b hb);rw[bp,zad,List.length_append];cases r with
  |false=>simp at hl ⊢;omega
  |true=>simp[znp] at hl ⊢;omega
section
variable{n:Nat}{t a b:Tr}
theorem zh6(D:Dr n t){p:List Int}(h:p∈bp t):Pty n p:=by obtain ⟨h1,h2,h3⟩:=zxK _ t (wal _) D.s.ok p h;exact ⟨h1,h2,λx hx=>zcw.mp (D.l.mem_iff.mp (h3 x hx))⟩
noncomputable def tbF:List (List Int)->Tr->Option Tr
 |[],t=>some t
 |p::ps,t=>match zcy 8 p t with
  |none=>none
  |some u=>tbF ps (zaj u)
structure TbOK(n:Nat)(ps:List (List Int))(t:Tr)(o:Option Tr):Prop where
 yes:∀ u,o=some u->Dr n u/\zaj u=u/\∀ r,r∈zaq u ↔ r∈zaq t/\∀ p∈ps,Ct p r
 no:o=none->∀ r∈zaq t,¬ ∀ p∈ps,Ct p r
theorem zym:∀{ps:List (List Int)}{t:Tr},Dr n t->zaj t=t->(∀ p∈ps,Pty n p)->TbOK n ps t (tbF ps t)
 |[],t,D,hl,_=>⟨λu e=>by cases e;exact ⟨D,hl,λr=>by simp⟩,λe=>by cases e⟩
 |p::ps,t,D,hl,hp=>by
  have T:=zg5 8 t (wal _) (waN D.s.d xwd) D.s.ok (zmh D (hp p xws));unfold tbF;cases e:zcy 8 p t with
  |none=>exact ⟨(λu z=>by cases z),λ_ r hr z=>T.no e r hr (z p xws)⟩
  |some u =>
   obtain ⟨O,hlv,hr⟩:=T.yes u e;obtain ⟨D',h2,h3⟩:=zgR D O hlv;have I:=zym (ps:=ps) D' h2 λq hq=>hp q (by simp[hq]);have key:∀ r,(r∈zaq (zaj u)/\∀ q∈ps,Ct q r) ↔ r∈zaq t/\∀ q∈p::ps,Ct q r:=λr=>by rw[h3,hr];simp only[wap,forall_eq_or_imp,and_assoc]
   exact ⟨λv ev=>⟨(I.yes v ev).1,(I.yes v ev).2.1,λr=>((I.yes v ev).2.2 r).trans (key r)⟩,λev r hr' z=>by obtain ⟨q1,q2⟩:=(key r).mpr ⟨hr',z⟩;exact I.no ev r q1 q2⟩
noncomputable def boF(a b:Tr):Option Tr:=tbF (bp b) (zaj a)
structure BoOK(n:Nat)(a b:Tr)(o:Option Tr):Prop where
 yes:∀ u,o=some u->Dr n u/\zaj u=u/\∀ r,r∈zaq u ↔ r∈zaq a/\r∈zaq b
 no:o=none->∀ r∈zaq a,r∉zaq b
theorem zsp(Da:Dr n a)(Db:Dr n b):BoOK n a b (boF a b):=by
 obtain ⟨D',h2,h3⟩:=zgR Da Da.s.ok (.refl _);have I:=zym D' h2 λp hp=>zh6 Db hp;have key:∀ r,(r∈zaq (zaj a)/\∀ p∈bp b,Ct p r) ↔ r∈zaq a/\r∈zaq b:=λr=>by rw[h3];exact and_congr_right λh=>(zru Db.s.ok ((zat h).trans (Da.l.trans Db.l.symm))).symm
 exact ⟨λu e=>⟨(I.yes u e).1,(I.yes u e).2.1,λr=>((I.yes u e).2.2 r).trans (key r)⟩,λe r h1 h2=>by obtain ⟨q1,q2⟩:=(key r).mpr ⟨h1,h2⟩;exact I.no e r q1 q2⟩
theorem zoS(D:Dr n t):∃ r,r∈zaq t:=List.exists_mem_of_length_pos (zhZ _ t (wal _))
theorem zvK(Da:Dr n a)(Db:Dr n b):boF a b=boF b a:=by
 have I:=zsp Da Db;have J:=zsp Db Da;cases e1:boF a b with
 |none =>
  cases e2:boF b a with
  |none=>rfl
  |some v =>
   obtain ⟨r,hr⟩:=zoS (J.yes v e2).1;obtain ⟨q1,q2⟩:=((J.yes v e2).2.2 r).mp hr;exact absurd q1 (I.no e1 r q2)
 |some u =>
  obtain ⟨D1,l1,r1⟩:=I.yes u e1;cases e2:boF b a with
  |none =>
   obtain ⟨r,hr⟩:=zoS D1;obtain ⟨q1,q2⟩:=(r1 r).mp hr;exact absurd q1 (J.no e2 r q2)
  |some v =>
   obtain ⟨D2,l2,r2⟩:=J.yes v e2;rw[<- l1,<- l2,(zpz D2.s.ok D1.s.ok).mp λr=>by rw[r1,r2,and_comm]]
end
variable{n:Nat}{t a b:Tr}
noncomputable abbrev yB:DS:=zax (zaX 3 (zai zb5 (dR (zab 0) (dR (zab 3) (dR (zab 4) dR0))))) (dIf (zl6 true (zab 3)) (zbb (dC .non)) dNx)
theorem zss(t:Tr):zn1 (toD t)=false:=by cases t <;> rfl
theorem zq3{T P:Option B}:∀{ps:List (List Int)}{t:Tr}{o:Option B},Dr n t->(∀ p∈ps,Pty n p)->∃ o3 o4,zps (zbr 4) yB (lp ps) [some (.val (.int n)),T,P,some (.val (toD t)),o]=.ok (match tbF ps t with|none=>.rt .non|some _=>.nx,[some (.val (.int n)),T,P,o3,o4])/\∀ u,tbF ps t=some u->o3=some (.val (toD u))
 |[],t,o,_,_=>⟨some (.val (toD t)),o,rfl,λu e=>by cases e;rfl⟩
 |p::ps,t,o,D,hp=>by
  let N:Option B:=some (.val (.int n));have hpp:=hp p xws;have T8:=zg5 8 t (wal _) (waN D.s.d xwd) D.s.ok (zmh D hpp);have TE:=zfY (p:=p) D.n1 (waN D.n6 xwd) D.s (zmh D hpp);let r1:Ev:=[N,T,P,some (.val (toD t)),some (.val (tz p))]
  cases e:zcy 8 p t with
  |none =>
   rw[e] at TE;let r2:Ev:=[N,T,P,some (.val .non),some (.val (tz p))]
   have x1:zaX 3 (zai zb5 (dR (zab 0) (dR (zab 3) (dR (zab 4) dR0)))) r1=.ok (.nx,r2):=zaE (Z1:=r1) (zkx (Z1:=r1) (Z2:=r1) (Z3:=r1) (d:=.int n) (e:=toD t) (g:=tz p) rfl rfl rfl TE) (show 3<5 by decide);have x2:yB r1=.ok (.rt .non,r2):=(zag x1).trans rfl;refine ⟨some (.val .non),some (.val (tz p)),?_,λu z=>by rw[tbF,e] at z;cases z⟩;rw[tbF,e];show ((yB r1).bind _)=_;rw[x2];rfl
  |some v =>
   obtain ⟨O,hlv,hr⟩:=T8.yes v e;obtain ⟨D',_,_⟩:=zgR D O hlv;rw[e] at TE;let r2:Ev:=[N,T,P,some (.val (toD (zaj v))),some (.val (tz p))]
   have x1:zaX 3 (zai zb5 (dR (zab 0) (dR (zab 3) (dR (zab 4) dR0)))) r1=.ok (.nx,r2):=zaE (Z1:=r1) (zkx (Z1:=r1) (Z2:=r1) (Z3:=r1) (d:=.int n) (e:=toD t) (g:=tz p) rfl rfl rfl TE) (show 3<5 by decide);have t3:zl6 true (zab 3) r2=.ok (false,r2):=by show R.ok ((true == zn1 (toD (zaj v))),r2)=_;rw[zss];rfl
   have x2:yB r1=.ok (.nx,r2):=(zag x1).trans ((zbF t3).trans rfl);obtain ⟨o3,o4,h1,h2⟩:=zq3 (T:=T) (P:=P) (ps:=ps) (o:=some (.val (tz p))) D' λq hq=>hp q (by simp[hq]);refine ⟨o3,o4,?_,λu z=>h2 u (by rw[tbF,e] at z;exact z)⟩;rw[tbF,e];show ((yB r1).bind _)=_;rw[x2];exact h1
theorem zsO{ps:List (List Int)}(D:Dr n t)(hp:∀ p∈ps,Pty n p):zel [.val (.int (n:Nat)),.val (toD t),.val (.lst (lp ps))]=.ok (toO (tbF ps (zaj t)),[.val .non,.val .non,.val .non]):=by
 obtain ⟨D',_,_⟩:=zgR D D.s.ok (.refl _);let N:Option B:=some (.val (.int n));let T:Option B:=some (.val (toD t));let P:Option B:=some (.val (.lst (lp ps)));let Z0:Ev:=[N,T,P,none,none]
 let Z1:Ev:=[N,T,P,some (.val (toD (zaj t))),none]
 obtain ⟨o3,o4,h1,h2⟩:=zq3 (T:=T) (P:=P) (ps:=ps) (o:=none) D' hp;have x1:zaX 3 (zai zdN (dR (zab 0) (dR (zab 1) dR0))) Z0=.ok (.nx,Z1):=zaE (Z1:=Z0) (zdv (Z':=Z0) (Z'':=Z0) (d:=.int n) (e:=toD t) rfl rfl (zpU D)) (show 3<5 by decide);refine zak (Z':=[N,T,P,o3,o4]) rfl ((zag x1).trans ?_) rfl;cases e:tbF ps (zaj t) with
 |none =>
  rw[e] at h1;exact zb1 (show zh1 (dIt (zab 2)) (zbr 4) yB Z1=_ from h1)
 |some u =>
  rw[e] at h1;have h2':=h2 u e;subst h2';exact (zag (show zh1 (dIt (zab 2)) (zbr 4) yB Z1=_ from h1)).trans rfl
theorem zsu:∀ bs:List Tr,nbr bs=(List.range (bs.length-1)).map λk=>zaK (zad (bs.getD k (.lf 0))++zad (bs.getD (k+1) (.lf 0)))
 |[]=>rfl
 |[_]=>rfl
 |b::b'::r=>by rw[nbr,zsu (b'::r)];simp only[wan,Nat.add_sub_cancel];rw[List.range_succ_eq_map,List.map_cons,List.map_map];rfl
theorem zzI(a b:List Int):zaK (zaK a++zaK b)=zaK (a++b):=zkF ((zaw a).append (zaw b))
theorem zqd{bs:List Tr}(hk:∀ b∈bs,Sm b)(hne:1<=bs.length)(hl:bs.length<=6):zcW [.val (.tup (bs.map toD))]=.ok (.lst (lp (nbr bs)),[.val .non]):=by
 let Z:Ev:=[some (.val (.tup (bs.map toD)))]
 have g:∀(k:Nat)(fa:De)(Z':Ev),k<bs.length->zab 0 Z'=.ok (.tup (bs.map toD),Z')->fa Z'=.ok (.int (k:Nat),Z')->zai zbf (dR (dOp gIx (zab 0) fa) dR0) Z'=.ok (.lst ((zaK (zad (bs.getD k (.lf 0)))).map .int),Z'):=λk fa Z' hk' h0 ha=>by
  have e:bs[k]? = some (bs.getD k (.lf 0)):=by simp[List.getD,hk']
  have S:=hk _ (waH e);have hl:=S.l;exact zdf (zao h0 ha (zn4 (d:=toD (bs.getD k (.lf 0))) xwl (by simpa using hk') (by rw[Int.toNat_natCast,List.getElem?_map,e];rfl))) (zib (waN S.d xwd) xwl)
 refine zak (Z':=Z) rfl (zdu ?_) rfl;rw[zsu];unfold lp;rw[List.map_map];refine zdz (Z0:=Z) (u:=λk:Nat=>Dt.int k) (l:=List.range (bs.length-1)) (zm2 (m:=bs.length-1) (Z1:=Z) ?_ xwl) rfl (by simp;lia) (λk hk'=>?_) rfl
 ·refine zao (Z1:=Z) (d:=.int (bs.length:Nat)) (e:=.int 1) (zcf (d:=.tup (bs.map toD)) rfl (by show R.ok (Dt.int ((bs.map toD).length:Nat))=_;rw[List.length_map])) rfl ?_;show R.ok (Dt.int ((bs.length:Int)-1))=_;congr 2;lia
 ·have hk2:=List.mem_range.mp hk';let r1:Ev:=Z++[some (.val (.int (k:Nat)))]
  have ga:=g k (zab 1) r1 xwl rfl rfl;have gb:=g (k+1) (dOp zeL (zab 1) (dC (.int 1))) r1 xwl rfl (zao (d:=.int (k:Nat)) (e:=.int 1) rfl rfl rfl);have la:∀ j,j<bs.length->(zaK (zad (bs.getD j (.lf 0)))).length<=6:=λj hj=>by rw[(zaw _).length_eq];exact (hk _ (waH (by simp[List.getD,hj]:bs[j]? = some (bs.getD j (.lf 0))))).l
  have l1:=la k xwl;have l2:=la (k+1) xwl;have c:=zku ga gb (by simp only[wag];lia);rw[<- List.map_append] at c;refine (zcf (zaL (zhs (zaL c) (zha (by rw[List.length_append];lia)))) rfl).trans ?_;rw[zzI];rfl
variable{n:Nat}{t a b:Tr}
theorem zn2:∀ l m:List Tr,bps (l++m)=bps l++bps m
 |[],m=>rfl
 |t::l,m=>by rw[List.cons_append,bps,zn2 l m,bps,List.append_assoc]
noncomputable def bp0(r:Bool)(bs:List Tr):List (List Int):=if r then nbr bs else [zaK (zae bs)]
theorem zrX(x y:List (List Int)):lp (x++y)=lp x++lp y:=by unfold lp;rw[List.map_append]
theorem zsr{F:FD}{r:Bool}{bs:List Tr}(S:Sm (.nd r bs))(IH:∀ b∈bs,F [.val (toD b)]=.ok (.lst (lp (bp b)),[.val .non])):zav true [false] 2 (zet F) [.val (toD (.nd r bs))]=.ok (.lst (lp (bp (.nd r bs))),[.val .non]):=by
 obtain ⟨hk,hl,hne⟩:=zhB S;have hd:=S.d;have hlv:(zae bs).length<=6:=S.l;have hb:=zoi λb hb=>zri _ b (wal _) (hk b hb).ok;have h0:(bp0 r bs).length<=6:=by
  unfold bp0;cases r
  ·simp
  ·simp[znp];omega
 let T:Option B:=some (.val (toD (.nd r bs)));let Z0:Ev:=[T,none,none]
 let Z1:Ev:=[T,some (.own (lp (bp0 r bs))),none]
 have x1:zcY 1 (zyU (dTB (dOp (gEq false) (dOp gIx (zab 0) (dC (.int 0))) (dC (.str (Str.ofString "row"))))) (zaZ zcW (dR (dOp gIx (zab 0) (dC (.int 1))) dR0)) (zc7 (dA (dFn zbI (dA (zai zbf (dR (zab 0) dR0)) dA0)) dA0))) Z0=.ok (.nx,Z1):=by
  have er:=zuH (r:=r) (x:=.tup (zka bs)) (Z:=Z0) (i:=0) (by show some (some (B.val (toD (.nd r bs))))=_;rw[toD]);refine zlp (Z1:=Z0) ?_ (show 1<3 by decide);unfold zyU;rw[er];unfold bp0;cases r with
  |true =>
   show zaZ zcW (dR (dOp gIx (zab 0) (dC (.int 1))) dR0) Z0=_;have kg:=zdS (r:=true) (bs:=bs) (Z:=Z0) rfl;rw[zaY] at kg;exact ziX kg (zqd hk (List.length_pos_iff.mpr hne) hl)
  |false =>
   show zc7 (dA (dFn zbI (dA (zai zbf (dR (zab 0) dR0)) dA0)) dA0) Z0=_;have hg:=zdf (F:=zbf) (fa:=zab 0) (Z:=Z0) (Z':=Z0) (d:=toD (.nd false bs)) rfl (zib (waN hd xwd) (by show (zae bs).length<64;omega));exact zvR (zpD (Z2:=Z0) (zcf hg rfl) rfl) (show 1<=16777216 by decide)
 obtain ⟨Z',⟨o',rfl⟩,e⟩:=zct (u:=toD) (l:=bs) (g:=zbr 2) (body:=dEx (zg7 1 (dFz (zaZ F (dR (zab 2) dR0))))) (Z:=Z1) (I:=λdn Z=>∃ o',Z=[T,some (.own (lp (bp0 r bs++bps dn))),o']) (zpb (Z:=Z1) (r:=r) rfl) rfl ⟨none,by rw[bps,List.append_nil]⟩
  (λdn b zby e Z ⟨o',hρ⟩=>by
   subst hρ;have hb':b∈bs:=by rw[e];simp
   let r1:Ev:=[T,some (.own (lp (bp0 r bs++bps dn))),some (.val (toD b))]
   have hlen:(bps dn).length+(bp b).length<=6:=by have e2:=congrArg bps e;rw[zn2,bps] at e2;have:=congrArg List.length e2;simp only[wav] at this;omega
   refine ⟨r1,_,rfl,zeY (zpw (Z1:=r1) (l:=lp (bp b)) rfl (zaL (ziX (Z':=r1) (d:=toD b) rfl (IH b hb'))) rfl rfl (by simp only[zoY,wav];omega)),some (.val (toD b)),?_⟩;show [T,some (B.own (lp (bp0 r bs++bps dn)++lp (bp b))),_]=_;rw[<- zrX,zn2,List.append_assoc];simp only[bps,List.append_nil])
 refine zak (Z':=[T,none,o']) rfl ?_ rfl;show zax (dIf (dTB (zai zcc (dR (zab 0) dR0))) (zeb (zc7 dA0)) dNx) (zax _ (zax _ (zud 1))) Z0=_;rw[zag (zqq (t:=.nd r bs) (Z:=Z0) rfl),zag x1,zag e,bp];rfl
theorem zmj:∀(n:Nat)(t:Tr),dep t<=n->Sm t->zbR n [.val (toD t)]=.ok (.lst (lp (bp t)),[.val .non])
 |0,t,h,_=>by cases t <;> simp[dep] at h
 |n+1,.lf g,_,_=>by refine zak (Z':=[some (.val (toD (.lf g))),none,none]) rfl ?_ rfl;exact zb1 (zqq (t:=.lf g) (Z:=[some (.val (toD (.lf g))),none,none]) rfl)
 |n+1,.nd r bs,h,S=>zsr S λb hb=>zmj n b (zaS.mp (by simpa [dep] using h) b hb) ((zhB S).1 b hb)
theorem zpl(D:Dr n t):zcv [.val (.int (n:Nat)),.val (toD t)]=.ok (.lst (lp (bp t)),[.val .non,.val .non]):=by
 have h1:=D.n1;have h6:=D.n6;let Z:Ev:=[some (.val (.int (n:Nat))),some (.val (toD t))]
 refine zak (Z':=Z) rfl ?_ rfl;exact (zag (Z1:=Z) (zeY (zdf (d:=.int (n:Nat)) rfl (zkU xwo xwo)))).trans (zdu (ziX (Z':=Z) (d:=toD t) rfl (zmj 8 t (waN D.s.d xwd) D.s)))
theorem znc(Da:Dr n a)(Db:Dr n b):zi9 [.val (.int (n:Nat)),.val (toD a),.val (toD b)]=.ok (toO (boF a b),[.val .non,.val .non,.val .non]):=by
 let Z:Ev:=[some (.val (.int (n:Nat))),some (.val (toD a)),some (.val (toD b))]
 exact zak (Z':=Z) rfl (zba (zkx (Z1:=Z) (Z2:=Z) (Z3:=Z) (d:=.int (n:Nat)) (e:=toD a) (g:=.lst (lp (bp b))) rfl rfl (zaL (zhA (Z':=Z) (Z'':=Z) (d:=.int (n:Nat)) (e:=toD b) rfl rfl (zpl Db))) (zsO Da λp hp=>zh6 Db hp))) rfl
section
variable{p:List Int}
theorem zsc{α:Type}(l:List α):l.filter (λ_=>false)=[]:=List.filter_eq_nil_iff.mpr λ_ _ z=>by cases z
noncomputable def zvf(i j:Int)(Z:Ev):R (List Dt×Ev):=if (zdx i && zdx j)=true then .ok (zch i (j-i).toNat,Z) else .no
theorem zxN{fa fb:De}{Z Z1 Z2:Ev}{i j:Int}(h:fa Z=.ok (.int i,Z1))(h2:fb Z1=.ok (.int j,Z2)):zno fa fb Z=zvf i j Z2:=by unfold zno zvf;rw[h];simp only[R.bind_ok];rw[h2];rfl
theorem zzh{k:Nat}(h:k<p.length):gIx (tz p) (.int (k:Nat))=.ok (.int (p.getD k 0)) :=
 zn4 xwo (by rw[List.length_map];omega) (by rw[Int.toNat_natCast,List.getElem?_map,List.getElem?_eq_getElem h,List.getD_eq_getElem?_getD,List.getElem?_eq_getElem h];rfl)
theorem ztM(h:Pty n p)(hl:p.length<=1000):zbA [.val (.int (n:Nat)),.val (tz p)]=.ok (.bl true,[.val .non,.val .non]):=by
 obtain ⟨hne,hlt,hin⟩:=h;have hpos:=List.length_pos_iff.mpr hne;let Z0:Ev:=[some (.val (.int (n:Nat))),some (.val (tz p)),none]
 let Z1:Ev:=[some (.val (.int (n:Nat))),some (.val (tz p)),some (.val (.lst []))]
 have t1:zcp (dTB (zhw "tuple" (zab 1))) Z0=.ok (false,Z0):=rfl;have t2:dTB (dOp (gEq false) (zab 1) (zd1 dA0)) Z0=.ok (false,Z0):=by
  refine za4 (zao (d:=tz p) (e:=tz []) (Z1:=Z0) rfl rfl ?_);rw[zbt (zhE _) (zhE _),zqs];cases p with
  |nil=>exact absurd rfl hne
  |cons a q=>rfl
 have t3:dTB (dOp (gEq true) (dFz (zbh (dIt (zab 1)) (zbr 3) (zcp (dTB (zai zc0 (dR (zab 3) dR0)))) (zab 3) 1)) (dFz (zc7 dA0))) Z0=.ok (false,Z0):=by
  have hc:=zbw (u:=Dt.int) (f:=Dt.int) (p:=λ_=>false) (l:=p) (ds:=p.map .int) (fi:=dIt (zab 1)) (fe:=zab 3) (ft:=zcp (dTB (zai zc0 (dR (zab 3) dR0)))) (Z0:=Z0) rfl rfl (j:=3) rfl xwo (λx _=>rfl) λ_ _ z=>by cases z
  rw[zsc,List.map_nil] at hc;refine za4 (zao (Z1:=Z0) (e:=.lst []) (zaL hc) rfl ?_);rw[zbt rfl rfl,zcq];rfl
 have x2:zaX 2 (dFz (zbh (zno (dC (.int 1)) (dFn zcb (dA (zab 1) dA0))) (zbr 3) (dTB (dOp gLe (dOp gIx (zab 1) (zab 3)) (dOp gIx (zab 1) (dOp zi1 (zab 3) (dC (.int 1)))))) (zab 3) 1)) Z0=.ok (.nx,Z1):=by
  have hr:zno (dC (.int 1)) (dFn zcb (dA (zab 1) dA0)) Z0=.ok (zch 1 (p.length-1),Z0):=by
   have el:dFn zcb (dA (zab 1) dA0) Z0=.ok (.int (p.length:Nat),Z0):=zcf (d:=tz p) rfl (by simp[tz,zcb]);have hm:(zdx 1 && zdx (p.length:Int))=true:=by rw[ziA hl];decide
   rw[zxN (i:=1) (j:=(p.length:Nat)) rfl el];unfold zvf;rw[if_pos hm,show ((p.length:Int)-1).toNat=p.length-1 by omega]
  have hc:=zbw (u:=λk:Nat=>Dt.int (1+(k:Nat))) (f:=λk:Nat=>Dt.int (1+(k:Nat))) (p:=λ_=>false) (l:=List.range (p.length-1)) (fe:=zab 3) (ft:=dTB (dOp gLe (dOp gIx (zab 1) (zab 3)) (dOp gIx (zab 1) (dOp zi1 (zab 3) (dC (.int 1)))))) (Z0:=Z0) hr rfl (j:=3) rfl (by simp;omega) (λk hk=>by
   have hk':=List.mem_range.mp hk;let r1:Ev:=Z0++[some (.val (.int (1+(k:Nat))))]
   have e1:dOp gIx (zab 1) (zab 3) r1=.ok (.int (p.getD (k+1) 0),r1):=zao (d:=tz p) (e:=.int (1+(k:Nat))) rfl rfl (by rw[show (1+(k:Int))=((k+1:Nat):Int) by omega];exact zzh xwo);have hsub:zi1 (.int (1+(k:Int))) (.int 1)=.ok (.int (k:Nat)):=by show R.ok (Dt.int (1+(k:Int)-1))=_;rw[show (1+(k:Int)-1)=(k:Nat) by omega]
   have e2:dOp gIx (zab 1) (dOp zi1 (zab 3) (dC (.int 1))) r1=.ok (.int (p.getD k 0),r1):=zao (d:=tz p) (e:=.int (k:Nat)) rfl (zao (d:=.int (1+(k:Nat))) (e:=.int 1) rfl rfl hsub) (zzh xwo);refine za4 (zao e1 e2 ?_);have:=List.pairwise_iff_getElem.mp hlt k (k+1) xwo xwo xwo;show R.ok (Dt.bl (decide (p.getD (k+1) 0<=p.getD k 0)))=_;rw[List.getD_eq_getElem?_getD,List.getD_eq_getElem?_getD,List.getElem?_eq_getElem (show k<p.length by omega),List.getElem?_eq_getElem (show k+1<p.length by omega),decide_eq_false (by simp only[Option.getD_some];omega)]) λ_ _ z=>by cases z
  rw[zsc,List.map_nil] at hc;exact zaE (Z1:=Z0) (zaL hc) (show 2<3 by decide)
 have g0:=hin (p.getD 0 0) (by rw[List.getD_eq_getElem?_getD,List.getElem?_eq_getElem hpos];exact List.getElem_mem hpos);have gl:=hin (p.getLastD 0) (by rw[List.getLastD_eq_getLast?,List.getLast?_eq_some_getLast hne];exact List.getLast_mem hne);have y1:dOp gLe (dC (.int 0)) (dOp gIx (zab 1) (dC (.int 0))) Z1=.ok (.bl true,Z1):=zao (d:=.int 0) (e:=.int (p.getD 0 0)) rfl (zao (d:=tz p) (e:=.int (0:Nat)) rfl rfl (zzh hpos)) (by show R.ok (Dt.bl (decide ((0:Int)<=p.getD 0 0)))=_;rw[decide_eq_true g0.1]);have y2:dOp gLt (dOp gIx (zab 1) (znf (dC (.int 1)))) (zab 0) Z1=.ok (.bl true,Z1):=zao (d:=.int (p.getLastD 0)) (e:=.int (n:Nat)) (zao (d:=tz p) (e:=.int (-1)) rfl rfl (by show gIx (.lst (p.map .int)) (.int (-1))=_;exact zkH hne)) rfl (by show R.ok (Dt.bl (decide (p.getLastD 0<(n:Int))))=_;rw[decide_eq_true gl.2]);have y3:dOp (gEq false) (zab 2) (dFz (zc7 dA0)) Z1=.ok (.bl true,Z1):=zao (d:=.lst []) (e:=.lst []) (Z1:=Z1) rfl rfl (by rw[zbt rfl rfl,zcq];rfl);refine zak (Z':=Z1) rfl ?_ rfl;show zeZ Z0=_;refine (zag (Z1:=Z0) ((zbF (by rw[zgE t1,zgE t2];exact t3)).trans rfl)).trans ((zag x2).trans (zba ?_));show zql _ (zql _ _) Z1=_;unfold zql;rw[y1];show ((dOp gLt (dOp gIx (zab 1) (znf (dC (.int 1)))) (zab 0) Z1).bind _)=_;rw[y2];exact y3
open Classical in
theorem zrs{rows ps:List (List Int)}(hp:∀ p∈ps,p.Nodup/\p≠[]/\p.length<=1000)(hps:ps.length<=1000)(hrs:rows.length<=1000)(hr:∀ row∈rows,row.Nodup/\row.length<=1000/\∀ p∈ps,∀ x∈p,x∈row) :
  zd7 [.val (.lst (lp rows)),.val (.lst (lp ps))]=.ok (.lst (lp (rows.filter λrow=>decide (∀ p∈ps,Ct p row))),[.val .non,.val .non]):=by
 let Z:Ev:=[some (.val (.lst (lp rows))),some (.val (.lst (lp ps)))]
 refine zak (Z':=Z) rfl ?_ rfl;refine zdu ?_;refine (zbw (u:=tz) (f:=tz) (p:=λrow=>decide (∀ p∈ps,Ct p row)) (l:=rows) (ds:=lp rows) (fi:=dIt (zab 0)) (Z0:=Z) rfl rfl rfl xwo (λrow hrow=>?_) λrow hrow _=>rfl).trans rfl;obtain ⟨h1,h2,h3⟩:=hr row hrow;let Z1:Ev:=Z++[some (.val (tz row))]
 have inner:zbh (dIt (zab 1)) (zbr 3) (zcp (dTB (zai zeT (dR (zab 2) (dR (zab 3) dR0))))) (zab 3) 1 Z1=.ok (lp (ps.filter λq=>!decide (Ct q row)),Z1) :=
  zbw (u:=tz) (f:=tz) (p:=λq=>!decide (Ct q row)) (l:=ps) (ds:=lp ps) (fi:=dIt (zab 1)) (Z0:=Z1) rfl rfl rfl xwo (λq hq=>by obtain ⟨a1,a2,a3⟩:=hp q hq;exact zfJ (za4 (zdv (d:=tz row) (e:=tz q) rfl rfl (zp4 h1 a1 (h3 q hq) a2 a3 h2)))) λq hq _=>rfl
 refine za4 (zao (Z1:=Z1) (e:=.lst []) (zaL inner) rfl ?_);rw[zbt (zkl _) rfl];simp only[Bool.false_eq_true,if_false];refine congrArg (λb=>R.ok (Dt.bl b)) ?_;by_cases h:∀ p∈ps,Ct p row
 ·rw[decide_eq_true h,List.filter_eq_nil_iff.mpr λq hq=>by simp[h q hq]];exact zcq
 ·obtain ⟨q,hq,hc⟩ : ∃ q∈ps,¬ Ct q row:=Classical.byContradiction λz=>h λq hq=>Classical.byContradiction λhc=>z ⟨q,hq,hc⟩;obtain ⟨a,l,el⟩:=waI (List.ne_nil_of_mem (List.mem_filter.mpr ⟨hq,by simp[hc]⟩ : q∈ps.filter λq=>!decide (Ct q row)));rw[decide_eq_false h,el];exact zfo
end
theorem zul(s:List Int):∀ rs:List (List Int),inD (tz s) (lp rs)=decide (s∈rs)
 |[]=>by simp[inD,lp]
 |a::r=>by have ih:=zul s r;unfold inD at ih ⊢;show (eqD (tz a) (tz s) || (lp r).any λd=>eqD d (tz s))=_;rw[ih,zqs,Bool.eq_iff_iff];simp only[Bool.or_eq_true,beq_iff_eq,war,wap];exact ⟨λh=>h.elim (λe=>.inl e.symm) .inr,λh=>h.elim (λe=>.inl e.symm) .inr⟩
theorem zn9{i:Nat}{f:DT}{Z Z':Ev}{l:List Dt}{b:Bool}(h:Z[i]? = some (some (.own l)))(hf:f ((zhp Z).set i (some (.val (.lst l))))=.ok (b,Z')):zju i f Z=.ok (b,Z):=by unfold zju;rw[h];simp only;rw[hf]
section
variable{n:Nat}{a b:Tr}{S K ST R9 o5 o8 o9 o10 o11 o12:Option B}
noncomputable abbrev w1:DT:=zgH (zcp (dTB (zhw "list" (zab 10)))) (dTB (dOp gGt (dFn zcb (dA (zab 10) dA0)) (dC (.int 20))))
noncomputable abbrev w2:DT:=dTB (dOp (gEq true) (dFz (zbh (dIt (zab 10)) (zbr 13) (zcp (dTB (zai zbA (dR (zab 3) (dR (zab 13) dR0))))) (zab 13) 1)) (dFz (zc7 dA0)))
noncomputable abbrev w3:DT:=dTB (dOp (gEq true) (dFz (zaZ zd7 (dR (zab 6) (dR (zab 10) dR0)))) (zab 7))
noncomputable abbrev tB:DS:=zax (zcY 10 (zaZ zcv (dR (zab 3) (dR (zab 4) dR0)))) (zax (dIf (zju 10 w1) (zbb (dC (.bl false))) dNx) (zax (dIf (zju 10 w2) (zbb (dC (.bl false))) dNx) (zax (dIf (zju 10 w3) (zbb (dC (.bl false))) dNx) (dEx (zew 10 (zd1 dA0))))))
theorem zu0(D:Dr n a):(bp a).length<=5:=by have:=zri _ a (wal _) D.s.ok;have:=D.s.l;omega
open Classical in
theorem zwE(D:Dr n a):zd7 [.val (.lst (lp (zbo n n))),.val (.lst (lp (bp a)))]=.ok (.lst (lp (rws n a)),[.val .non,.val .non]):=by
 have h6:=D.n6;have hf:=zu0 D;have hpl:=zhU n h6 n (wal _);refine (zrs (λp hp=>⟨zme (zh6 D hp),(zh6 D hp).1,zrI D (zh6 D hp)⟩) xwo xwo λr hr=>?_).trans ?_
 ·have hp:=zeG.mp hr;refine ⟨hp.nodup_iff.mpr (zdI n),by rw[hp.length_eq,zbB];omega,λp hp' x hx=>hp.mem_iff.mpr (zcw.mpr ((zh6 D hp').2.2 x hx))⟩
 ·unfold rws;rw[List.filter_congr λr hr=>?_];rw[Bool.eq_iff_iff,decide_eq_true_eq,decide_eq_true_eq];exact (zru D.s.ok ((zeG.mp hr).trans D.l.symm)).symm
theorem zvu(D:Dr n a):∃ b10,tB [S,K,ST,some (.val (.int n)),some (.val (toD a)),o5,some (.val (.lst (lp (zbo n n)))),some (.val (.lst (lp (rws n a)))),o8,o9,o10,o11,o12]=.ok (.nx,[S,K,ST,some (.val (.int n)),some (.val (toD a)),o5,some (.val (.lst (lp (zbo n n)))),some (.val (.lst (lp (rws n a)))),o8,o9,b10,o11,o12]):=by
 have hf:=zu0 D;let L:=lp (bp a);have hL:L.length<=5:=by show (lp (bp a)).length<=5;rw[zoY];exact hf
 let Z0:Ev:=[S,K,ST,some (.val (.int n)),some (.val (toD a)),o5,some (.val (.lst (lp (zbo n n)))),some (.val (.lst (lp (rws n a)))),o8,o9,o10,o11,o12]
 let Z1:Ev:=[S,K,ST,some (.val (.int n)),some (.val (toD a)),o5,some (.val (.lst (lp (zbo n n)))),some (.val (.lst (lp (rws n a)))),o8,o9,some (.own L),o11,o12]
 let ρv:Ev:=(zhp Z1).set 10 (some (.val (.lst L)));have a3:zab 3 ρv=.ok (.int n,ρv):=rfl;have a6:zab 6 ρv=.ok (.lst (lp (zbo n n)),ρv):=rfl;have a7:zab 7 ρv=.ok (.lst (lp (rws n a)),ρv):=rfl;have a10:zab 10 ρv=.ok (.lst L,ρv):=rfl;have x1:zcY 10 (zaZ zcv (dR (zab 3) (dR (zab 4) dR0))) Z0=.ok (.nx,Z1):=zlp (Z1:=Z0) (zhA (Z':=Z0) (Z'':=Z0) (d:=.int n) (e:=toD a) rfl rfl (zpl D)) (show 10<13 by decide);have t1:w1 ρv=.ok (false,ρv):=by have h1:zcp (dTB (zhw "list" (zab 10))) ρv=.ok (false,ρv):=rfl;have h2:dTB (dOp gGt (dFn zcb (dA (zab 10) dA0)) (dC (.int 20))) ρv=.ok (false,ρv):=za4 (zao (zcf a10 (show zcb [.lst L]=.ok (.int (L.length:Nat)) from rfl)) (e:=.int 20) rfl (by show R.ok (Dt.bl (decide ((20:Int)<(L.length:Nat))))=_;rw[decide_eq_false xwo]));show zgH _ _ ρv=_;rw[zgE h1];exact h2
 have t2:w2 ρv=.ok (false,ρv):=by
  have hc:=zbw (u:=tz) (f:=tz) (p:=λ_=>false) (l:=bp a) (ds:=lp (bp a)) (fi:=dIt (zab 10)) (fe:=zab 13) (ft:=zcp (dTB (zai zbA (dR (zab 3) (dR (zab 13) dR0))))) (Z0:=ρv) rfl rfl (j:=13) rfl xwo (λp hp=>zfJ (za4 (zdv (d:=.int n) (e:=tz p) rfl rfl (ztM (zh6 D hp) (zrI D (zh6 D hp)))))) λ_ _ z=>by cases z
  rw[zsc,List.map_nil] at hc;refine za4 (zao (Z1:=ρv) (e:=.lst []) (zaL hc) rfl ?_);rw[zbt rfl rfl,zcq];rfl
 have t3:w3 ρv=.ok (false,ρv):=by refine za4 (zao (zaL (zhA a6 a10 (zwE D))) a7 ?_);rw[zbt (zkl _) (zkl _),eqD,zod];rfl
 have hz:L.length<16777216:=by omega
 refine ⟨some (.own (L++[.tup []])),?_⟩;refine (zag x1).trans ((zag (Z1:=Z1) ((zbF (zn9 rfl t1)).trans rfl)).trans ((zag (Z1:=Z1) ((zbF (zn9 rfl t2)).trans rfl)).trans ((zag (Z1:=Z1) ((zbF (zn9 rfl t3)).trans rfl)).trans (zeY (d:=.non) ?_))));show (if L.length<16777216 then R.ok (Dt.non,Z1.set 10 (some (.own (L++[.tup []])))) else .no)=_;rw[if_pos hz];rfl
noncomputable def zwO(n:Nat)(a b:Tr):List (List Int):=(rws n a).filter λr=>decide (r∈rws n b)
theorem zsn(Da:Dr n a)(Db:Dr n b)(e:boF a b=none):zwO n a b=[]:=List.filter_eq_nil_iff.mpr λr hr=>by rw[decide_eq_true_eq,zkS Db];exact (zsp Da Db).no e r ((zkS Da).mp hr)
theorem zrg(Da:Dr n a)(Db:Dr n b){u:Tr}(e:boF a b=some u):rws n u=zwO n a b:=by obtain ⟨D,_,h⟩:=(zsp Da Db).yes u e;unfold zwO rws;rw[List.filter_filter];refine List.filter_congr λr hr=>?_;rw[Bool.eq_iff_iff,Bool.and_eq_true,decide_eq_true_eq,decide_eq_true_eq,decide_eq_true_eq,h];have:=zkS Db (r:=r);unfold rws at this;rw[this,and_comm]
noncomputable abbrev z1:DS:=zaX 11 (dFz (zbh (dIt (zab 7)) (zbr 13) (dTB (dOp (gIn false) (zab 13) (zab 8))) (zab 13) 1))
noncomputable abbrev z2:DS:=zaX 12 (zai zi9 (dR (zab 3) (dR (zab 4) (dR (zab 5) dR0))))
noncomputable abbrev q1:DT:=dTB (dOp (gEq true) (zxk (zab 12)) (dOp (gEq false) (zab 11) (dFz (zc7 dA0))))
noncomputable abbrev q2:DT:=dTB (dOp (gEq true) (zab 12) (zai zi9 (dR (zab 3) (dR (zab 5) (dR (zab 4) dR0)))))
noncomputable abbrev q3:DT:=zcp (dTB (zai zcR (dR (zab 3) (dR (zab 12) dR0))))
noncomputable abbrev q4:DT:=dTB (dOp (gEq true) (zai (zb4 8) (dR (zab 12) dR0)) (zab 12))
noncomputable abbrev q5:DT:=dTB (dOp (gEq true) (dFz (zaZ zbj (dR (zab 12) (dR (zab 6) dR0)))) (zab 11))
noncomputable abbrev z3:DS:=dIf (zgH q1 q2) (zbb (dC (.bl false))) dNx
noncomputable abbrev z4:DS:=dIf (zl6 false (zab 12)) (zax (dIf (zgH q3 q4) (zbb (dC (.bl false))) dNx) (dIf q5 (zbb (dC (.bl false))) dNx)) dNx
theorem ztn(Da:Dr n a)(Db:Dr n b):∃ b11 b12,zax z1 (zax z2 (zax z3 z4)) [S,K,ST,some (.val (.int n)),some (.val (toD a)),some (.val (toD b)),some (.val (.lst (lp (zbo n n)))),some (.val (.lst (lp (rws n a)))),some (.val (.lst (lp (rws n b)))),o9,o10,o11,o12]=.ok (.nx,[S,K,ST,some (.val (.int n)),some (.val (toD a)),some (.val (toD b)),some (.val (.lst (lp (zbo n n)))),some (.val (.lst (lp (rws n a)))),some (.val (.lst (lp (rws n b)))),o9,o10,b11,b12]):=by
 have hra:=zvb Da;let N:Option B:=some (.val (.int n));let A:Option B:=some (.val (toD a));let Bt:Option B:=some (.val (toD b));let P:Option B:=some (.val (.lst (lp (zbo n n))));let M:Option B:=some (.val (.lst (lp (rws n a))));let H:Option B:=some (.val (.lst (lp (rws n b))));let x:Dt:=toO (boF a b);let DV:Option B:=some (.val (.lst (lp (zwO n a b))));let Z0:Ev:=[S,K,ST,N,A,Bt,P,M,H,o9,o10,o11,o12]
 let Z1:Ev:=[S,K,ST,N,A,Bt,P,M,H,o9,o10,DV,o12]
 let Z2:Ev:=[S,K,ST,N,A,Bt,P,M,H,o9,o10,DV,some (.val x)]
 have x1:z1 Z0=.ok (.nx,Z1):=by
  refine zaE (Z1:=Z0) (zaL ?_) (show 11<13 by decide);refine zbw (u:=tz) (f:=tz) (p:=λr=>decide (r∈rws n b)) (l:=rws n a) (ds:=lp (rws n a)) (Z0:=Z0) rfl rfl rfl xwo (λr hr=>za4 (zao (d:=tz r) (e:=.lst (lp (rws n b))) rfl rfl ?_)) λr hr _=>rfl;rw[(zgL (zhE r) λd hd=>by obtain ⟨p,_,rfl⟩:=List.mem_map.mp hd;exact zhE p).2,zul];rfl
 have x2:z2 Z1=.ok (.nx,Z2):=zaE (Z1:=Z1) (zkx (Z1:=Z1) (Z2:=Z1) (Z3:=Z1) (d:=.int n) (e:=toD a) (g:=toD b) rfl rfl rfl (znc Da Db)) (show 12<13 by decide);have c2:zai zi9 (dR (zab 3) (dR (zab 5) (dR (zab 4) dR0))) Z2=.ok (x,Z2):=by show _=R.ok (toO (boF a b),Z2);rw[zvK Da Db];exact zkx (Z1:=Z2) (Z2:=Z2) (Z3:=Z2) (d:=.int n) (e:=toD b) (g:=toD a) rfl rfl rfl (znc Db Da)
 have a3:zab 3 Z2=.ok (.int n,Z2):=rfl;have a6:zab 6 Z2=.ok (.lst (lp (zbo n n)),Z2):=rfl;have a11:zab 11 Z2=.ok (.lst (lp (zwO n a b)),Z2):=rfl;have a12:zab 12 Z2=.ok (x,Z2):=rfl;have te:dOp (gEq false) (zab 11) (dFz (zc7 dA0)) Z2=.ok (.bl (eqD (.lst (lp (zwO n a b))) (.lst [])),Z2):=zao (Z1:=Z2) (e:=.lst []) a11 rfl (by rw[zbt (zkl _) rfl];rfl);have ztU:∀ c:Bool,gEq true (.bl c) (.bl c)=.ok (.bl false):=λc=>by rw[zbt rfl rfl,eqB];cases c <;> rfl
 have both:z3 Z2=.ok (.nx,Z2)/\z4 Z2=.ok (.nx,Z2):=by
  cases e:boF a b with
  |none =>
   have ex:x=.non:=by show toO (boF a b)=_;rw[e];rfl
   rw[ex] at a12 c2;rw[zsn Da Db e] at te;have te':dOp (gEq false) (zab 11) (dFz (zc7 dA0)) Z2=.ok (.bl true,Z2):=te.trans (by show R.ok (Dt.bl (eqD (.lst []) (.lst [])),Z2)=_;rw[zcq]);have h1:q1 Z2=.ok (false,Z2):=za4 (zao (d:=.bl true) (Z1:=Z2) (by show ((zab 12 Z2).bind _)=_;rw[a12];rfl) te' (ztU true));have h2:q2 Z2=.ok (false,Z2):=za4 (zao a12 c2 (by rw[zbt rfl rfl,eqD];rfl));have h3:zl6 false (zab 12) Z2=.ok (false,Z2):=by unfold zl6;rw[a12];rfl
   exact ⟨(zbF (by rw[zgE h1];exact h2)).trans rfl,(zbF h3).trans rfl⟩
  |some u =>
   have ex:x=toD u:=by show toO (boF a b)=_;rw[e];rfl
   obtain ⟨D,li,_⟩:=(zsp Da Db).yes u e;have f2:=zrg Da Db e;have hd6:=D.s.d;have hl6:=D.s.l;have o60:=zzs D;rw[ex] at a12 c2;obtain ⟨r,q,er⟩:=waI (zy6 D);rw[f2] at er;have te':dOp (gEq false) (zab 11) (dFz (zc7 dA0)) Z2=.ok (.bl false,Z2):=te.trans (by rw[er];show R.ok (Dt.bl (eqD (.lst (tz r::lp q)) (.lst [])),Z2)=_;rw[zfo]);have h1:q1 Z2=.ok (false,Z2):=za4 (zao (d:=.bl false) (Z1:=Z2) (by show ((zab 12 Z2).bind _)=_;rw[a12];cases u <;> rfl) te' (ztU false));have h2:q2 Z2=.ok (false,Z2):=za4 (zao a12 c2 (by rw[zbt o60 o60,zqZ 6 _ hd6];rfl));have h3:zl6 false (zab 12) Z2=.ok (true,Z2):=by unfold zl6;rw[a12];show R.ok ((false == zn1 (toD u)),Z2)=_;rw[zss];rfl
   have h4:q3 Z2=.ok (false,Z2):=zfJ (za4 (zdv a3 a12 (znQ (waN D.n6 xwd) D.s D.l)));have h5:q4 Z2=.ok (false,Z2):=by have l1:=zjm 8 u (wal _) (waN hd6 xwd) D.s.ok.o D.s.ok.n xwo;rw[li] at l1;refine za4 (zao (zdf a12 l1) a12 ?_);rw[zbt o60 o60,zqZ 6 _ hd6];rfl
   have h6:q5 Z2=.ok (false,Z2):=by have l1:=zkO D;rw[f2] at l1;refine za4 (zao (zaL (zhA a12 a6 l1)) a11 ?_);rw[zbt (zkl _) (zkl _),eqD,zod];rfl
   refine ⟨(zbF (by rw[zgE h1];exact h2)).trans rfl,(zdG h3).trans ((zag (Z1:=Z2) ((zbF (by rw[zgE h4];exact h5)).trans rfl)).trans ((zbF h6).trans rfl))⟩
 exact ⟨DV,some (.val x),(zag x1).trans ((zag x2).trans ((zag both.1).trans both.2))⟩
end
noncomputable abbrev tr8:De:=zai (zbe 8) (dRO 2 (dR (dFz (zjF (zab 3))) dR0))
noncomputable abbrev cO:De:=zxO (zai zb5 (dR (zab 3) (dR (zab 4) (dR (zai zcx (dRO 2 (dR (zab 3) dR0))) dR0)))) (zab 4)
noncomputable abbrev z0:DS:=dIf (dTB (dOp (gEq false) (zai zap (dRO 2 (dR (dC (.int 2)) dR0))) (dC (.int 1)))) (zaX 5 cO) dNx
noncomputable abbrev rb(i:Nat):De:=dFz (zaZ zbj (dR (zab i) (dR (zab 6) dR0)))
noncomputable abbrev outer:DS:=zax (zcY 2 (zaZ zcZ (dR (zab 0) (dR (zab 1) dR0)))) (zax (zaX 3 (dOp zeL (dC (.int 1)) (zai zap (dRO 2 (dR (dC (.int 6)) dR0))))) (zax (zaX 4 tr8) (zax (zaX 5 tr8) (zax z0 (zax (zaX 6 (zai zdd (dR (zab 3) dR0))) (zax (zyH (zd1 (dA (rb 4) (dA (rb 5) dA0))) (zlw 7 8)) (zax (zh1 (zdw (dC (.int 2))) (zbr 9) tB) (zax z1 (zax z2 (zax z3 z4))))))))))
theorem zwf:zvM=zax (zh1 (zdw (dFn zk2 (dA (dC (.int 1)) (dA (dFn zk9 (dA (dFn zcb (dA (zab 0) dA0)) (dA (dC (.int 4)) dA0))) dA0)))) (zbr 1) outer) (zbb (dC (.bl true))):=rfl
theorem zv7{n:Nat}{a:Tr}{S K o5 o6 o7 o8 o9 o10 o11 o12:Option B}{st:List Dt}(D:Dr n a)(hs:St st):∃ b st',St st'/\Dr n b/\cO [S,K,some (.own st),some (.val (.int n)),some (.val (toD a)),o5,o6,o7,o8,o9,o10,o11,o12]=.ok (toD b,[S,K,some (.own st'),some (.val (.int n)),some (.val (toD a)),o5,o6,o7,o8,o9,o10,o11,o12]):=by
 let N:Option B:=some (.val (.int n));let A:Option B:=some (.val (toD a));obtain ⟨p,st1,hs1,hp,e1⟩:=zpT D.n1 (waN D.n6 xwd) hs;let Z0:Ev:=[S,K,some (.own st),N,A,o5,o6,o7,o8,o9,o10,o11,o12]
 let Z1:Ev:=[S,K,some (.own st1),N,A,o5,o6,o7,o8,o9,o10,o11,o12]
 have TE:=zfY (p:=p) D.n1 (waN D.n6 xwd) D.s (zmh D hp);have T8:=zg5 8 a (wal _) (waN D.s.d xwd) D.s.ok (zmh D hp);have ep:zai zcx (dRO 2 (dR (zab 3) dR0)) Z0=.ok (tz p,Z1):=zhG (Z:=Z0) rfl rfl e1;have c1:zai zb5 (dR (zab 3) (dR (zab 4) (dR (zai zcx (dRO 2 (dR (zab 3) dR0))) dR0))) Z0=.ok (toO ((zcy 8 p a).map zaj),Z1):=zkx (Z1:=Z0) (Z2:=Z0) (Z3:=Z1) (d:=.int n) (e:=toD a) (g:=tz p) rfl rfl ep TE;have key:∃ b,Dr n b/\cO Z0=.ok (toD b,Z1):=by
  show ∃ b,Dr n b/\zxO _ _ Z0=_;unfold zxO;rw[c1];cases e:zcy 8 p a with
  |none=>exact ⟨a,D,rfl⟩
  |some u =>
   obtain ⟨O,hlv,_⟩:=T8.yes u e;obtain ⟨D',_,_⟩:=zgR D O hlv;show ∃ b,Dr n b/\(match toD (zaj u) with|.non=>zab 4 Z1|.int i=>if i=0 then zab 4 Z1 else .ok (toD (zaj u),Z1)|.tup (_::_)=>.ok (toD (zaj u),Z1)|_=>R.no)=_;cases el:zaj u with
   |lf g =>
    show ∃ b,Dr n b/\(if g=0 then zab 4 Z1 else R.ok (toD (.lf g),Z1))=_;by_cases hg:g=0
    ·exact ⟨a,D,by rw[if_pos hg];rfl⟩
    ·exact ⟨.lf g,by rw[<- el];exact D',by rw[if_neg hg]⟩
   |nd r l=>exact ⟨.nd r l,by rw[<- el];exact D',by rw[toD]⟩
 obtain ⟨b,Db,eb⟩:=key;exact ⟨b,st1,hs1,Db,eb⟩
theorem zp7{ns:List Int}{k:Nat}{o2 o3 o4 o5 o6 o7 o8 o9 o10 o11 o12:Option B}:∃ b2 b3 b4 b5 b6 b7 b8 b9 b10 b11 b12,outer [some (.val (.scr ns)),some (.val (.int k)),o2,o3,o4,o5,o6,o7,o8,o9,o10,o11,o12]=.ok (.nx,[some (.val (.scr ns)),some (.val (.int k)),b2,b3,b4,b5,b6,b7,b8,b9,b10,b11,b12]):=by
 let S:Option B:=some (.val (.scr ns));let K:Option B:=some (.val (.int k));obtain ⟨st,hs,e1⟩:=zpH (ns:=ns) (k:=k);have x1:zcY 2 (zaZ zcZ (dR (zab 0) (dR (zab 1) dR0))) [S,K,o2,o3,o4,o5,o6,o7,o8,o9,o10,o11,o12]=.ok (.nx,[S,K,some (.own st),o3,o4,o5,o6,o7,o8,o9,o10,o11,o12]) :=
  zlp (zhA (Z':=[S,K,o2,o3,o4,o5,o6,o7,o8,o9,o10,o11,o12]) (Z'':=[S,K,o2,o3,o4,o5,o6,o7,o8,o9,o10,o11,o12]) rfl rfl e1) xws
 obtain ⟨v,st1,e2,hs1,v0,v1⟩:=zdb (m:=6) hs xwd xwd;obtain ⟨n,hN⟩ : ∃ N:Nat,(N:Int)=1+v:=⟨(1+v).toNat,xwl⟩
 have n1:1<=n:=by lia
 have n6:n<=6:=by lia
 let N:Option B:=some (.val (.int n));have x2:zaX 3 (dOp zeL (dC (.int 1)) (zai zap (dRO 2 (dR (dC (.int 6)) dR0)))) [S,K,some (.own st),o3,o4,o5,o6,o7,o8,o9,o10,o11,o12]=.ok (.nx,[S,K,some (.own st1),N,o4,o5,o6,o7,o8,o9,o10,o11,o12]):=by refine zaE (zao rfl (zhG (Z:=[S,K,some (.own st),o3,o4,o5,o6,o7,o8,o9,o10,o11,o12]) rfl rfl e2) (z:=.int n) ?_) xws;rw[hN];rfl
 have hgl:(zaW n).length=n:=zbB n;have mk:∀{t:Tr},zxc (zaW n) t->Dr n t:=λ⟨ho,hpm,hd⟩=>⟨n1,n6,⟨⟨ho,hpm.nodup_iff.mpr (zdI n)⟩,by rw[hpm.length_eq];lia⟩,hpm⟩
 obtain ⟨a,st3,hs3,ha,e3⟩:=ziW 8 (zaW n) st1 xwl xwd xwl xwl hs1;have Da:=mk ha;let A:Option B:=some (.val (toD a));have x3:zaX 4 tr8 [S,K,some (.own st1),N,o4,o5,o6,o7,o8,o9,o10,o11,o12]=.ok (.nx,[S,K,some (.own st3),N,A,o5,o6,o7,o8,o9,o10,o11,o12]) :=
  zaE (zhG (Z:=[S,K,some (.own st1),N,o4,o5,o6,o7,o8,o9,o10,o11,o12]) rfl (zaL (zoj rfl xwl)) e3) xws
 obtain ⟨b0,st4,hs4,hb,e4⟩:=ziW 8 (zaW n) st3 xwl xwd xwl xwl hs3;have x4:zaX 5 tr8 [S,K,some (.own st3),N,A,o5,o6,o7,o8,o9,o10,o11,o12]=.ok (.nx,[S,K,some (.own st4),N,A,some (.val (toD b0)),o6,o7,o8,o9,o10,o11,o12]) :=
  zaE (zhG (Z:=[S,K,some (.own st3),N,A,o5,o6,o7,o8,o9,o10,o11,o12]) rfl (zaL (zoj rfl xwl)) e4) xws
 obtain ⟨w,st5,e5,hs5,w0,w1⟩:=zdb (m:=2) hs4 xwd xwd;let Z4:Ev:=[S,K,some (.own st4),N,A,some (.val (toD b0)),o6,o7,o8,o9,o10,o11,o12]
 let Z5:Ev:=[S,K,some (.own st5),N,A,some (.val (toD b0)),o6,o7,o8,o9,o10,o11,o12]
 have t5:dTB (dOp (gEq false) (zai zap (dRO 2 (dR (dC (.int 2)) dR0))) (dC (.int 1))) Z4=.ok (w == 1,Z5):=za4 (zao (Z1:=Z5) (zhG (Z:=Z4) rfl rfl e5) (e:=.int 1) rfl (by rw[zbt rfl rfl,eqI];rfl));obtain ⟨b,st6,hs6,Db,x5⟩ : ∃ b st6,St st6/\Dr n b/\z0 Z4=.ok (.nx,[S,K,some (.own st6),N,A,some (.val (toD b)),o6,o7,o8,o9,o10,o11,o12]):=by
  cases hw:w == 1 with
  |true =>
   rw[hw] at t5;obtain ⟨b,st6,hs6,Db,eb⟩:=zv7 (S:=S) (K:=K) (o5:=some (.val (toD b0))) (o6:=o6) (o7:=o7) (o8:=o8) (o9:=o9) (o10:=o10) (o11:=o11) (o12:=o12) Da hs5;exact ⟨b,st6,hs6,Db,(zdG t5).trans (zaE eb (show 5<13 by decide))⟩
  |false =>
   rw[hw] at t5;exact ⟨b0,st5,hs5,mk hb,(zbF t5).trans rfl⟩
 let ST:Option B:=some (.own st6);let Bt:Option B:=some (.val (toD b));let P:Option B:=some (.val (.lst (lp (zbo n n))));let M:Option B:=some (.val (.lst (lp (rws n a))));let H:Option B:=some (.val (.lst (lp (rws n b))));let Z6:Ev:=[S,K,ST,N,A,Bt,o6,o7,o8,o9,o10,o11,o12]
 let Z7:Ev:=[S,K,ST,N,A,Bt,P,o7,o8,o9,o10,o11,o12]
 let Z8:Ev:=[S,K,ST,N,A,Bt,P,M,H,o9,o10,o11,o12]
 have x6:zaX 6 (zai zdd (dR (zab 3) dR0)) Z6=.ok (.nx,Z7):=zaE (Z1:=Z6) (zdf (Z':=Z6) (d:=.int n) rfl (zpG n6)) (show 6<13 by decide);have x7:zyH (zd1 (dA (rb 4) (dA (rb 5) dA0))) (zlw 7 8) Z7=.ok (.nx,Z8):=by
  have y1:rb 4 Z7=.ok (.lst (lp (rws n a)),Z7):=zaL (zhA (Z':=Z7) (Z'':=Z7) (d:=toD a) rfl rfl (zkO Da));have y2:rb 5 Z7=.ok (.lst (lp (rws n b)),Z7):=zaL (zhA (Z':=Z7) (Z'':=Z7) (d:=toD b) rfl rfl (zkO Db));have y3:zd1 (dA (rb 4) (dA (rb 5) dA0)) Z7=.ok (.tup [.lst (lp (rws n a)),.lst (lp (rws n b))],Z7):=by unfold zd1;rw[zpD y1 (zpD y2 (show dA0 Z7=.ok ([],Z7) from rfl))];rfl
  unfold zyH;rw[y3];rfl
 obtain ⟨Z9,⟨b9,b10,rfl⟩,x8⟩:=zct (u:=λi:Nat=>Dt.int i) (l:=List.range 2) (g:=zbr 9) (body:=tB) (fi:=zdw (dC (.int 2))) (Z:=Z8) (I:=λdn Z=>∃ b9 b10,Z=[S,K,ST,N,A,Bt,P,M,H,b9,b10,o11,o12]) (zm2 (m:=2) (Z1:=Z8) rfl xwd) rfl ⟨o9,o10,rfl⟩
  (λdn c zby e Z ⟨b9,b10,hρ⟩=>by subst hρ;obtain ⟨d10,e10⟩:=zvu (S:=S) (K:=K) (ST:=ST) (o5:=Bt) (o8:=H) (o9:=some (.val (.int (c:Nat)))) (o10:=b10) (o11:=o11) (o12:=o12) Da;exact ⟨_,_,rfl,e10,_,d10,rfl⟩)
 obtain ⟨b11,b12,x9⟩:=ztn (S:=S) (K:=K) (ST:=ST) (o9:=b9) (o10:=b10) (o11:=o11) (o12:=o12) Da Db;refine ⟨ST,N,A,Bt,P,M,H,b9,b10,b11,b12,?_⟩;unfold outer;rw[zag x1,zag x2,zag x3,zag x4,zag x5,zag x6,zag x7,zag x8];exact x9
theorem law_true(ns:List Int):zpB [.val (.scr ns)]=.ok (.bl true,[.val .non]):=by
 let Z0:Ev:=[some (.val (.scr ns)),none,none,none,none,none,none,none,none,none,none,none,none]
 obtain ⟨j,hj,ej⟩ : ∃ j:Nat,j<=1000/\dFn zk2 (dA (dC (.int 1)) (dA (dFn zk9 (dA (dFn zcb (dA (zab 0) dA0)) (dA (dC (.int 4)) dA0))) dA0)) Z0=.ok (.int (j:Nat),Z0):=by
  have h0:dFn zk2 (dA (dC (.int 1)) (dA (dFn zk9 (dA (dFn zcb (dA (zab 0) dA0)) (dA (dC (.int 4)) dA0))) dA0)) Z0=.ok (.int (if (if (4:Int)<ns.length then (4:Int) else ns.length) > 1 then (if (4:Int)<ns.length then (4:Int) else ns.length) else 1),Z0):=rfl;obtain ⟨j,h1,h2⟩ : ∃ j:Nat,(j:Int)=(if (if (4:Int)<ns.length then (4:Int) else ns.length) > 1 then (if (4:Int)<ns.length then (4:Int) else ns.length) else 1)/\j<=1000:=by refine ⟨(if (if (4:Int)<ns.length then (4:Int) else ns.length) > 1 then (if (4:Int)<ns.length then (4:Int) else ns.length) else 1).toNat,?_,?_⟩ <;> split <;> split <;> lia
  refine ⟨j,h2,?_⟩;rw[h0,h1]
 obtain ⟨Z',⟨a1,a2,a3,a4,a5,a6,a7,a8,a9,a10,a11,a12,rfl⟩,e⟩:=zct (u:=λi:Nat=>Dt.int i) (l:=List.range j) (g:=zbr 1) (body:=outer) (Z:=Z0)
  (I:=λ_ Z=>∃ a1 a2 a3 a4 a5 a6 a7 a8 a9 a10 a11 a12,Z=[some (.val (.scr ns)),a1,a2,a3,a4,a5,a6,a7,a8,a9,a10,a11,a12]) (zm2 ej hj) rfl ⟨none,none,none,none,none,none,none,none,none,none,none,none,rfl⟩
  (λdn k zby _ Z ⟨a1,a2,a3,a4,a5,a6,a7,a8,a9,a10,a11,a12,hρ⟩=>by subst hρ;obtain ⟨b2,b3,b4,b5,b6,b7,b8,b9,b10,b11,b12,e⟩:=zp7 (ns:=ns) (k:=k) (o2:=a2) (o3:=a3) (o4:=a4) (o5:=a5) (o6:=a6) (o7:=a7) (o8:=a8) (o9:=a9) (o10:=a10) (o11:=a11) (o12:=a12);exact ⟨[some (.val (.scr ns)),some (.val (.int k)),a2,a3,a4,a5,a6,a7,a8,a9,a10,a11,a12],_,rfl,e,_,_,_,_,_,_,_,_,_,_,_,_,rfl⟩)
 refine zak (Z':=[some (.val (.scr ns)),a1,a2,a3,a4,a5,a6,a7,a8,a9,a10,a11,a12]) rfl ?_ rfl;show zvM Z0=_;rw[zwf,zag e];rfl
end LQ
end
section
namespace Lw
open PySem PySem.Spec L2 PV
section
variable{K:W.Frag}{h:Heap}{mg:Str->Option Value}(X:K.In h)(G:h.Ns mainGlobals mg)
include X G in
theorem fe{x:String}{i:Nat}{f:Addr}{od an:Option Addr}{sl:Array (Option Value)}{oc kV dc pm cd ct:Value}(a:W.nsIn K mainGlobals (Str.ofString x)=some (some (.ref f)))(l:K.lookup f=some ⟨oc,od,.func (W.fnOf (Str.ofString x) (Str.ofString x) (zgs (top i)) (zdA (top i)) (zam (top i)) .none kV dc pm an cd ct),sl⟩)(c:W.codeIn K cd (Str.ofString x)=true)(k:W.keepIn K (.ref f)=true):Uf K mg x i:=⟨_,_,zu2 (st:=top i) l c k,W.mg_of X G a⟩
include X G in
theorem ct{x:Str}{i:Int}{t:Tok}(m:W.nsIn K mainGlobals x=some (some (.int i t))):∃ t,mg x=some (.int i t):=⟨_,W.mg_of X G m⟩
include X G in
theorem fin{l:W.OpenLaw}{w:World}{fa g:Addr}(hfa:mg "law"=some (.ref fa)){oe ao:Option Addr}{sm:Array (Option Value)}{o2 k2 d2 p2 cM c2:Value}(T:Tx K mg)
  (b:W.nsIn K mainGlobals (Str.ofString "law")=some (some (.ref g))) (lb:K.lookup g=some ⟨o2,oe,.func (W.fnOf (Str.ofString "law") (Str.ofString "law") (zgs (top 54)) (zdA (top 54)) (zam (top 54)) .none k2 d2 p2 ao cM c2),sm⟩) (cb:W.codeIn K cM (Str.ofString "law")=true) (kb:W.keepIn K (.ref g)=true) :
  ∃ fd:FuncData,(∀(s:Shared)(v:Value),BindsTo s fd ⟨[v],[]⟩ [("script",v)])/\∀ base:Heap,K.In base->base.Ns mainGlobals mg->zgi l.prog w K mg base CX0 114 fa fd ["script"] (zph false K (λ_=>.none) [false] zpB):=by
 have e:=hfa.symm.trans (W.mg_of X G b);cases e;exact ⟨W.fnOf "law" "law" (zgs (top 54)) (zdA (top 54)) (zam (top 54)) .none k2 d2 p2 ao cM c2,λs v=>.of_eq rfl,λbase _ _=>zz5 T (zu2 (st:=top 54) lb cb kb)⟩
end
theorem zwt{K:W.Frag}{H:Hp}{a:Addr}{ns:List Int}(hS:SqL K H a (ns.map V.int)):zph false K (λ_=>.none) [false] zpB [.ref a] H (λv _=>v=.bl true) λ_ _ _=>False:=by
 refine ⟨H,λ_=>none,[.val (.scr ns)],rfl,rfl,⟨zea.refl _,λb e=>absurd rfl e,λb e=>absurd rfl e,rfl,λj b v e1 e2=>?_⟩,?_⟩
 ·cases j with
  |zero=>simp at e1 e2;subst e1;subst e2;show Rep K H (.scr ns) (.ref a);unfold Rep;exact ⟨a,rfl,hS⟩
  |succ j=>simp at e1
 ·rw[LQ.law_true ns];intro v G1 H1 w1 _ _ q;exact zfW (K:=K) (G:=G1) q
theorem walk{l:W.OpenLaw}{q:Program}{loose:List Str}{XP:(Str->Option Value)->Heap->Prop}{YP:World->Heap->Prop}{d:DefRec}{K:Params->W.Frag}(hn:l.most=some 63)(hdf:d.params.defaults=[])
  (hY:∀(w:World)(h:Heap),YP w h->(K w.params).In h)
  (F:∀(w:World)(mg:Str->Option Value)(fa:Addr)(h:Heap),(K w.params).In h->h.Ns mainGlobals mg->mg d.name=some (.ref fa) ->
   ∃ fd:FuncData,(∀(s:Shared)(u:Value),BindsTo s fd ⟨[u],[]⟩ [("script",u)])/\∀ base:Heap,(K w.params).In base->base.Ns mainGlobals mg->zgi l.prog w (K w.params) mg base CX0 114 fa fd ["script"] (zph false (K w.params) (λ_=>.none) [false] zpB)) :
  W.WalkO q loose XP YP l.row.toRowW d [] (λf vs=>PySem.call f vs) :=
 L2.walk_of (n:=63) (k:=114) (x:="script") (CX:=λ_=>CX0) (sp:=λw=>zph false (K w.params) (λ_=>.none) [false] zpB) hn xwd hdf ⟨rfl,xwd,xwd⟩ hY F (λ_ _ _ _ _ _ hS=>zwt hS) λ_ _ _ _ _ z=>z
end Lw
def PySem.W.Fast.tw12182850365415708422:=0
def PySem.W.Fast.tw15392665673964418174:=0
def PySem.W.Fast.tw4665723707147761411:=0
def PySem.W.Fast.tw4933610867359998914:=0
def PySem.W.Fast.tw18054279713612382659:=0
def PySem.W.Fast.tw1647063594064645705:=0
def PySem.W.Fast.tw14151381566847675566:=0
def PySem.W.Fast.tw11373118627372747715:=0
def PySem.W.Fast.tw10161897067381965893:=0
def PySem.W.Fast.tw9831278515138925147:=0
def PySem.W.Fast.tw7639173793586431601:=0
def PySem.W.Fast.tw10679593824116758873:=0
def PySem.W.Fast.tw12535863603820957605:=0
def PySem.W.Fast.tw10292551725727454400:=0
def PySem.W.Fast.tw18021613617272451625:=0
def PySem.W.Fast.tw5325117184407905267:=0
def PySem.W.Fast.tw6398231104343823821:=0
def PySem.W.Fast.tw10571203061744698394:=0
def PySem.W.Fast.tw16813738794893077631:=0
def PySem.W.Fast.tw4723717175157030702:=0
def PySem.W.Fast.tw13640104724473860690:=0
def PySem.W.Fast.tw6324964539159679632:=0
def PySem.W.Fast.tw12182800274025059266:=0
def PySem.W.Fast.tw17759891500889751615:=0
def PySem.W.Fast.tw9410757542074212304:=0
def PySem.W.Fast.tw13251144108506536447:=0
def PySem.W.Fast.tw13845553113711423116:=0
def PySem.W.Fast.tw13747090812482629291:=0
def PySem.W.Fast.tw9120680857104682616:=0
def PySem.W.Fast.tw16325626737511785505:=0
def PySem.W.Fast.tw13631578934982143739:=0
def PySem.W.Fast.tw12062149557607119086:=0
def PySem.W.Fast.tw12665329296362873632:=0
def PySem.W.Fast.tw1652757075723301050:=0
def PySem.W.Fast.tw8158824017577329302:=0
def PySem.W.Fast.tw11347031644337116840:=0
def PySem.W.Fast.tw18397108068403042629:=0
def PySem.W.Fast.tw5925406117292404704:=0
def PySem.W.Fast.tw8779801800944420316:=0
def PySem.W.Fast.tw1806224534934762476:=0
def PySem.W.Fast.tw9563893647495955725:=0
def PySem.W.Fast.tw4098041063623201856:=0
def PySem.W.Fast.tw1739389485264260383:=0
def PySem.W.Fast.tw1432699701881962661:=0
def PySem.W.Fast.tw12534533213545311935:=0
def PySem.W.Fast.tw5325401537776137840:=0
def PySem.W.Fast.tw7804949295716455161:=0
def PySem.W.Fast.tw2871767865337673644:=0
def PySem.W.Fast.tw14990519998738022029:=0
def PySem.W.Fast.tw14017930425861407231:=0
def PySem.W.Fast.tw13197746246603640562:=0
def PySem.W.Fast.tw3057096406213049285:=0
def PySem.W.Fast.tw15933446067717447136:=0
open PySem PySem.W PyProof.Rows
set_option maxRecDepth 100000 in
set_option maxHeartbeats 0 in
theorem PySem.Challenge.cw_standtogether_k12_parties_of_trees_holds : PySem.Challenge.rw_standtogether_k12_parties_of_trees.Holds := by
  w_on; o_law; k_head; (case hw => w_witness2)
  k_fill
  refine Lw.walk (l := PySem.Challenge.rw_standtogether_k12_parties_of_trees) rfl rfl (fun w h Y => PySem.W.kIn_of Y) ?F
  case F =>
    intro w mg fa h KX G hmg
    refine' Lw.fin KX G hmg ⟨Lw.fe KX G ?_ ?_ ?_ ?_,Lw.fe KX G ?_ ?_ ?_ ?_,Lw.fe KX G ?_ ?_ ?_ ?_,Lw.fe KX G ?_ ?_ ?_ ?_,Lw.fe KX G ?_ ?_ ?_ ?_,Lw.fe KX G ?_ ?_ ?_ ?_,Lw.fe KX G ?_ ?_ ?_ ?_,Lw.fe KX G ?_ ?_ ?_ ?_,
     Lw.fe KX G ?_ ?_ ?_ ?_,Lw.fe KX G ?_ ?_ ?_ ?_,Lw.fe KX G ?_ ?_ ?_ ?_,Lw.fe KX G ?_ ?_ ?_ ?_,Lw.fe KX G ?_ ?_ ?_ ?_,Lw.fe KX G ?_ ?_ ?_ ?_,Lw.fe KX G ?_ ?_ ?_ ?_,Lw.fe KX G ?_ ?_ ?_ ?_,
     Lw.fe KX G ?_ ?_ ?_ ?_,Lw.fe KX G ?_ ?_ ?_ ?_,Lw.fe KX G ?_ ?_ ?_ ?_,Lw.fe KX G ?_ ?_ ?_ ?_,Lw.fe KX G ?_ ?_ ?_ ?_,Lw.fe KX G ?_ ?_ ?_ ?_,Lw.fe KX G ?_ ?_ ?_ ?_,Lw.fe KX G ?_ ?_ ?_ ?_,
     Lw.fe KX G ?_ ?_ ?_ ?_,Lw.fe KX G ?_ ?_ ?_ ?_,Lw.fe KX G ?_ ?_ ?_ ?_,Lw.fe KX G ?_ ?_ ?_ ?_,Lw.fe KX G ?_ ?_ ?_ ?_,Lw.fe KX G ?_ ?_ ?_ ?_,Lw.fe KX G ?_ ?_ ?_ ?_,Lw.fe KX G ?_ ?_ ?_ ?_,
     Lw.fe KX G ?_ ?_ ?_ ?_,Lw.fe KX G ?_ ?_ ?_ ?_,Lw.fe KX G ?_ ?_ ?_ ?_,Lw.fe KX G ?_ ?_ ?_ ?_,Lw.fe KX G ?_ ?_ ?_ ?_,Lw.fe KX G ?_ ?_ ?_ ?_,Lw.fe KX G ?_ ?_ ?_ ?_,Lw.fe KX G ?_ ?_ ?_ ?_,
     Lw.fe KX G ?_ ?_ ?_ ?_,Lw.fe KX G ?_ ?_ ?_ ?_,Lw.fe KX G ?_ ?_ ?_ ?_,PySem.W.mg_none_of KX G ?_,PySem.W.mg_none_of KX G ?_,PySem.W.mg_none_of KX G ?_,PySem.W.mg_none_of KX G ?_,PySem.W.mg_none_of KX G ?_,
     PySem.W.mg_none_of KX G ?_,PySem.W.mg_none_of KX G ?_,PySem.W.mg_none_of KX G ?_,PySem.W.mg_none_of KX G ?_,PySem.W.mg_none_of KX G ?_,PySem.W.mg_none_of KX G ?_,PySem.W.mg_none_of KX G ?_,PySem.W.mg_none_of KX G ?_,
     Lw.ct KX G ?_,Lw.ct KX G ?_,Lw.ct KX G ?_,Lw.ct KX G ?_⟩ ?_ ?_ ?_ ?_
    all_goals try first | k_is | kernel_rfl
end
