import PyProof.Rows.All
import Wide.All
import OpenK.AllK
import Wide.FinOn
import Lean
import PyProof.EqAt
import PyProof.EqKinds
import PyProof.TupleCall
import PySem.Challenge.RW_standtogether_k13_all_parties_held
set_option Elab.async false
set_option linter.all false
set_option maxRecDepth 100000
set_option maxRecDepth 1000000
set_option maxHeartbeats 4000000
section
open PySem PySem.Spec PyProof.Rows
theorem xwo{p:Prop}(h:p:=by omega):p:=h
theorem xwl{p:Prop}(h:p:=by lia):p:=h
theorem xws{p:Prop}(h:p:=by simp):p:=h
theorem xwk{p:Prop}(h:p:=by kernel_rfl):p:=h
theorem xwd{p:Prop}(h:p:=by decide):p:=h
theorem xwD{p:Prop}(h:p:=by decide +kernel):p:=h
theorem xwO{p:Prop}(h:p:=by first|exact Or.inl rfl|exact Or.inr rfl):p:=h
theorem xwV{p:Prop}(h:p:=by first|exact Or.inl rfl|exact Or.inr (Or.inl rfl)|exact Or.inr (Or.inr rfl)):p:=h
theorem xwA{p:Prop}(h:p:=by first|exact .inl rfl|exact .inr rfl|assumption):p:=h
theorem xwN{i:Nat}{l:List Nat}(h:l.contains i=false):i∉l:=λm=>by rw[List.contains_iff_mem.mpr m] at h;cases h
def waa:=@Heap.get?_push_of_some
def wab:=@wpAny_bind
def wac:=@List.getElem?_eq_getElem
def wad:=@wpAny_pure
def wae:=@Bool.and_eq_true
def waf:=@List.size_toArray
def wag:=@List.length_map
def wah:=@List.mem_cons_of_mem
def wai:=@Heap.lt_size
def waj:=@Heap.get?_push_size
def wak:=@List.not_mem_nil
def wal:=@Nat.le_refl
def wam:=@List.getElem?_eq_some_iff
def wan:=@List.length_cons
def wap:=@List.mem_cons
def war:=@decide_eq_true_eq
def was:=@Nat.lt_of_lt_of_le
def wat:=@decide_eq_true
def wau:=@List.mem_cons_self
def wav:=@List.length_append
def waw:=@decide_eq_false
def wax:=@List.mem_append
def way:=@List.getElem?_set_self
def waz:=@List.mem_append_right
def waA:=@Option.some.inj
def waH:=@List.mem_of_getElem?
def waI:=@List.exists_cons_of_ne_nil
def waL:=@Nat.lt_irrefl
def waM:=@Nat.ne_of_lt
def waN:=@Nat.le_trans
def waO:=@False.elim
def waR:=@List.mem_append_left
def waT:=@Nat.le_add_right
end
section
namespace L2
open PySem PySem.Spec PyProof.Rows
abbrev Key:=Sum Int Str
def zw1:Key->Value->Bool
 |.inl k,v=>Value.isInt k v
 |.inr x,v=>Value.isStrOf x v
def keyH(w:World):Key->Int
 |.inl k=>hashInt k
 |.inr x=>hashStr w x
theorem zbq:∀{k:Key}{v:Value},zw1 k v=true->(∃ i t,k=Sum.inl i/\v=Value.int i t)\/(∃ x t,k=Sum.inr x/\v=Value.str x t)
 |.inl i,v,h=>by obtain ⟨t,e⟩:=Value.isInt_shape (k:=i) (v:=v) h;exact .inl ⟨i,t,rfl,e⟩
 |.inr x,v,h=>by obtain ⟨t,e⟩:=Value.isStrOf_shape (x:=x) (v:=v) h;exact .inr ⟨x,t,rfl,e⟩
theorem zwg(a b:Int):decide ((Sum.inl a:Key)=Sum.inl b)=(a == b):=by
 by_cases e:a=b
 ·subst e;simp
 ·have h:¬ (Sum.inl a:Key)=Sum.inl b:=λq=>e (Sum.inl.inj q);rw[decide_eq_false h];exact (beq_eq_false_iff_ne.mpr e).symm
theorem zxt(a b:Str):decide ((Sum.inr a:Key)=Sum.inr b)=decide (a=b):=by
 by_cases e:a=b
 ·subst e;simp
 ·have h:¬ (Sum.inr a:Key)=Sum.inr b:=λq=>e (Sum.inr.inj q);rw[decide_eq_false h,decide_eq_false e]
theorem zwL(a:Int)(b:Str):decide ((Sum.inl a:Key)=Sum.inr b)=false:=waw (λq=>nomatch q)
theorem zwX(a:Str)(b:Int):decide ((Sum.inr a:Key)=Sum.inl b)=false:=waw (λq=>nomatch q)
def zpx(prog:Program)(w:World):PySem.KeyKind prog w Key where
 is:=zw1
 hash:=keyH w
 inj:=λv a b ha hb=>by
  rcases zbq ha with ⟨i,t,rfl,rfl⟩|⟨x,t,rfl,rfl⟩
  ·rcases zbq hb with ⟨j,u,rfl,e⟩|⟨y,u,rfl,e⟩
   ·injection e with e1 _;rw[e1]
   ·exact nomatch e
  ·rcases zbq hb with ⟨j,u,rfl,e⟩|⟨y,u,rfl,e⟩
   ·exact nomatch e
   ·injection e with e1 _;rw[e1]
 byValue:=λk v h=>by rcases zbq h with ⟨i,t,rfl,rfl⟩|⟨x,t,rfl,rfl⟩ <;> rfl
 pyHash:=λhv h=>by
  rcases zbq hv with ⟨i,t,rfl,rfl⟩|⟨x,t,rfl,rfl⟩
  ·exact wpAny_pyHash_int h
  ·exact wpAny_pyHash_str h
 eqBool:=λhu hv h=>by
  rcases zbq hu with ⟨i,t,rfl,rfl⟩|⟨x,t,rfl,rfl⟩
  ·rcases zbq hv with ⟨j,u,rfl,rfl⟩|⟨y,u,rfl,rfl⟩
   ·rw[zwg] at h;exact wpAny_eqBool_int h
   ·rw[zwL] at h;exact SeqAt.EqAt.int_str i t y u _ _ _ _ h
  ·rcases zbq hv with ⟨j,u,rfl,rfl⟩|⟨y,u,rfl,rfl⟩
   ·rw[zwX] at h;exact SeqAt.EqAt.str_int x t j u _ _ _ _ h
   ·rw[zxt] at h;exact wpAny_eqBool_str h
 «strs» := λk x t v h=>by
  rcases zbq h with ⟨i,u,rfl,e⟩|⟨y,u,rfl,e⟩
  ·exact nomatch e
  ·injection e with e1 _;subst e1;cases v <;> rfl
end L2
namespace L2
open PySem PySem.Spec PyProof.Rows
inductive V where
 |non|bl (b:Bool)|int (i:Int)|str (x:Str)|byt (b:Array UInt8)|flt (b:UInt64)|ref (a:Addr)|ty (n:String)
 deriving DecidableEq
def zch:V->Value->Prop
 |.non,u=>u=Value.none
 |.bl b,u=>u=Value.bool b
 |.int i,u=>∃ t,u=Value.int i t
 |.str x,u=>∃ t,u=Value.str x t
 |.byt b,u=>∃ t,u=Value.bytes b t
 |.flt b,u=>∃ t,u=Value.float b t
 |.ref a,u=>u=Value.ref a
 |.ty n,u=>u=Value.type n
abbrev zaY:List V->List Value->Prop:=Paired zch
theorem zaY.length{xs:List V}{us:List Value}(r:zaY xs us):xs.length=us.length:=Paired.length r
theorem zaY.get:∀{xs:List V}{us:List Value}{i:Nat}{x:V},zaY xs us->xs[i]? = some x->∃ u,us[i]? = some u/\zch x u
 |_,_,_,_,.nil,e=>by simp at e
 |_,_,0,_,.cons r _,e=>by simp at e;subst e;exact ⟨_,rfl,r⟩
 |_,_,i+1,x,.cons _ t,e=>by obtain ⟨u,h1,h2⟩:=zaY.get (i:=i) (x:=x) t (by simpa using e);exact ⟨u,by simpa using h1,h2⟩
theorem zaY.set{x:V}{u:Value}(r:zch x u):∀{xs:List V}{us:List Value}(i:Nat),zaY xs us->zaY (xs.set i x) (us.set i u)
 |_,_,_,.nil=>.nil
 |_,_,0,.cons _ t=>.cons r t
 |_,_,i+1,.cons q t=>.cons q (zaY.set r i t)
theorem zaY.append:∀{xs ys:List V}{us ws:List Value},zaY xs us->zaY ys ws->zaY (xs++ys) (us++ws)
 |_,_,_,_,.nil,s=>s
 |_,_,_,_,.cons r t,s=>.cons r (zaY.append t s)
theorem zaY.take:∀{xs:List V}{us:List Value}(n:Nat),zaY xs us->zaY (xs.take n) (us.take n)
 |_,_,0,_=>.nil
 |_,_,_+1,.nil=>.nil
 |_,_,n+1,.cons r t=>.cons r (zaY.take n t)
theorem zaY.drop:∀{xs:List V}{us:List Value}(n:Nat),zaY xs us->zaY (xs.drop n) (us.drop n)
 |_,_,0,r=>r
 |_,_,_+1,.nil=>.nil
 |_,_,n+1,.cons _ t=>zaY.drop n t
def RelO:Option V->Option Value->Prop
 |some v,some u=>zch v u
 |none,none=>True
 |_,_=>False
def KV{κ:Type}:List (κ×V)->List (κ×Value)->Prop:=Paired λ(p:κ×V) (q:κ×Value)=>p.1=q.1/\zch p.2 q.2
def kV:Key->V
 |.inl i=>.int i
 |.inr x=>.str x
inductive HO where
  |lst (xs:List V)
  |tup (xs:List V)
  |dK (kvs:List (Key×V))|dT (kvs:List (List Key×V))
  |set (S:Int->Bool) (n:Nat)
  |ins (C dx:Addr) (fs:List (Str×V))
  |own (x:Addr)
  |xd (fs:List (Str×V))
  |met (f x:Addr)
  |rng (lo hi:Int)
  |frz (o:Obj) (u:HO)
  |tbl (ps:Array Value)
  |ext (φ : Heap->Prop)
abbrev Hp:=Addr->Option HO
def upd(H:Hp)(a:Addr)(o:HO):Hp:=λb=>if b=a then some o else H b
theorem zar{H:Hp}{a:Addr}{o:HO}:upd H a o a=some o:=by unfold upd;rw[if_pos rfl]
theorem zat{H:Hp}{a b:Addr}{o:HO}(h:b≠a):upd H a o b=H b:=by unfold upd;rw[if_neg h]
theorem zas{H:Hp}{a b:Addr}{o:HO}(h:H a=some o)(h':H b=none):a≠b:=by intro e;subst e;rw[h] at h';cases h'
section
variable(P:Program)(w:World)
def zeh(H:Hp)(h:Heap)(a:Addr):HO->Prop
 |.lst xs=>xs.length<=sizeLine/\∃(its:List Value)(n:Nat),zaY xs its/\h.get? a=some { cls:=.type "list",data:=.seq its.toArray n }
 |.tup xs=>xs.length<=sizeLine/\∃ its:List Value,zaY xs its/\∃ n,h.get? a=some { cls:=.type "tuple",data:=.seq its.toArray n }
 |.dK kvs=>kvs.length<=sizeLine/\(a == sysModules)=false/\∃ vs,KV kvs vs/\h.DictOf (zpx P w) a vs
 |.dT kvs=>kvs.length<=sizeLine/\(a == sysModules)=false/\∃ xs:List (List Key×Addr×Value),
   Paired (λ(p:List Key×V) (q:List Key×Addr×Value)=>p.1=q.1/\H q.2.1=some (.tup (p.1.map kV))/\zch p.2 q.2.2) kvs xs /\
   ∃ o es ep,h.get? a=some o/\o.ExactDict/\o.data=.dict es ep/\es.toList=xs.map (entryOfKey (tupleKind (zpx P w)))/\(xs.map (·.1)).Nodup
 |.set S n=>h.SetOf (intKind P w) a S n
 |.ins C dx fs=>H dx=some (.own a)/\fs.length<=1000/\dx≠a/\h.get? a=some (W.instObj C dx) /\
   ∃ mA,h.Ns1 dx mA/\(∀ f,RelO (fs.lookup f) (mA f))/\PySem.Within mA (fs.map (·.1))
 |.own _=>∃ o,h.get? a=some o
 |.xd fs=>∃ mA,h.Ns1 a mA/\∀ f,RelO (fs.lookup f) (mA f)
 |.rng lo hi=>∃ t u v,h.get? a=some { cls:=.type "range",data:=.fields #[.int lo t,.int hi u,.int 1 v] }
 |.frz o u=>h.get? a=some o/\zeh H h a u
 |.tbl ps=>h.get? a=some { cls:=.none,data:=.fields ps }
 |.met f x=>h.get? a=some (W.methodObj (.ref f) (.ref x))
 |.ext φ => φ h/\(∃ o,h.get? a=some o)/\∀ h1 h2:Heap,φ h1->(∀ o,h1.get? a=some o->h2.get? a=some o)->φ h2
def HOk(H:Hp)(h:Heap):Prop:=∀ a o,H a=some o->zeh P w H h a o
end
section
variable{P:Program}{w:World}{H H':Hp}{h h':Heap}{a:Addr}{o:HO}
theorem zeh.lt(x:zeh P w H h a o):a<h.objs.size:=by
 cases o with
 |lst xs=>obtain ⟨_,_,_,_,e⟩:=x;exact wai e
 |tup xs=>obtain ⟨_,_,_,_,e⟩:=x;exact wai e
 |dK kvs=>obtain ⟨_,_,_,_,o,_,_,e,_⟩:=x;exact wai e
 |dT kvs=>obtain ⟨_,_,_,_,o,_,_,e,_⟩:=x;exact wai e
 |set S n=>obtain ⟨o,_,_,_,e,_⟩:=x;exact wai e
 |ins C dx fs=>obtain ⟨_,_,_,e,_⟩:=x;exact wai e
 |own y=>obtain ⟨_,e⟩:=x;exact wai e
 |xd fs=>obtain ⟨_,⟨_,_,_,e,_⟩,_⟩:=x;exact wai e
 |rng lo hi=>obtain ⟨_,_,_,e⟩:=x;exact wai e
 |frz ob u=>obtain ⟨e,_⟩:=x;exact wai e
 |tbl ps=>exact wai (show h.get? a=some _ from x)
 |met f y=>exact wai (show h.get? a=some _ from x)
 |ext φ => obtain ⟨_,⟨_,e⟩,_⟩:=x;exact wai e
theorem Paired.mapP{α β:Type}{F G:α->β->Prop}:∀{l₁:List α}{l₂:List β},Paired F l₁ l₂->(∀ a b,F a b->G a b)->Paired G l₁ l₂
 |_,_,.nil,_=>.nil
 |_,_,.cons r t,f=>.cons (f _ _ r) (Paired.mapP t f)
theorem zeh.stay(x:zeh P w H h a o)(k:∀ b u,(b=a\/H b=some (.own a))->h.get? b=some u->h'.get? b=some u)
  (ho:∀ b,H b=some (.own a)->H' b=some (.own a)) (ht:∀ b xs,H b=some (.tup xs)->H' b=some (.tup xs)):zeh P w H' h' a o:=by
 induction o with
 |lst xs=>obtain ⟨z,its,n,r,e⟩:=x;exact ⟨z,its,n,r,k _ _ (.inl rfl) e⟩
 |tup xs=>obtain ⟨z,its,r,n,e⟩:=x;exact ⟨z,its,r,n,k _ _ (.inl rfl) e⟩
 |dK kvs=>obtain ⟨z,y,vs,r,ob,es,ep,e,c⟩:=x;exact ⟨z,y,vs,r,ob,es,ep,k _ _ (.inl rfl) e,c⟩
 |dT kvs =>
  obtain ⟨z,y,xs,r,ob,es,ep,e,c⟩:=x;exact ⟨z,y,xs,Paired.mapP r λp q z=>⟨z.1,ht _ _ z.2.1,z.2.2⟩,ob,es,ep,k _ _ (.inl rfl) e,c⟩
 |set S n=>obtain ⟨ob,es,ep,t,e,c⟩:=x;exact ⟨ob,es,ep,t,k _ _ (.inl rfl) e,c⟩
 |ins C dx fs =>
  obtain ⟨d,z,ne,e,mA,⟨od,es,ep,e2,c⟩,r⟩:=x;exact ⟨ho _ d,z,ne,k _ _ (.inl rfl) e,mA,⟨od,es,ep,k _ _ (.inr d) e2,c⟩,r⟩
 |own y=>obtain ⟨ob,e⟩:=x;exact ⟨ob,k _ _ (.inl rfl) e⟩
 |xd fs=>obtain ⟨mA,⟨od,es,ep,e,c⟩,r⟩:=x;exact ⟨mA,⟨od,es,ep,k _ _ (.inl rfl) e,c⟩,r⟩
 |rng lo hi=>obtain ⟨t,u,v,e⟩:=x;exact ⟨t,u,v,k _ _ (.inl rfl) e⟩
 |frz ob u ih=>obtain ⟨e,q⟩:=x;exact ⟨k _ _ (.inl rfl) e,ih q⟩
 |tbl ps =>
  have e:h.get? a=some { cls:=.none,data:=.fields ps }:=x;show h'.get? a=some { cls:=.none,data:=.fields ps };exact k a _ (.inl rfl) e
 |met f y =>
  have e:h.get? a=some (W.methodObj (.ref f) (.ref y)):=x;show h'.get? a=some (W.methodObj (.ref f) (.ref y));exact k a _ (.inl rfl) e
 |ext φ => obtain ⟨p,⟨o,e⟩,st⟩:=x;exact ⟨st _ _ p λo q=>k _ _ (.inl rfl) q,⟨o,k _ _ (.inl rfl) e⟩,st⟩
theorem HOk.lt(x:HOk P w H h)(e:H a=some o):a<h.objs.size:=(x a o e).lt
theorem HOk.fresh(x:HOk P w H h)(e:h.objs.size<=a):H a=none:=by
 cases q:H a with
 |none=>rfl
 |some u=>exact absurd (was (x.lt q) e) (waL _)
theorem HOk.kept(x:HOk P w H h)(k:∀ b u,h.get? b=some u->h'.get? b=some u):HOk P w H h':=λa o e =>
 (x a o e).stay (λb u _ q=>k b u q) (λ_ q=>q) λ_ _ q=>q
theorem HOk.laid(x:HOk P w H h)(k:∀ b u,h.get? b=some u->h'.get? b=some u)(hp:h.objs.size<=a)(new:zeh P w (upd H a o) h' a o):HOk P w (upd H a o) h':=λb u e=>by
 have hn:=x.fresh hp;by_cases hb:b=a
 ·subst hb;rw[zar] at e;cases e;exact new
 ·rw[zat hb] at e;exact (x b u e).stay (λc v _ q=>k c v q) (λc q=>by rw[zat (zas q hn)];exact q) λc xs q=>by rw[zat (zas q hn)];exact q
end
def Rd(H:Hp)(a:Addr)(u:HO):Prop:=H a=some u\/∃ o,H a=some (.frz o u)
theorem Rd.of{H:Hp}{a:Addr}{u:HO}(h:H a=some u):Rd H a u:=.inl h
theorem Rd.ok{P:Program}{w:World}{H:Hp}{h:Heap}{a:Addr}{u:HO}(r:Rd H a u)(x:HOk P w H h):zeh P w H h a u:=by
 rcases r with r|⟨o,r⟩
 ·exact x a u r
 ·obtain ⟨_,q⟩:=x a _ r;exact q
def Mut:Option HO->Prop
 |some (.lst _)=>True
 |some (.dK _)=>True
 |some (.dT _)=>True
 |some (.set _ _)=>True
 |some (.ins _ _ _)=>True
 |some (.ext _)=>True
 |_=>False
section
variable{P:Program}{w:World}{H:Hp}{h h':Heap}{x e:Addr}{o':HO}
theorem HOk.write(ok:HOk P w H h)(mu:Mut (H x))(he:e=x\/H e=some (.own x))(k:∀ b u,b≠e->h.get? b=some u->h'.get? b=some u)(heo:∃ u,h'.get? e=some u)
  (new:zeh P w (upd H x o') h' x o'):HOk P w (upd H x o') h':=λb u q=>by
 have nown:∀ c y,H c=some (.own y)->c≠x:=λc y r z=>by subst z;rw[r] at mu;exact mu
 have ntup:∀ c xs,H c=some (.tup xs)->c≠x:=λc xs r z=>by subst z;rw[r] at mu;exact mu
 by_cases hb:b=x
 ·subst hb;rw[zar] at q;cases q;exact new
 ·rw[zat hb] at q;by_cases hbe:b=e
  ·have q':H b=some (.own x):=by
    rcases he with z|z
    ·exact absurd (hbe.trans z) hb
    ·rw[hbe];exact z
   rw[q] at q';cases q';obtain ⟨v,hv⟩:=heo;exact ⟨v,by rw[hbe];exact hv⟩
  ·refine (ok b u q).stay (λc v hc r=>k c v ?_ r) (λc r=>by rw[zat (nown c b r)];exact r) λc xs r=>by rw[zat (ntup c xs r)];exact r
   rcases hc with rfl|hc
   ·exact hbe
   ·rintro rfl;rcases he with z|z
    ·exact nown c b hc z
    ·rw[hc] at z;cases z;exact hb rfl
end
structure Un(fs ex:List Addr)(H H':Hp)(h h':Heap):Prop where
 keep:∀ b o,h.get? b=some o->H b=none->b∉fs->b∉ex->h'.get? b=some o
 slot:∀ b o,h.get? b=some o->H b=none->b∈fs->b∉ex->∃ sl,h'.get? b=some { o with slots:=sl }
 free:∀ b o,h.get? b=some o->H b=none->b∉ex->H' b=none
 there:∀ b o,h.get? b=some o->b∉ex->∃ o',h'.get? b=some o'
 tups:∀ b xs,H b=some (.tup xs)->H' b=some (.tup xs)
 frzs:∀ b o u,H b=some (.frz o u)->H' b=some (.frz o u)
 tbls:∀ b ps,H b=some (.tbl ps)->∃ more,H' b=some (.tbl (ps++more))
section
variable{fs fs' ex ex':List Addr}{H H1 H2:Hp}{h h1 h2 h':Heap}{a x e:Addr}{o:HO}
theorem Un.any(u:Un fs ex H H1 h h1){b:Addr}{ob:Obj}(q:h.get? b=some ob)(n:H b=none)(hx:b∉ex):∃ sl,h1.get? b=some { ob with slots:=sl }:=by
 by_cases hb:b∈fs
 ·exact u.slot b ob q n hb hx
 ·exact ⟨ob.slots,u.keep b ob q n hb hx⟩
theorem Un.trans(a:Un fs ex H H1 h h1)(b:Un fs ex H1 H2 h1 h2):Un fs ex H H2 h h2 where
 keep:=λc ob q n hc hx=>b.keep c ob (a.keep c ob q n hc hx) (a.free c ob q n hx) hc hx
 slot:=λc ob q n hc hx=>by obtain ⟨sl,e1⟩:=a.slot c ob q n hc hx;obtain ⟨sl',e2⟩:=b.slot c _ e1 (a.free c ob q n hx) hc hx;exact ⟨sl',e2⟩
 free:=λc ob q n hx=>by obtain ⟨o',e1⟩:=a.there c ob q hx;exact b.free c o' e1 (a.free c ob q n hx) hx
 there:=λc ob q hx=>by obtain ⟨o',e1⟩:=a.there c ob q hx;exact b.there c o' e1 hx
 tups:=λc xs q=>b.tups c xs (a.tups c xs q)
 frzs:=λc ob xs q=>b.frzs c ob xs (a.frzs c ob xs q)
 tbls:=λc ps q=>by obtain ⟨m1,e1⟩:=a.tbls c ps q;obtain ⟨m2,e2⟩:=b.tbls c _ e1;exact ⟨m1++m2,by rw[e2,Array.append_assoc]⟩
theorem Un.kept(k:∀ b u,h.get? b=some u->h'.get? b=some u):Un fs ex H H h h' :=
 ⟨λb ob q _ _ _=>k b ob q,λb ob q _ _ _=>⟨ob.slots,k b ob q⟩,λ_ _ _ n _=>n,λb ob q _=>⟨ob,k b ob q⟩,λ_ _ q=>q,λ_ _ _ q=>q,λ_ ps q=>⟨#[],by rw[q];simp⟩⟩
theorem Un.refl:Un fs ex H H h h:=Un.kept λ_ _ q=>q
theorem Un.laid(k:∀ b u,h.get? b=some u->h'.get? b=some u)(hp:h.objs.size<=a)(hn:H a=none):Un fs ex H (upd H a o) h h' where
 keep:=λb u q _ _ _=>k b u q
 slot:=λb u q _ _ _=>⟨u.slots,k b u q⟩
 free:=λb u q n _=>by rw[zat (Nat.ne_of_lt (Nat.lt_of_lt_of_le (Heap.lt_size q) hp))];exact n
 there:=λb u q _=>⟨u,k b u q⟩
 tups:=λb xs q=>by rw[zat (zas q hn)];exact q
 frzs:=λb u xs q=>by rw[zat (zas q hn)];exact q
 tbls:=λb ps q=>⟨#[],by rw[zat (zas q hn),q];simp⟩
theorem Un.write(mu:Mut (H x))(he:e=x\/H e=some (.own x))(k:∀ b u,b≠e->h.get? b=some u->h'.get? b=some u)(heo:∃ u,h'.get? e=some u):Un fs ex H (upd H x o) h h':=by
 have hx:∀ b,H b=none->b≠x:=λb n z=>by subst z;rw[n] at mu;exact mu
 have hb:∀ b,H b=none->b≠e:=λb n z=>by
  subst z;rcases he with r|r
  ·exact hx b n r
  ·rw[n] at r;cases r
 have hm:∀ b u,H b=some u->¬ Mut (some u)->b≠x:=λb u q nm z=>by subst z;rw[q] at mu;exact nm mu
 refine ⟨λb u q n _ _=>k b u (hb b n) q,λb u q n _ _=>⟨u.slots,k b u (hb b n) q⟩,λb u q n _=>by rw[zat (hx b n)];exact n,λb u q _=>?_,
  λb xs q=>by rw[zat (hm b _ q λz=>z)];exact q,λb u xs q=>by rw[zat (hm b _ q λz=>z)];exact q,λb ps q=>⟨#[],by rw[zat (hm b _ q λz=>z),q];simp⟩⟩
 by_cases hbe:b=e
 ·subst hbe;exact heo
 ·exact ⟨u,k b u hbe q⟩
theorem Un.mono(u:Un fs ex H H1 h h1)(hs:∀ b∈fs,b∈fs')(hx:∀ b∈ex,b∈ex'):Un fs' ex' H H1 h h1 :=
 ⟨λb ob q n hb he=>u.keep b ob q n (λz=>hb (hs b z)) λz=>he (hx b z),λ_ _ q n _ he=>u.any q n λz=>he (hx _ z),λb ob q n he=>u.free b ob q n λz=>he (hx b z),λb ob q he=>u.there b ob q λz=>he (hx b z),u.tups,u.frzs,u.tbls⟩
end
def trk(h:Heap)(H:Hp):List Addr:=(List.range h.objs.size).filter λa=>(H a).isSome
def zru(h:Heap)(H:Hp):Heap:=W.hideAll h (trk h H)
theorem zqr(h:Heap)(H:Hp):(zru h H).objs.size=h.objs.size:=W.hideAll_size _ _
theorem zrg{h:Heap}{H:Hp}{b:Addr}{o:Obj}(e:h.get? b=some o)(n:H b=none):(zru h H).get? b=some o :=
 W.hideAll_get _ e λhm=>by have q:(H b).isSome=true:=(List.mem_filter.mp hm).2;rw[n] at q;simp at q
theorem zvn{h:Heap}{H:Hp}{b:Addr}{o:Obj}(e:(zru h H).get? b=some o):h.get? b=some o/\H b=none:=by
 have e':h.get? b=some o:=W.of_hideAll (trk h H) e;refine ⟨e',?_⟩;cases q:H b with
 |none=>rfl
 |some x =>
  have hm:b∈trk h H:=List.mem_filter.mpr ⟨List.mem_range.mpr (wai e'),by simp[q]⟩;have z:(zru h H).get? b=none:=W.hideAll_none (trk h H) hm;rw[z] at e;cases e
def zuV(g h:Heap)(L:Addr):List (Addr×Obj):=(List.range h.objs.size).filterMap λa=>if a=L\/(g.get? a).isSome=true then none else (h.get? a).map λo=>(a,o)
def zbV(g h:Heap)(L d:Addr):List (Addr×Obj):=(zuV g h L).filter λp=>decide (p.1≠d)
end L2
namespace L2
open PySem PySem.Spec PyProof.Rows
structure Mod(K:W.Frag)(mg:Str->Option Value)(base:Heap):Prop where
 kin:K.In base
 glob:base.Ns mainGlobals mg
 blt:∃ mb,base.Ns builtinsNs mb/\∀ x:Str,x≠"__name__"->mb x=bootBuiltins x
 nolimit:base.NoLimit
structure Cx where
 prog:Program
 w:World
 K:W.Frag
 mg:Str->Option Value
 base:Heap
 A:Around
 N:List Str
 s₀:Shared
 H₀:Hp
 env:Env
 outer:List Env
 stack:List Env
 ex:List Addr
 fn:Str->Bool
 calm:Bool
 pn:List (Addr×Obj)
 xe:Value->Shared->Prop
def frs(l:List Env):List Addr:=l.filterMap (·.frame)
abbrev Cx.fs(X:Cx):List Addr:=frs X.outer
def Vis(sc:Scope)(x:Str):Prop:=sc.names.lookup x=some .local\/sc.names.lookup x=some .cell\/sc.names.lookup x=some .free
def Loc(sc:Scope)(x:Str):Prop:=sc.names.lookup x=some .local\/sc.names.lookup x=some .cell
def Look(env:Env)(h:Heap)(m:Str->Option Value)(x:Str)(u:Value):Prop :=
 (env.kindOf x=some .local/\m x=some u)\/((env.kindOf x=some .cell\/env.kindOf x=some .free)/\∃ c,env.cells.lookup x=some c/\h.IsCell c (some u))
structure Cx.Ok(X:Cx):Prop where
 mod:Mod X.K X.mg X.base
 kind:X.env.scope.kind=.function
 glob:X.env.globals=mainGlobals
 blt:X.env.builtins=builtinsNs
 above:X.s₀.heap.objs.size<=X.env.locals
 inj:∀ x y c,X.env.cells.lookup x=some c->X.env.cells.lookup y=some c->x=y
 has:∀ x,(X.env.kindOf x=some .cell\/X.env.kindOf x=some .free)->∃ c,X.env.cells.lookup x=some c
 cab:∀ x c,X.fn x=true->X.env.cells.lookup x=some c->X.s₀.heap.objs.size<=c
 hd:X.calm=true->X.A.handled=none
 frames:X.A.frames=some X.stack
 stk:X.stack=X.outer\/(X.stack=X.env::X.outer/\X.env.frame=some X.env.locals)
 exf:∀ b∈X.ex,b≠X.env.locals/\∀ x c,X.env.cells.lookup x=some c->c≠b
 bs:∀ b o,X.base.get? b=some o->X.s₀.heap.get? b=some o/\X.H₀ b=none
 bsz:X.base.objs.size<=X.s₀.heap.objs.size
 noex:∀ b o,X.base.get? b=some o->b∉X.ex
 exfs:∀ b∈X.ex,b∉X.fs
 funs:X.s₀.heap.FunFrames X.base X.outer
 frf:∀ b∈X.fs,X.H₀ b=none
structure Inv(X:Cx)(pS:List (Addr×Obj))(Y:List (Option V))(H:Hp)(s:Shared):Prop where
 ok:X.Ok
 os:s.os=X.s₀.os
 bare:AllBare s.gens
 base:Un X.fs X.ex X.H₀ H X.s₀.heap s.heap
 loc:∃ m,s.heap.Ns X.env.locals m/\∀(i:Nat)(x:Str)(v:V),X.N[i]? = some x->Y[i]? = some (some v)->Vis X.env.scope x->∃ u,zch v u/\Look X.env s.heap m x u
 cell:∀ x c,X.env.cells.lookup x=some c->∃ v,s.heap.IsCell c v
 free:H X.env.locals=none
 freeC:∀ x c,X.env.cells.lookup x=some c->H c=none
 pin:∀ p∈X.pn++pS,s.heap.get? p.1=some p.2/\H p.1=none/\p.1≠X.env.locals/\p.1∉X.fs/\∀ v,p.2.data≠.cell v
 hok:HOk X.prog X.w H s.heap
 len:Y.length=X.N.length
section
variable{X:Cx}{pS:List (Addr×Obj)}{Y:List (Option V)}{H H':Hp}{s:Shared}{h':Heap}
theorem Cx.Ok.nofr(ok:X.Ok){b:Addr}{o:Obj}(e:X.base.get? b=some o):b∉X.fs:=λhb=>by have:=(ok.funs.mem hb).1;rw[e] at this;cases this
theorem Inv.bs(I:Inv X pS Y H s):∀ b o,X.base.get? b=some o->s.heap.get? b=some o/\H b=none:=λb o e =>
 ⟨I.base.keep b o (I.ok.bs b o e).1 (I.ok.bs b o e).2 (I.ok.nofr e) (I.ok.noex b o e),I.base.free b o (I.ok.bs b o e).1 (I.ok.bs b o e).2 (I.ok.noex b o e)⟩
theorem Inv.bk(I:Inv X pS Y H s):∀ b o,X.base.get? b=some o->s.heap.get? b=some o:=λb o e=>(I.bs b o e).1
theorem Inv.mod(I:Inv X pS Y H s):Mod X.K X.mg X.base:=I.ok.mod
theorem Inv.kIn(I:Inv X pS Y H s):X.K.In s.heap:=I.ok.mod.kin.keeps I.bk
theorem Inv.nolimit(I:Inv X pS Y H s):s.heap.NoLimit:=I.ok.mod.nolimit.keeps I.bk
theorem Inv.fr(I:Inv X pS Y H s):∃ m,Fr X.base X.env.locals s.heap m :=
 let ⟨m,hn,_⟩:=I.loc
 ⟨m,hn,I.bk,waN I.ok.bsz I.ok.above⟩
theorem Inv.lt(I:Inv X pS Y H s):X.env.locals<s.heap.objs.size:=let ⟨_,hn,_⟩:=I.loc;hn.lt
theorem Inv.sz(I:Inv X pS Y H s):X.s₀.heap.objs.size<=s.heap.objs.size:=waN I.ok.above (Nat.le_of_lt I.lt)
theorem Inv.nofs(I:Inv X pS Y H s){a:Addr}(h:s.heap.objs.size<=a):a∉X.fs:=λhb=>by obtain ⟨_,o,ho,_⟩:=I.ok.funs.mem hb;exact absurd (was (wai ho) (waN I.sz h)) (waL _)
theorem Inv.cne(I:Inv X pS Y H s):∀ x c,X.env.cells.lookup x=some c->c≠X.env.locals:=λx c e z=>by obtain ⟨v,o,ho,hd⟩:=I.cell x c e;obtain ⟨m,⟨o',es,ep,ho',hd',_⟩,_⟩:=I.loc;rw[z,ho'] at ho;cases ho;rw[hd'] at hd;cases hd
theorem Inv.funs(I:Inv X pS Y H s):s.heap.FunFrames X.base X.outer:=by
 have all:∀(l:List Env),(∀ b∈frs l,b∈X.fs)->X.s₀.heap.FunFrames X.base l->s.heap.FunFrames X.base l:=by
  intro l
  induction l with
  |nil=>intro _ _;trivial
  |cons env r ih =>
   intro hs hl;obtain ⟨hk,⟨L,o,hf,hn,ho,hd⟩,hr⟩:=hl;have hL:L∈X.fs:=hs L (by unfold frs;rw[List.filterMap_cons,hf];exact wau);obtain ⟨sl,e⟩:=I.base.slot L o ho (I.ok.frf L hL) hL λz=>I.ok.exfs L z hL;exact ⟨hk,⟨L,_,hf,hn,e,hd⟩,ih (λb hb=>hs b (by unfold frs;rw[List.filterMap_cons,hf];exact wah _ hb)) hr⟩
 exact all X.outer (λ_ hb=>hb) I.ok.funs
theorem Inv.stack(I:Inv X pS Y H s):s.heap.FunFrames X.base X.stack:=by
 rcases I.ok.stk with e|⟨e,hf⟩
 ·rw[e];exact I.funs
 ·rw[e];obtain ⟨m,hn,_⟩:=I.loc;refine .cons (by rw[I.ok.kind];decide) hf hn ?_ I.funs;exact Heap.get?_none_of_le (waN I.ok.bsz I.ok.above)
theorem Inv.stkSub(I:Inv X pS Y H s):∀ b∈frs X.stack,b∈X.env.locals::X.fs:=λb hb=>by
 rcases I.ok.stk with e|⟨e,hf⟩
 ·rw[e] at hb;exact wah _ hb
 ·rw[e] at hb;unfold frs at hb;rw[List.filterMap_cons,hf] at hb;exact hb
theorem Inv.stkFree(I:Inv X pS Y H s):∀ b∈frs X.stack,H b=none:=λb hb=>by
 rcases wap.mp (I.stkSub b hb) with e|hb
 ·rw[e];exact I.free
 ·obtain ⟨_,o,ho,_⟩:=I.ok.funs.mem hb;exact I.base.free b o ho (I.ok.frf b hb) λz=>I.ok.exfs b z hb
theorem Inv.step{g':Array GenState}{t':Nat}{d':Drawn}{ch:List Addr}(I:Inv X pS Y H s)
  (hch:∀ b∈ch,(b∈X.ex\/X.s₀.heap.objs.size<=b)/\b≠X.env.locals/\(∀ x c,X.env.cells.lookup x=some c->c≠b)/\∀ p∈X.pn++pS,p.1≠b)
  (keep:∀ b o,b≠X.env.locals->b∉X.fs->b∉ch->s.heap.get? b=some o->H b=none->h'.get? b=some o)
  (slot:∀ b o,b≠X.env.locals->b∈X.fs->b∉ch->s.heap.get? b=some o->H b=none->∃ sl,h'.get? b=some { o with slots:=sl }) (free:∀ b o,b∉ch->s.heap.get? b=some o->H b=none->H' b=none)
  (there:∀ b o,b∉ch->s.heap.get? b=some o->∃ o',h'.get? b=some o')
  (tups:∀ b xs,H b=some (.tup xs)->H' b=some (.tup xs)) (frzs:∀ b o u,H b=some (.frz o u)->H' b=some (.frz o u)) (tbls:∀ b ps,H b=some (.tbl ps)->∃ more,H' b=some (.tbl (ps++more)))
  (ns:∀ m,s.heap.Ns X.env.locals m->h'.Ns X.env.locals m) (hok:HOk X.prog X.w H' h') (hg:AllBare g') :
  Inv X pS Y H' { s with heap:=h',gens:=g',drawn:=d',toks:=t' }:=by
 have neL:∀ b o,X.s₀.heap.get? b=some o->b≠X.env.locals:=λb o e=>waM (was (wai e) I.ok.above);have neC:∀ b o,X.s₀.heap.get? b=some o->b∉X.ex->b∉ch:=λb o e hx hb=>by
  rcases (hch b hb).1 with z|z
  ·exact hx z
  ·exact absurd (was (wai e) z) (waL _)
 have cellK:∀ x c,X.env.cells.lookup x=some c->∀ v,s.heap.IsCell c v->h'.IsCell c v:=λx c e v ⟨o,ho,hd⟩=>by
  have nch:c∉ch:=λz=>(hch c z).2.2.1 x c e rfl;by_cases hc:c∈X.fs
  ·obtain ⟨sl,q⟩:=slot c o (I.cne x c e) hc nch ho (I.freeC x c e);exact ⟨_,q,hd⟩
  ·exact ⟨o,keep c o (I.cne x c e) hc nch ho (I.freeC x c e),hd⟩
 refine ⟨I.ok,I.os,hg,⟨λb o e n hb hx=>?_,λb o e n hb hx=>?_,λb o e n hx=>?_,λb o e hx=>?_,λb xs e=>tups b xs (I.base.tups b xs e),λb o xs e=>frzs b o xs (I.base.frzs b o xs e),λb ps e=>?_⟩,?_,λx c e=>?_,?_,λx c e=>?_,λp hp=>?_,hok,I.len⟩
 ·exact keep b o (neL b o e) hb (neC b o e hx) (I.base.keep b o e n hb hx) (I.base.free b o e n hx)
 ·obtain ⟨sl,e1⟩:=I.base.slot b o e n hb hx;obtain ⟨sl',e2⟩:=slot b _ (neL b o e) hb (neC b o e hx) e1 (I.base.free b o e n hx);exact ⟨sl',e2⟩
 ·obtain ⟨o',e1⟩:=I.base.there b o e hx;exact free b o' (neC b o e hx) e1 (I.base.free b o e n hx)
 ·obtain ⟨o',e1⟩:=I.base.there b o e hx;exact there b o' (neC b o e hx) e1
 ·obtain ⟨m1,e1⟩:=I.base.tbls b ps e;obtain ⟨m2,e2⟩:=tbls b _ e1;exact ⟨m1++m2,by rw[e2,Array.append_assoc]⟩
 ·obtain ⟨m,hn,hl⟩:=I.loc;refine ⟨m,ns m hn,λi x v e1 e2 e3=>?_⟩;obtain ⟨u,r,l⟩:=hl i x v e1 e2 e3;refine ⟨u,r,?_⟩;rcases l with l|⟨k,c,e,z⟩
  ·exact .inl l
  ·exact .inr ⟨k,c,e,cellK x c e _ z⟩
 ·obtain ⟨v,z⟩:=I.cell x c e;exact ⟨v,cellK x c e v z⟩
 ·obtain ⟨m,⟨o,_,_,ho,_⟩,_⟩:=I.loc;exact free _ o (λz=>(hch _ z).2.1 rfl) ho I.free
 ·obtain ⟨v,o,ho,hd⟩:=I.cell x c e;exact free c o (λz=>(hch c z).2.2.1 x c e rfl) ho (I.freeC x c e)
 ·obtain ⟨e,n,ne,nf,d⟩:=I.pin p hp;have nch:p.1∉ch:=λz=>(hch p.1 z).2.2.2 p hp rfl;exact ⟨keep p.1 p.2 ne nf nch e n,free p.1 p.2 nch e n,ne,nf,d⟩
theorem Inv.un{t':Nat}(I:Inv X pS Y H s)(u:Un X.fs [] H H' s.heap h')(hok:HOk X.prog X.w H' h'):Inv X pS Y H' { s with heap:=h',toks:=t' }:=by
 obtain ⟨m,⟨o,es,ep,ho,r⟩,_⟩:=id I.loc;obtain ⟨sl,hL⟩:=u.any ho I.free xws;exact I.step (g':=s.gens) (d':=s.drawn) (ch:=[]) (λ_ z=>nomatch z) (λb o _ hb _ e n=>u.keep b o e n hb xws) (λb o _ hb _ e n=>u.slot b o e n hb xws) (λb o _ e n=>u.free b o e n xws) (λb o _ e=>u.there b o e xws) u.tups u.frzs u.tbls (λm' hm=>by obtain ⟨o',es',ep',ho',r'⟩:=hm;rw[ho] at ho';cases ho';exact ⟨_,es',ep',hL,r'⟩) hok I.bare
theorem Inv.call{g':Array GenState}{t':Nat}{d':Drawn}{ch:List Addr}(I:Inv X pS Y H s)(u:Un (frs X.stack) ch H H' s.heap h')(hok:HOk X.prog X.w H' h')(hg:AllBare g')
  (hch:∀ b∈ch,(b∈X.ex\/X.s₀.heap.objs.size<=b)/\b≠X.env.locals/\(∀ x c,X.env.cells.lookup x=some c->c≠b)/\∀ p∈X.pn++pS,p.1≠b) :
  Inv X pS Y H' { s with heap:=h',gens:=g',drawn:=d',toks:=t' }:=by
 obtain ⟨m,⟨o,es,ep,ho,r⟩,_⟩:=id I.loc;obtain ⟨sl,hL⟩:=u.any ho I.free λz=>(hch _ z).2.1 rfl;exact I.step (ch:=ch) hch (λb o hL hb hc e n=>u.keep b o e n (λz=>(wap.mp (I.stkSub b z)).elim hL hb) hc) (λb o _ _ hc e n=>u.any e n hc) (λb o hc e n=>u.free b o e n hc) (λb o hc e=>u.there b o e hc) u.tups u.frzs u.tbls (λm' hm=>by obtain ⟨o',es',ep',ho',r'⟩:=hm;rw[ho] at ho';cases ho';exact ⟨_,es',ep',hL,r'⟩) hok hg
theorem Inv.turned{t':Nat}{it:Addr}(I:Inv X pS Y H s)(k:∀ b o,b≠it->s.heap.get? b=some o->h'.get? b=some o)(hn:H it=none)(hL:it≠X.env.locals)
  (h1:it∈X.ex\/X.s₀.heap.objs.size<=it) (h2:∀ x c,X.env.cells.lookup x=some c->c≠it) (h3:∀ p∈X.pn++pS,p.1≠it):Inv X pS Y H { s with heap:=h',toks:=t' }:=by
 have nit:∀ b u,H b=some u->b≠it:=λb u e z=>by rw[z,hn] at e;cases e
 refine I.step (g':=s.gens) (d':=s.drawn) (ch:=[it]) (λb hb=>?_) (λb o _ _ hc e _=>k b o (λz=>hc (by simp[z])) e) (λb o _ _ hc e _=>⟨o.slots,k b o (λz=>hc (by simp[z])) e⟩) (λ_ _ _ _ n=>n)
  (λb o hc e=>⟨o,k b o (λz=>hc (by simp[z])) e⟩) (λ_ _ e=>e) (λ_ _ _ e=>e) (λb ps e=>⟨#[],by rw[e];simp⟩) (λm hm=>?_) (λb u e=>?_) I.bare
 ·have e:b=it:=by simpa using hb
  subst e;exact ⟨h1,hL,h2,h3⟩
 ·obtain ⟨o,es,ep,ho,r⟩:=hm;exact ⟨o,es,ep,k _ o (Ne.symm hL) ho,r⟩
 ·refine (I.hok b u e).stay (λc v hc q=>k c v ?_ q) (λ_ q=>q) λ_ _ q=>q;rcases hc with z|z
  ·rw[z];exact nit b u e
  ·exact nit c _ z
theorem Inv.tok(I:Inv X pS Y H s)(t:Nat):Inv X pS Y H { s with toks:=t }:=I.un (h':=s.heap) (t':=t) Un.refl I.hok
theorem Inv.kept{t':Nat}(I:Inv X pS Y H s)(k:∀ b u,s.heap.get? b=some u->h'.get? b=some u):Inv X pS Y H { s with heap:=h',toks:=t' }:=I.un (Un.kept k) (I.hok.kept k)
theorem Inv.laid{a:Addr}{o:HO}{t':Nat}(I:Inv X pS Y H s)(k:∀ b u,s.heap.get? b=some u->h'.get? b=some u)(hp:s.heap.objs.size<=a)(new:zeh X.prog X.w (upd H a o) h' a o) :
  Inv X pS Y (upd H a o) { s with heap:=h',toks:=t' }:=I.un (Un.laid k hp (I.hok.fresh hp)) (I.hok.laid k hp new)
theorem Inv.write{x e:Addr}{o:HO}{t':Nat}(I:Inv X pS Y H s)(mu:Mut (H x))(he:e=x\/H e=some (.own x))(k:∀ b u,b≠e->s.heap.get? b=some u->h'.get? b=some u)(heo:∃ u,h'.get? e=some u)
  (new:zeh X.prog X.w (upd H x o) h' x o):Inv X pS Y (upd H x o) { s with heap:=h',toks:=t' }:=I.un (Un.write mu he k heo) (I.hok.write mu he k heo new)
theorem Inv.weak{Y':List (Option V)}(I:Inv X pS Y H s)(hl:Y'.length = Y.length)(w:∀(i:Nat) v,Y'[i]? = some (some v)->Y[i]? = some (some v)):Inv X pS Y' H s :=
 ⟨I.ok,I.os,I.bare,I.base,let ⟨m,hn,hl'⟩:=I.loc;⟨m,hn,λi x v e1 e2 e3=>hl' i x v e1 (w i v e2) e3⟩,I.cell,I.free,I.freeC,I.pin,I.hok,hl.trans I.len⟩
theorem Inv.pins_of{pins':List (Addr×Obj)}(I:Inv X pS Y H s)(h:∀ p∈pins',s.heap.get? p.1=some p.2/\H p.1=none/\p.1≠X.env.locals/\p.1∉X.fs/\∀ v,p.2.data≠.cell v):Inv X pins' Y H s :=
 ⟨I.ok,I.os,I.bare,I.base,I.loc,I.cell,I.free,I.freeC,λp hp=>(wax.mp hp).elim (λz=>I.pin p (waR _ z)) (h p),I.hok,I.len⟩
theorem zmX{N:List Str}(hN:N.Nodup){i j:Nat}{x:Str}(a:N[i]? = some x)(b:N[j]? = some x):i=j:=by obtain ⟨h1,e1⟩:=wam.mp a;obtain ⟨h2,e2⟩:=wam.mp b;exact (List.getElem_inj hN).mp (e1.trans e2.symm)
theorem zhk{M:Model}{A:Around}{E:Value->Shared->Prop}{i:Nat}{x:Str}{v:V}{u:Value}{Q:Unit->Shared->Prop}(I:Inv X pS Y H s)(hN:X.N.Nodup)(hi:X.N[i]? = some x)(hx:Loc X.env.scope x)(r:zch v u)
  (h:∀ s',Inv X pS (Y.set i (some v)) H s'->(∃ a,Heap.SameBut a s.heap s'.heap/\(a=X.env.locals\/X.env.cells.lookup x=some a))->Q () s') (hf:X.fn x=true\/X.env.scope.names.lookup x=some .local:=by exact xwA):wpAny M A (storeName X.env x u) Q E s:=by
 obtain ⟨m,hn,hl⟩:=id I.loc;have hcls:(X.env.scope.kind == .class || (X.env.scope.kind == .module && X.env.locals != X.env.globals))=false:=by rw[I.ok.kind];rfl
 have hiσ:i < Y.length:=by rw[I.len];exact (wam.mp hi).1
 have cne:=I.cne;have tracked:∀{a:Addr}{h':Heap},(∃ o,s.heap.get? a=some o/\H a=none)->Heap.SameBut a s.heap h'->HOk X.prog X.w H h':=λ{a h'} ha hs b ob e=>by
  obtain ⟨_,_,hfree⟩:=ha;refine (I.hok b ob e).stay (λc w' hc q=>(hs.2 c ?_).trans q) (λ_ q=>q) λ_ _ q=>q;rintro rfl;rcases hc with rfl|hc
  ·rw[hfree] at e;cases e
  ·rw[hfree] at hc;cases hc
 rcases hx with hk|hk
 ·refine wpAny_storeName_local hk hn (λh' hn' hs=>?_) hcls;obtain ⟨oL,_,_,hoL,_⟩:=id hn;refine h _ ⟨I.ok,I.os,I.bare,⟨λb o e n hb hx=>?_,λb o e n hb hx=>?_,I.base.free,λb o e hx=>?_,I.base.tups,I.base.frzs,I.base.tbls⟩,⟨_,hn',λj y v' e1 e2 e3=>?_⟩,λy c e=>?_,I.free,I.freeC,λp hp=>?_,tracked ⟨oL,hoL,I.free⟩ hs,by simpa using I.len⟩ ⟨_,hs,.inl rfl⟩
  ·exact (hs.2 b (waM (was (wai e) I.ok.above))).trans (I.base.keep b o e n hb hx)
  ·obtain ⟨sl,e1⟩:=I.base.slot b o e n hb hx;exact ⟨sl,(hs.2 b (waM (was (wai e) I.ok.above))).trans e1⟩
  ·obtain ⟨o',e1⟩:=I.base.there b o e hx;exact ⟨o',(hs.2 b (waM (was (wai e) I.ok.above))).trans e1⟩
  ·by_cases hj:j=i
   ·subst hj;rw[hi] at e1;cases e1;rw[List.getElem?_set_self hiσ] at e2;cases e2;exact ⟨u,r,.inl ⟨hk,xws⟩⟩
   ·rw[List.getElem?_set_ne (Ne.symm hj)] at e2;obtain ⟨u',r',q⟩:=hl j y v' e1 e2 e3;refine ⟨u',r',?_⟩;rcases q with ⟨k,e⟩|⟨k,c,e,z⟩
    ·refine .inl ⟨k,?_⟩;have:y≠x:=λe=>hj (zmX hN e1 (e ▸ hi));simp[this,e]
    ·exact .inr ⟨k,c,e,z.sameBut hs (cne y c e)⟩
  ·obtain ⟨w',z⟩:=I.cell y c e;exact ⟨w',z.sameBut hs (cne y c e)⟩
  ·obtain ⟨e,n,ne,nf,d⟩:=I.pin p hp;exact ⟨(hs.2 p.1 ne).trans e,n,ne,nf,d⟩
 ·have hfn:X.fn x=true:=by
   rcases hf with z|z
   ·exact z
   ·rw[z] at hk;cases hk
  obtain ⟨c,hc⟩:=I.ok.has x (.inl hk);obtain ⟨w',z⟩:=I.cell x c hc;refine wpAny_storeName_cell I.ok.kind hk hc z (λh' hc' hs=>?_);obtain ⟨oc,hoc,hocd⟩:=id z;refine h { s with heap:=h' } ⟨I.ok,I.os,I.bare,⟨λb o e n hb hx=>?_,λb o e n hb hx=>?_,I.base.free,λb o e hx=>?_,I.base.tups,I.base.frzs,I.base.tbls⟩,⟨m,hn.sameBut hs (Ne.symm (cne x c hc)),λj y v' e1 e2 e3=>?_⟩,λy c' e=>?_,I.free,I.freeC,λp hp=>?_,tracked ⟨oc,hoc,I.freeC x c hc⟩ hs,by simpa using I.len⟩ ⟨c,hs,.inr hc⟩
  ·exact (hs.2 b (waM (was (wai e) (I.ok.cab x c hfn hc)))).trans (I.base.keep b o e n hb hx)
  ·obtain ⟨sl,e1⟩:=I.base.slot b o e n hb hx;exact ⟨sl,(hs.2 b (waM (was (wai e) (I.ok.cab x c hfn hc)))).trans e1⟩
  ·obtain ⟨o',e1⟩:=I.base.there b o e hx;exact ⟨o',(hs.2 b (waM (was (wai e) (I.ok.cab x c hfn hc)))).trans e1⟩
  ·by_cases hj:j=i
   ·subst hj;rw[hi] at e1;cases e1;rw[List.getElem?_set_self hiσ] at e2;cases e2;exact ⟨u,r,.inr ⟨.inl hk,c,hc,hc'⟩⟩
   ·rw[List.getElem?_set_ne (Ne.symm hj)] at e2;obtain ⟨u',r',q⟩:=hl j y v' e1 e2 e3;refine ⟨u',r',?_⟩;rcases q with q|⟨k,c',e,z'⟩
    ·exact .inl q
    ·refine .inr ⟨k,c',e,z'.sameBut hs ?_⟩;rintro rfl;exact hj (zmX hN e1 (I.ok.inj _ _ _ e hc ▸ hi))
  ·by_cases hcc:c'=c
   ·subst hcc;exact ⟨_,hc'⟩
   ·obtain ⟨w2,z2⟩:=I.cell y c' e;exact ⟨w2,z2.sameBut hs hcc⟩
  ·obtain ⟨e,n,ne,nf,d⟩:=I.pin p hp;refine ⟨(hs.2 p.1 ?_).trans e,n,ne,nf,d⟩;intro q;rw[q,hoc] at e;have q':oc=p.2:=waA e;exact d w' (by rw[<- q'];exact hocd)
theorem zn9{M:Model}{A:Around}{E:Value->Shared->Prop}{i:Nat}{x:Str}{v:V}{u:Value}{Q:Unit->Shared->Prop}(I:Inv X pS Y H s)(hN:X.N.Nodup)(hi:X.N[i]? = some x)(hx:Loc X.env.scope x)(r:zch v u)
  (h:∀ s',Inv X pS (Y.set i (some v)) H s'->Q () s') (hf:X.fn x=true\/X.env.scope.names.lookup x=some .local:=by exact xwA):wpAny M A (storeName X.env x u) Q E s :=
 zhk I hN hi hx r (λs' I' _=>h s' I') hf
theorem Inv.call'{s':Shared}{ch:List Addr}(I:Inv X pS Y H s)(ho:s'.os=s.os)(u:Un (frs X.stack) ch H H' s.heap s'.heap)(hok:HOk X.prog X.w H' s'.heap)(hg:AllBare s'.gens)
  (hch:∀ b∈ch,(b∈X.ex\/X.s₀.heap.objs.size<=b)/\b≠X.env.locals/\(∀ x c,X.env.cells.lookup x=some c->c≠b)/\∀ p∈X.pn++pS,p.1≠b):Inv X pS Y H' s':=by
 obtain ⟨h',g',d',t',o'⟩:=s';have e:o'=s.os:=ho;subst e;exact I.call (g':=g') (t':=t') (d':=d') u hok hg hch
end
abbrev XK:=Value->Option Addr->Hp->Prop
abbrev St:=List (Option V)
abbrev VK:=V->Hp->Prop
abbrev TE:=St->Hp->VK->Prop
abbrev TT:=St->Hp->(Bool->Hp->Prop)->Prop
abbrev TA:=St->Hp->(List V->Hp->Prop)->Prop
structure zsS where
 nx:St->Hp->Prop
 rt:VK
 bk:St->Hp->Prop:=λ_ _=>False
 ct:St->Hp->Prop:=λ_ _=>False
abbrev TS:=zsS->St->Hp->Prop
def EP(X:Cx)(pS:List (Addr×Obj))(Y:St)(Q:VK)(u:Value)(s':Shared):Prop:=∃ v H',Inv X pS Y H' s'/\zch v u/\Q v H'
def TP(X:Cx)(pS:List (Addr×Obj))(Y:St)(Q:Bool->Hp->Prop)(b:Bool)(s':Shared):Prop:=∃ H',Inv X pS Y H' s'/\Q b H'
def AP(X:Cx)(pS:List (Addr×Obj))(Y:St)(Q:List V->Hp->Prop)(us:List Value)(s':Shared):Prop:=∃ vs H',Inv X pS Y H' s'/\zaY vs us/\Q vs H'
def SP(X:Cx)(pS:List (Addr×Obj))(D:zsS)(f:Flow)(s':Shared):Prop :=
 match f with
 |.next=>∃ Y' H',Inv X pS Y' H' s'/\D.nx Y' H'
 |.brk=>∃ Y' H',Inv X pS Y' H' s'/\D.bk Y' H'
 |.cont=>∃ Y' H',Inv X pS Y' H' s'/\D.ct Y' H'
 |.ret u=>∃ v Y' H',Inv X pS Y' H' s'/\zch v u/\D.rt v H'
def PE(X:Cx)(e:Expr)(t:TE):Prop :=
 ∀(pS:List (Addr×Obj))(s:Shared)(Y:St)(H:Hp)(Q:VK),Inv X pS Y H s->t Y H Q->wpAny (model X.prog X.w) X.A (eval e X.env) (EP X pS Y Q) X.xe s
def PT(X:Cx)(e:Expr)(t:TT):Prop :=
 ∀(pS:List (Addr×Obj))(s:Shared)(Y:St)(H:Hp)(Q:Bool->Hp->Prop),Inv X pS Y H s->t Y H Q->wpAny (model X.prog X.w) X.A (isTrue e X.env (eval e X.env)) (TP X pS Y Q) X.xe s
def PW(X:Cx)(e:Expr)(t:TT):Prop :=
 ∀(whole:Sem Value)(pS:List (Addr×Obj))(s:Shared)(Y:St)(H:Hp)(Q:Bool->Hp->Prop),Inv X pS Y H s->t Y H Q->wpAny (model X.prog X.w) X.A (isTrue e X.env whole) (TP X pS Y Q) X.xe s
theorem PW.pt{X:Cx}{e:Expr}{t:TT}(h:PW X e t):PT X e t:=h _
def PA(X:Cx)(es:List Expr)(t:TA):Prop :=
 ∀(pos:Pos)(pS:List (Addr×Obj))(s:Shared)(Y:St)(H:Hp)(Q:List V->Hp->Prop),Inv X pS Y H s->t Y H Q->wpAny (model X.prog X.w) X.A (spliced (backTo pos (starEach es X.env))) (AP X pS Y Q) X.xe s
def PS(X:Cx)(st:Stmt)(t:TS):Prop :=
 ∀(pS:List (Addr×Obj))(s:Shared)(Y:St)(H:Hp)(D:zsS),Inv X pS Y H s->t D Y H->wpAny (model X.prog X.w) X.A (exec st X.env) (SP X pS D) X.xe s
def PSs(X:Cx)(st:List Stmt)(t:TS):Prop :=
 ∀(pS:List (Addr×Obj))(s:Shared)(Y:St)(H:Hp)(D:zsS),Inv X pS Y H s->t D Y H->wpAny (model X.prog X.w) X.A (execs st X.env) (SP X pS D) X.xe s
theorem thn{α:Type}{t:Sem α}{Q Q':α->Shared->Prop}{M:Model}{A:Around}{E:Value->Shared->Prop}{s:Shared}(h:wpAny M A t Q E s)(hQ:∀ a s,Q a s->Q' a s):wpAny M A t Q' E s:=wpAny_mono h hQ λ_ _ x=>x
end L2
namespace L2
open PySem PySem.Spec PyProof.Rows
section
variable{X:Cx}
def zyv(i:Nat):TE:=λY H Q=>∃ v,Y[i]? = some (some v)/\Q v H
def tC(v:V):TE:=λ_ H Q=>Q v H
theorem zdk{i:Nat}{x:Str}{pos:Pos}(hN:X.N[i]? = some x)(hv:Vis X.env.scope x)(hd:(x == ("__debug__" : Str))=false:=by decide)(hcd:(x == ("__classdict__" : Str))=false:=by decide):PE X (.Name x pos) (zyv i):=by
 intro pS s Y H Q I h;obtain ⟨v,e,h⟩:=h;obtain ⟨m,hn,hl⟩:=I.loc;obtain ⟨u,r,l⟩:=hl i x v hN e hv;have fin:EP X pS Y Q u s:=⟨v,H,I,r,h⟩
 rcases l with ⟨hk,hm⟩|⟨hk,c,hc,hcell⟩
 ·exact wpAny_Name (wpAny_loadName_local I.ok.kind hk hn hm fin) hd
 ·rcases hk with hk|hk
  ·exact wpAny_Name (wpAny_loadName_cell I.ok.kind hk hc hcell fin) hd
  ·exact wpAny_Name (wpAny_loadName_free I.ok.kind hk hc hcell fin hcd) hd
theorem ztC{i j pos}:PE X (.Constant (.int i) j pos) (tC (.int i)):=λ_ _ _ H _ I h=>wpAny_Constant_int ⟨.int i,H,I.tok _,⟨_,rfl⟩,h⟩
theorem zyo{b j pos}:PE X (.Constant (.bool b) j pos) (tC (.bl b)):=λ_ _ _ H _ I h=>Constant_bool ⟨.bl b,H,I,rfl,h⟩
theorem zvR{j pos}:PE X (.Constant .none j pos) (tC .non):=λ_ _ _ H _ I h=>Constant_none ⟨.non,H,I,rfl,h⟩
theorem zx1{x j pos}:PE X (.Constant (.str x) j pos) (tC (.str x)):=λ_ _ _ H _ I h=>Calls.Constant_str ⟨.str x,H,I.tok _,⟨_,rfl⟩,h⟩
def Gl(X:Cx)(x:Str):Prop:=X.env.kindOf x=some .globalImplicit
theorem zqg{E:Value->Shared->Prop}{pS:List (Addr×Obj)}{s:Shared}{Y:St}{H:Hp}{x:Str}{u:Value}{pos:Pos}{Q:Value->Shared->Prop}(I:Inv X pS Y H s)(hg:Gl X x)(hm:X.mg x=some u)(h:Q u s)
  (hd:(x == ("__debug__" : Str))=false:=by decide):wpAny (model X.prog X.w) X.A (eval (.Name x pos) X.env) Q E s :=
 Calls.Name_function_global I.ok.kind hg (Calls.loadGlobal_global (by rw[I.ok.glob];exact I.mod.glob.keeps I.bk) hm h) hd
theorem zdA{E:Value->Shared->Prop}{pS:List (Addr×Obj)}{s:Shared}{Y:St}{H:Hp}{x:Str}{u:Value}{pos:Pos}{Q:Value->Shared->Prop}(I:Inv X pS Y H s)(hg:Gl X x)(hm:X.mg x=none)(hv:bootBuiltins x=some u)(h:Q u s)
  (hn:x≠"__name__":=by decide) (hd:(x == ("__debug__" : Str))=false:=by decide):wpAny (model X.prog X.w) X.A (eval (.Name x pos) X.env) Q E s:=by
 obtain ⟨mb,h1,h2⟩:=I.mod.blt;exact Calls.Name_function_global I.ok.kind hg (Calls.loadGlobal_builtin (by rw[I.ok.glob];exact I.mod.glob.keeps I.bk) hm (by rw[I.ok.blt];exact h1.keeps I.bk) ((h2 x hn).trans hv) h) hd
theorem zpM{x:Str}{v:V}{u:Value}{pos:Pos}(hg:Gl X x)(hm:X.mg x=some u)(r:zch v u)(hd:(x == ("__debug__" : Str))=false:=by decide):PE X (.Name x pos) (tC v) :=
 λ_ _ _ H _ I h=>zqg I hg hm ⟨v,H,I,r,h⟩ hd
theorem zmm{x:Str}{v:V}{u:Value}{pos:Pos}(hg:Gl X x)(hm:X.mg x=none)(hv:bootBuiltins x=some u)(r:zch v u)(hn:x≠"__name__":=by decide)(hd:(x == ("__debug__" : Str))=false:=by decide):PE X (.Name x pos) (tC v) :=
 λ_ _ _ H _ I h=>zdA I hg hm hv ⟨v,H,I,r,h⟩ hn hd
variable{a b:Expr}{ta tb:TE}{pos:Pos}
def PC(X:Cx)(op:CmpOp)(a b:Expr)(t:TE):Prop :=
 ∀(pS:List (Addr×Obj))(s:Shared)(Y:St)(H:Hp)(Q:VK),Inv X pS Y H s->t Y H Q ->
  wpAny (model X.prog X.w) X.A (eval a X.env) (λv s₁=>wpAny (model X.prog X.w) X.A (eval b X.env) (λu s₂=>wpAny (model X.prog X.w) X.A (compareOp op v u) (EP X pS Y Q) X.xe s₂) X.xe s₁) X.xe s
theorem zrr(b:Expr){op:CmpOp}(h:op≠.In)(h2:op≠.NotIn):behindInMarks op b=false:=by
 have e1:(op == CmpOp.In)=false:=by cases op <;> first|rfl|exact absurd rfl h
 have e2:(op == CmpOp.NotIn)=false:=by cases op <;> first|rfl|exact absurd rfl h2
 cases b <;> simp[behindInMarks,e1,e2]
def tIsN(ta:TE):TE:=λY H Q=>ta Y H λx H1=>Q (.bl (decide (x=.non))) H1
theorem zch.none_iff{x:V}{v:Value}(r:zch x v):(v == Value.none)=decide (x=.non):=by
 cases x with
 |non=>cases r;rfl
 |bl _=>cases r;rfl
 |int _=>obtain ⟨t,rfl⟩:=r;rfl
 |str _=>obtain ⟨t,rfl⟩:=r;rfl
 |byt _=>obtain ⟨t,rfl⟩:=r;rfl
 |flt _=>obtain ⟨t,rfl⟩:=r;rfl
 |ref _=>cases r;rfl
 |ty _=>cases r;rfl
theorem zwc{j pos'}(ha:PE X a ta):PC X .Is a (.Constant .none j pos') (tIsN ta):=by intro pS s Y H Q I h;refine thn (ha pS s Y H _ I h) λv s1 ⟨x,H1,I1,r1,q1⟩=>?_;exact Constant_none (is_none_gen ⟨.bl _,H1,I1,by rw[r1.none_iff];rfl,q1⟩)
def tB(t:TE):TT:=λY H Q=>t Y H λx H1=>∃ c,x=.bl c/\Q c H1
theorem zwR{op:CmpOp}{t:TE}(h:PC X op a b t)(h1:behindInMarks op b=false:=by first|exact zrr _ xwd xwd|rfl):PT X (.Compare a [op] [b] pos) (tB t):=by intro pS s Y H Q I hw;refine wpAny_isTrue_Compare1 (thn (h pS s Y H _ I hw) λv s1 h1=>thn h1 λu s2 h2=>thn h2 λc s3 ⟨x,H1,I1,r1,q1⟩=>?_) h1;obtain ⟨d,rfl,q⟩:=q1;cases r1;exact wpAny_truthy_bool ⟨H1,I1,q⟩
theorem zvU{e:Expr}{t:TE}(h:PE X e t)(he:∀ whole,isTrue e X.env whole=(do let v <- whole;standAt e.pos;holding [v] (truthy v)):=by intro _;rfl):PT X e (tB t):=by intro pS s Y H Q I hw;refine isTrue_plain (thn (h pS s Y H _ I hw) λv s1 ⟨x,H1,I1,r1,q1⟩=>?_) (he _);obtain ⟨d,rfl,q⟩:=q1;cases r1;exact wpAny_truthy_bool ⟨H1,I1,q⟩
variable{tA tB':TT}{zbV:List Expr}
def tAnd(t u:TT):TT:=λY H Q=>t Y H λc H1=>if c=true then u Y H1 Q else Q false H1
def tOr(t u:TT):TT:=λY H Q=>t Y H λc H1=>if c=true then Q true H1 else u Y H1 Q
def tNot(t:TT):TT:=λY H Q=>t Y H λc H1=>Q (!c) H1
theorem zug(ha:PT X a tA):PW X (.BoolOp .And [a] pos) tA:=by
 intro wh pS s Y H Q I h;refine isTrue_and (thn (ha pS s Y H Q I h) λc s1 e=>?_);cases c with
 |true=>exact isTrue_and_nil e
 |false=>exact e
theorem zwD(ha:PT X a tA):PW X (.BoolOp .Or [a] pos) tA:=by
 intro wh pS s Y H Q I h;refine isTrue_or (thn (ha pS s Y H Q I h) λc s1 e=>?_);cases c with
 |false=>exact isTrue_or_nil e
 |true=>exact e
theorem zxs(ha:PT X a tA)(hb:PW X (.BoolOp .And (b::zbV) pos) tB'):PW X (.BoolOp .And (a::b::zbV) pos) (tAnd tA tB'):=by
 intro wh pS s Y H Q I h;refine isTrue_and (thn (ha pS s Y H _ I h) λc s1 ⟨H1,I1,q1⟩=>?_);cases c with
 |true=>exact hb wh pS s1 Y H1 Q I1 q1
 |false=>exact ⟨H1,I1,q1⟩
theorem zxX(ha:PT X a tA)(hb:PW X (.BoolOp .Or (b::zbV) pos) tB'):PW X (.BoolOp .Or (a::b::zbV) pos) (tOr tA tB'):=by
 intro wh pS s Y H Q I h;refine isTrue_or (thn (ha pS s Y H _ I h) λc s1 ⟨H1,I1,q1⟩=>?_);cases c with
 |true=>exact ⟨H1,I1,q1⟩
 |false=>exact hb wh pS s1 Y H1 Q I1 q1
theorem zvA(ha:PT X a tA):PT X (.UnaryOp .Not a pos) (tNot tA):=by intro pS s Y H Q I h;exact isTrue_not (ha pS s Y H (λc H1=>Q (!c) H1) I h)
def zxM(ta tb:TE):TE:=λY H Q=>ta Y H λx H1=>∃ c,x=.bl c/\if c=true then tb Y H1 Q else Q (.bl false) H1
def tOrV(ta tb:TE):TE:=λY H Q=>ta Y H λx H1=>∃ c,x=.bl c/\if c=true then Q (.bl true) H1 else tb Y H1 Q
def zye(ta:TE):TE:=λY H Q=>ta Y H λx H1=>∃ c,x=.bl c/\Q (.bl (!c)) H1
theorem zwJ{op}{t:TE}(h:PE X a t):PE X (.BoolOp op [a] pos) t:=λpS s Y H Q I hw=>BoolOp_one (h pS s Y H Q I hw)
theorem zvX(ha:PE X a ta)(hb:PE X (.BoolOp .And (b::zbV) pos) tb):PE X (.BoolOp .And (a::b::zbV) pos) (zxM ta tb):=by
 intro pS s Y H Q I h;refine BoolOp_and (thn (ha pS s Y H _ I h) λv s1 ⟨x,H1,I1,r1,q1⟩=>?_);obtain ⟨c,rfl,q1⟩:=q1;cases r1;refine wpAny_truthy_bool ?_;cases c with
 |true=>exact hb pS s1 Y H1 Q I1 q1
 |false=>exact ⟨.bl false,H1,I1,rfl,q1⟩
theorem zxU(ha:PE X a ta)(hb:PE X (.BoolOp .Or (b::zbV) pos) tb):PE X (.BoolOp .Or (a::b::zbV) pos) (tOrV ta tb):=by
 intro pS s Y H Q I h;refine BoolOp_or (thn (ha pS s Y H _ I h) λv s1 ⟨x,H1,I1,r1,q1⟩=>?_);obtain ⟨c,rfl,q1⟩:=q1;cases r1;refine wpAny_truthy_bool ?_;cases c with
 |false=>exact hb pS s1 Y H1 Q I1 q1
 |true=>exact ⟨.bl true,H1,I1,rfl,q1⟩
theorem zwh(ha:PE X a ta):PE X (.UnaryOp .Not a pos) (zye ta):=by intro pS s Y H Q I h;refine UnaryOp_ (thn (ha pS s Y H _ I h) λv s1 ⟨x,H1,I1,r1,q1⟩=>?_);obtain ⟨c,rfl,q1⟩:=q1;cases r1;exact not_of (wpAny_truthy_bool ⟨.bl (!c),H1,I1,rfl,q1⟩)
def tIf(t:TT)(ta tb:TE):TE:=λY H Q=>t Y H λc H1=>if c=true then ta Y H1 Q else tb Y H1 Q
theorem zs5{c:Expr}(hc:PT X c tA)(ha:PE X a ta)(hb:PE X b tb):PE X (.IfExp c a b pos) (tIf tA ta tb):=by
 intro pS s Y H Q I h;refine wpAny_IfExp (thn (hc pS s Y H _ I h) λd s1 ⟨H1,I1,q1⟩=>?_);cases d with
 |true=>exact ha pS s1 Y H1 Q I1 q1
 |false=>exact hb pS s1 Y H1 Q I1 q1
end
end L2
namespace L2
open PySem PySem.Spec PyProof.Rows
def SqL(K:W.Frag)(H:Hp)(a:Addr)(xs:List V):Prop :=
 Rd H a (.lst xs) \/
  ∃(o:Obj)(its:Array Value)(n:Nat),K.lookup a=some o/\o.cls=.type "list"/\o.dict=none/\o.data=.seq its n/\its.size<=sizeLine/\zaY xs its.toList
def SqT(K:W.Frag)(H:Hp)(a:Addr)(xs:List V):Prop :=
 Rd H a (.tup xs) \/
  ∃(o:Obj)(its:Array Value)(n:Nat),K.lookup a=some o/\o.cls=.type "tuple"/\o.data=.seq its n/\its.size<=sizeLine/\zaY xs its.toList
def absV:Value->Option V
 |.none=>some .non
 |.bool b=>some (.bl b)
 |.int i _=>some (.int i)
 |.str x _=>some (.str x)
 |.bytes b _=>some (.byt b)
 |.float b _=>some (.flt b)
 |.ref a=>some (.ref a)
 |.type n=>some (.ty n)
 |_=>none
theorem zch.abs{x:V}{u:Value}(r:zch x u):absV u=some x:=by
 cases x with
 |non=>cases r;rfl
 |bl _=>cases r;rfl
 |int _=>obtain ⟨t,rfl⟩:=r;rfl
 |str _=>obtain ⟨t,rfl⟩:=r;rfl
 |byt _=>obtain ⟨t,rfl⟩:=r;rfl
 |flt _=>obtain ⟨t,rfl⟩:=r;rfl
 |ref _=>cases r;rfl
 |ty _=>cases r;rfl
theorem zch.inj{x y:V}{u:Value}(r:zch x u)(q:zch y u):x=y:=waA (r.abs.symm.trans q.abs)
theorem zaY.inj:∀{xs ys:List V}{us:List Value},zaY xs us->zaY ys us->xs=ys
 |_,_,_,.nil,.nil=>rfl
 |_,_,_,.cons r t,.cons r' t'=>by rw[r.inj r',zaY.inj t t']
section
variable{X:Cx}{pS:List (Addr×Obj)}{Y:St}{H:Hp}{s:Shared}{a:Addr}{xs ys:List V}
theorem SqL.of{K:W.Frag}(h:H a=some (.lst xs)):SqL K H a xs:=.inl (.inl h)
theorem SqT.of{K:W.Frag}(h:H a=some (.tup xs)):SqT K H a xs:=.inl (.inl h)
theorem Inv.list(I:Inv X pS Y H s)(h:SqL X.K H a xs):∃ its:List Value,zaY xs its/\PlainL s.heap a its.toArray/\xs.length<=sizeLine:=by
 rcases h with h|⟨o,its,n,hk,hc,hd,hs,hz,r⟩
 ·obtain ⟨z,its,n,r,e⟩:=h.ok I.hok;exact ⟨its,r,⟨_,n,e,rfl,rfl,rfl⟩,z⟩
 ·refine ⟨its.toList,r,⟨o,n,I.kIn a o hk,hc,hd,by simpa using hs⟩,?_⟩;have e:=r.length;simp only[Array.length_toList] at e;lia
theorem Inv.tuple(I:Inv X pS Y H s)(h:SqT X.K H a xs):∃ its:List Value,zaY xs its/\IsTup s.heap a its.toArray/\xs.length<=sizeLine:=by
 rcases h with h|⟨o,its,n,hk,hc,hs,hz,r⟩
 ·obtain ⟨z,its,r,n,e⟩:=h.ok I.hok;exact ⟨its,r,⟨_,e,rfl,n,rfl⟩,z⟩
 ·refine ⟨its.toList,r,⟨o,I.kIn a o hk,hc,n,by simpa using hs⟩,?_⟩;have e:=r.length;simp only[Array.length_toList] at e;lia
theorem Inv.list_inj(I:Inv X pS Y H s)(h:SqL X.K H a xs)(h':SqL X.K H a ys):xs=ys:=by
 obtain ⟨its,r,⟨o,n,e,_,_,d⟩,_⟩:=I.list h;obtain ⟨its',r',⟨o',n',e',_,_,d'⟩,_⟩:=I.list h';rw[e] at e';cases e';rw[d] at d';injection d' with d1 _;have:its=its':=by simpa using congrArg Array.toList d1
 subst this;exact r.inj r'
theorem Inv.tuple_inj(I:Inv X pS Y H s)(h:SqT X.K H a xs)(h':SqT X.K H a ys):xs=ys:=by
 obtain ⟨its,r,⟨o,e,_,n,d⟩,_⟩:=I.tuple h;obtain ⟨its',r',⟨o',e',_,n',d'⟩,_⟩:=I.tuple h';rw[e] at e';cases e';rw[d] at d';injection d' with d1 _;have:its=its':=by simpa using congrArg Array.toList d1
 subst this;exact r.inj r'
end
abbrev Cx.wish(X:Cx)(E:Value->Shared->Prop):Cx:={ X with xe:=E }
abbrev Cx.nox(X:Cx):Cx:=X.wish λ_ _=>False
theorem Cx.Ok.wish{X:Cx}(ok:X.Ok)(E:Value->Shared->Prop):(X.wish E).Ok :=
 ⟨ok.mod,ok.kind,ok.glob,ok.blt,ok.above,ok.inj,ok.has,ok.cab,ok.hd,ok.frames,ok.stk,ok.exf,ok.bs,ok.bsz,ok.noex,ok.exfs,ok.funs,ok.frf⟩
theorem Cx.Ok.unwish{X:Cx}{E:Value->Shared->Prop}(ok:(X.wish E).Ok):X.Ok :=
 ⟨ok.mod,ok.kind,ok.glob,ok.blt,ok.above,ok.inj,ok.has,ok.cab,ok.hd,ok.frames,ok.stk,ok.exf,ok.bs,ok.bsz,ok.noex,ok.exfs,ok.funs,ok.frf⟩
section
variable{X:Cx}{pS:List (Addr×Obj)}{Y:St}{H:Hp}{s:Shared}{E:Value->Shared->Prop}
theorem Inv.wish(I:Inv X pS Y H s)(E:Value->Shared->Prop):Inv (X.wish E) pS Y H s:=⟨I.ok.wish E,I.os,I.bare,I.base,I.loc,I.cell,I.free,I.freeC,I.pin,I.hok,I.len⟩
theorem Inv.unwish(I:Inv (X.wish E) pS Y H s):Inv X pS Y H s:=⟨I.ok.unwish,I.os,I.bare,I.base,I.loc,I.cell,I.free,I.freeC,I.pin,I.hok,I.len⟩
theorem SP.unwish{D:zsS}{f:Flow}{s':Shared}(h:SP (X.wish E) pS D f s'):SP X pS D f s':=by
 cases f with
 |next=>obtain ⟨Y',H',I,q⟩:=h;exact ⟨Y',H',I.unwish,q⟩
 |brk=>obtain ⟨Y',H',I,q⟩:=h;exact ⟨Y',H',I.unwish,q⟩
 |cont=>obtain ⟨Y',H',I,q⟩:=h;exact ⟨Y',H',I.unwish,q⟩
 |ret u=>obtain ⟨v,Y',H',I,r,q⟩:=h;exact ⟨v,Y',H',I.unwish,r,q⟩
theorem PE.nox{e:Expr}{t:TE}(h:PE X.nox e t):PE X e t:=λpS s Y H Q I hw =>
 wpAny_mono (h pS s Y H Q (I.wish _) hw) (λ_ _ ⟨v,H',I',r,q⟩=>⟨v,H',I'.unwish,r,q⟩) λ_ _ z=>waO z
theorem PT.nox{e:Expr}{t:TT}(h:PT X.nox e t):PT X e t:=λpS s Y H Q I hw =>
 wpAny_mono (h pS s Y H Q (I.wish _) hw) (λ_ _ ⟨H',I',q⟩=>⟨H',I'.unwish,q⟩) λ_ _ z=>waO z
theorem PSs.nox{st:List Stmt}{t:TS}(h:PSs X.nox st t):PSs X st t:=λpS s Y H D I hw =>
 wpAny_mono (h pS s Y H D (I.wish _) hw) (λ_ _ q=>q.unwish) λ_ _ z=>waO z
end
section
variable{X:Cx}{st:Stmt}{zbV:List Stmt}{t u:TS}{e:Expr}{te:TE}{pos:Pos}
def zxO:TS:=λD Y H=>D.nx Y H
def tSeq(t u:TS):TS:=λD Y H=>t { D with nx:=u D } Y H
theorem zuD:PSs X [] zxO:=λ_ _ Y H _ I h=>wpAny_execs_nil ⟨Y,H,I,h⟩
theorem zs4(h1:PS X st t)(h2:PSs X zbV u):PSs X (st::zbV) (tSeq t u):=by
 intro pS s Y H D I h;refine wpAny_execs_cons (thn (h1 pS s Y H { D with nx:=u D } I h) λf s1 q=>?_);cases f with
 |next =>
  obtain ⟨Y',H',I',q⟩:=q;exact h2 pS s1 Y' H' D I' q
 |ret v=>exact q
 |brk=>exact q
 |cont=>exact q
theorem ztP(h1:PS X st t):PSs X [st] t:=by
 intro pS s Y H D I h;refine wpAny_execs_cons (thn (h1 pS s Y H D I h) λf s1 q=>?_);cases f with
 |next=>exact wpAny_execs_nil q
 |ret v=>exact q
 |brk=>exact q
 |cont=>exact q
theorem Inv.quiet{pS:List (Addr×Obj)}{Y:St}{H:Hp}{s:Shared}(I:Inv X pS Y H s):interactive X.env=false:=by simp[interactive,I.ok.kind]
def zy1(te:TE):TS:=λD Y H=>te Y H λ_ H1=>D.nx Y H1
theorem zvz(he:PE X e te)(hs:swapsWith e none pos.line X.env=pure false:=by rfl):PS X (.Expr e pos) (zy1 te):=by intro pS s Y H D I h;exact wpAny_Expr_any (thn (he pS s Y H _ I h) λv s1 ⟨x,H1,I1,r1,q1⟩=>⟨Y,H1,I1,q1⟩) I.quiet hs
def tRet(te:TE):TS:=λD Y H=>te Y H D.rt
theorem zsL(he:PE X e te):PS X (.Return (some e) pos) (tRet te):=by intro pS s Y H D I h;exact wpAny_Return_some (thn (he pS s Y H _ I h) λv s1 ⟨x,H1,I1,r1,q1⟩=>⟨x,Y,H1,I1,r1,q1⟩)
def tIfS(c:TT)(t u:TS):TS:=λD Y H=>c Y H λb H1=>if b=true then t D Y H1 else u D Y H1
theorem zyg{c:Expr}{a b:List Stmt}{tc:TT}(hc:PT X c tc)(ha:PSs X a t)(hb:PSs X b u):PS X (.If c a b pos) (tIfS tc t u):=by
 intro pS s Y H D I h;refine wpAny_If (thn (hc pS s Y H _ I h) λd s1 ⟨H1,I1,q1⟩=>?_);cases d with
 |true=>exact ha pS s1 Y H1 D I1 q1
 |false=>exact hb pS s1 Y H1 D I1 q1
end
abbrev TG:=V->St->Hp->(St->Hp->Prop)->Prop
abbrev TGs:=List V->St->Hp->(St->Hp->Prop)->Prop
def PG(X:Cx)(target:Expr)(t:TG):Prop :=
 ∀(pS:List (Addr×Obj))(s:Shared)(Y:St)(H:Hp)(v:V)(u:Value)(Q:St->Hp->Prop),Inv X pS Y H s->zch v u->t v Y H Q ->
  wpAny (model X.prog X.w) X.A (assign target X.env u) (λ_ s'=>∃ Y' H',Inv X pS Y' H' s'/\Q Y' H') X.xe s
def PGs(X:Cx)(ts:List Expr)(t:TGs):Prop :=
 ∀(pS:List (Addr×Obj))(s:Shared)(Y:St)(H:Hp)(vs:List V)(us:List Value)(Q:St->Hp->Prop),Inv X pS Y H s->zaY vs us->t vs Y H Q ->
  wpAny (model X.prog X.w) X.A (assignInOrder ((assignEach ts X.env).map (·.2)) us) (λ_ s'=>∃ Y' H',Inv X pS Y' H' s'/\Q Y' H') X.xe s
abbrev zxY:=V->V->V->Hp->(Hp->Prop)->Prop
def PSet(X:Cx)(t:zxY):Prop :=
 ∀(pS:List (Addr×Obj))(s:Shared)(Y:St)(H:Hp)(o i v:V)(ov iv u:Value)(Q:Hp->Prop),Inv X pS Y H s->zch o ov->zch i iv->zch v u->t o i v H Q ->
  wpAny (model X.prog X.w) X.A (setItem ov iv u) (λ_ s'=>∃ H',Inv X pS Y H' s'/\Q H') X.xe s
section
variable{X:Cx}{pos:Pos}
def zvZ(i:Nat):TG:=λv Y H Q=>Q (Y.set i (some v)) H
theorem zmF{i:Nat}{x:Str}(hN:X.N.Nodup)(hi:X.N[i]? = some x)(hx:Loc X.env.scope x)(hf:X.fn x=true\/X.env.scope.names.lookup x=some .local:=by exact xwA):PG X (.Name x pos) (zvZ i):=by intro pS s Y H v u Q I r h;exact wpAny_assign_Name (zn9 I hN hi hx r (λs' I'=>⟨_,H,I',h⟩) hf)
def gNil:TGs:=λvs Y H Q=>vs=[]/\Q Y H
def zxI(t:TG)(u:TGs):TGs:=λvs Y H Q=>∃ v r,vs=v::r/\t v Y H λY' H'=>u r Y' H' Q
theorem zuT:PGs X [] gNil:=by intro pS s Y H vs us Q I r h;obtain ⟨e,h⟩:=h;subst e;cases r;exact assignInOrder_nil ⟨Y,H,I,h⟩
theorem zna{e:Expr}{es:List Expr}{t:TG}{u:TGs}(h1:PG X e t)(h2:PGs X es u)
  (hs:(assignEach (e::es) X.env).map (·.2)=assign e X.env::(assignEach es X.env).map (·.2):=by rfl):PGs X (e::es) (zxI t u):=by
 intro pS s Y H vs us Q I r h;obtain ⟨v,vr,e1,h⟩:=h;subst e1;cases r with
 |cons r rr =>
  rw[hs];refine assignInOrder_cons (thn (h1 pS s Y H _ _ _ I r h) λ_ s1 ⟨Y1,H1,I1,q1⟩=>?_);exact h2 pS s1 Y1 H1 _ _ Q I1 rr q1
def gTup(K:W.Frag)(n:Nat)(t:TGs):TG:=λv Y H Q=>∃ a xs,v=.ref a/\SqT K H a xs/\xs.length=n/\t xs Y H Q
theorem zw6{es:List Expr}{k:Nat}{t:TGs}{n:Nat}(hc:X.calm=true)(h:PGs X es t)
  (hn:(assignEach es X.env).length=n:=by rfl) (hst:(assignEach es X.env).findIdx? (·.1)=none:=by rfl):PG X (.Tuple es k pos) (gTup X.K n t):=by
 intro pS s Y H v u Q I r hw;obtain ⟨a,xs,e1,hq,hl,hw⟩:=hw;subst e1;cases r;obtain ⟨its,rv,ht,hz⟩:=I.tuple hq;refine assign_Tuple_tuple (I.ok.hd hc) ht (by simp[hn,<- hl,rv.length]) hst λh' hx=>?_;have I1:Inv X pS Y H { s with heap:=h' }:=I.kept (t':=s.toks) λb o e=>hx b o (waM (wai e)) e;exact h pS _ Y H xs _ Q I1 (by simpa using rv) hw
def zk4(to ti:TE)(t:zxY):TG:=λv Y H Q=>to Y H λo H1=>ti Y H1 λi H2=>t o i v H2 λH3=>Q Y H3
theorem zvT{o i:Expr}{to ti:TE}{t:zxY}(ho:PE X o to)(hi:PE X i ti)(hs:PSet X t)
  (ha:∀ v,assign (.Subscript o i pos) X.env v=(do
   let ov <- holding [v] (eval o X.env);let iv <- holding [v,ov] (eval i X.env)
   standAt pos
   holding [v,ov,iv] (setItem ov iv v)
   release [v,ov,iv] []):=by intro _;rfl):PG X (.Subscript o i pos) (zk4 to ti t):=by
 intro pS s Y H v u Q I r h;rw[ha];refine wab (wpAny_holding (thn (ho pS s Y H _ I h) λov s1 ⟨x,H1,I1,r1,q1⟩=>?_));refine wab (wpAny_holding (thn (hi pS s1 Y H1 _ I1 q1) λiv s2 ⟨y,H2,I2,r2,q2⟩=>?_));refine wab (wpAny_standAt (wab (wpAny_holding (thn (hs pS s2 Y H2 x y v ov iv u _ I2 r1 r2 r q2) λ_ s3 ⟨H3,I3,q3⟩=>?_))));exact wpAny_release ⟨Y,H3,I3,q3⟩
def tAsg(te:TE)(g:TG):TS:=λD Y H=>te Y H λx H1=>g x Y H1 D.nx
theorem zwO{tg e:Expr}{te:TE}{g:TG}(he:PE X e te)(hg:PG X tg g)(hs:swapsWithSole [tg] e pos.line X.env=pure false:=by rfl)(hw:swappedStores [tg] e X.env=pure none:=by rfl)
  (h1:(assignEach [tg] X.env).map (·.2)=[assign tg X.env]:=by rfl):PS X (.Assign [tg] e pos) (tAsg te g):=by
 intro pS s Y H D I h;refine wpAny_Assign_stores (thn (he pS s Y H _ I h) λv s1 ⟨x,H1,I1,r1,q1⟩=>?_) hs hw;rw[h1];exact thn (hg pS s1 Y H1 x v _ I1 r1 q1) λ_ s2 q=>q
theorem ztj{i:Nat}{x:Str}{e:Expr}{te:TE}{pos':Pos}(hN:X.N.Nodup)(hi:X.N[i]? = some x)(hx:Loc X.env.scope x)(he:PE X e te)(hs:swapsWith e (some (.Name x pos')) pos.line X.env=pure false:=by rfl)(hf:X.fn x=true\/X.env.scope.names.lookup x=some .local:=by exact xwA) :
  PS X (.Assign [.Name x pos'] e pos) (tAsg te (zvZ i)):=by
 intro pS s Y H D I h;refine wpAny_Assign_Name (thn (he pS s Y H _ I h) λv s1 ⟨y,H1,I1,r1,q1⟩=>?_) hs;exact zn9 I1 hN hi hx r1 (λs2 I2=>⟨_,H1,I2,q1⟩) hf
end
section
variable{X:Cx}{pos:Pos}
def zx2(c:TT)(tb:TS):TS:=λD Y H=>∃ W:Nat->St->Hp->Prop,(∃ m,W m Y H)/\∀ m Y H,W m Y H ->
 c Y H λb H1=>if b=true then ∃ N:St->Hp->Prop,(∀ Y' H',N Y' H'->∃ m',m'<m/\W m' Y' H')/\tb { D with nx:=N,ct:=N,bk:=D.nx } Y H1 else D.nx Y H1
theorem zsf{c:Expr}{body:List Stmt}{tc:TT}{tb:TS}(hp:PassesOwn (model X.prog X.w) X.A X.env X.xe)(hc:PT X c tc)(hb:PSs X body tb):PS X (.While c body [] pos) (zx2 tc tb):=by
 intro pS s Y H D I h;obtain ⟨W,⟨m0,w0⟩,turn⟩:=h;refine wpAny_While (codeAny_whileLoop (λn s'=>∃ Y' H',Inv X pS Y' H' s'/\W n Y' H') ?_ m0 ⟨Y,H,I,w0⟩);rintro n s1 ⟨Y1,H1,I1,w1⟩;refine wpAny_passesOwn hp (thn (hc pS s1 Y1 H1 _ I1 (turn n Y1 H1 w1)) λb s2 ⟨H2,I2,q2⟩=>?_);cases b with
 |true =>
  obtain ⟨N,hN,q2⟩:=q2;rw[if_pos rfl];refine wpAny_passesOwn hp (thn (hb pS s2 Y1 H2 _ I2 q2) λf s3 q3=>?_);cases f with
  |next =>
   obtain ⟨Y3,H3,I3,n3⟩:=q3;obtain ⟨m',hm,w3⟩:=hN Y3 H3 n3;exact ⟨m',hm,Y3,H3,I3,w3⟩
  |cont =>
   obtain ⟨Y3,H3,I3,n3⟩:=q3;obtain ⟨m',hm,w3⟩:=hN Y3 H3 n3;exact ⟨m',hm,Y3,H3,I3,w3⟩
  |brk=>exact q3
  |ret v=>exact q3
 |false =>
  rw[if_neg Bool.false_ne_true];exact wpAny_execs_nil ⟨Y1,H2,I2,q2⟩
end
structure It where
 go:Nat->Hp->Prop
 yld:Nat->Hp->V->Hp->Prop
 stop:Nat->Hp->Prop
def zfm(X:Cx)(pS:List (Addr×Obj))(H:Hp)(b:Addr):Prop :=
 H b=none/\b≠X.env.locals/\b∉X.fs/\(b∈X.ex\/X.s₀.heap.objs.size<=b)/\(∀ x c,X.env.cells.lookup x=some c->c≠b)/\∀ p∈X.pn++pS,p.1≠b
theorem Inv.fpOk{X:Cx}{pS:List (Addr×Obj)}{Y:St}{H H':Hp}{s:Shared}{b:Addr}(I:Inv X pS Y H s)(hb:s.heap.objs.size<=b)(hn:H' b=none):zfm X pS H' b:=by
 refine ⟨hn,Nat.ne_of_gt (was I.lt hb),I.nofs hb,.inr (waN I.sz hb),λx c e z=>?_,λp hp z=>?_⟩
 ·obtain ⟨v,q⟩:=I.cell x c e;exact absurd (was q.lt (by rw[z];exact hb)) (waL _)
 ·exact absurd (was (wai (I.pin p hp).1) (by rw[z];exact hb)) (waL _)
structure zpy(P:Program)(w:World)(K:W.Frag)(tg:Expr)(J:It)(fp:List Addr)(it:Addr)(tn:Nat->Heap->Prop):Prop where
 mem:it∈fp
 obj:∀ i h,tn i h->∀ b∈fp,∃ o,h.get? b=some o/\∀ v,o.data≠.cell v
 keep:∀ i h h',tn i h->(∀ b∈fp,∀ o,h.get? b=some o->h'.get? b=some o)->tn i h'
 item:∀(X:Cx),X.prog=P->X.w=w->X.K=K->X.calm=true->∀(i:Nat)(pS:List (Addr×Obj))(s:Shared)(Y:St)(H:Hp)(E:Value->Shared->Prop),Inv X pS Y H s->(∀ b∈fp,zfm X pS H b)->tn i s.heap->J.go i H ->
  wpAny (model P w) X.A (pyNext (.ref it)) (λr s1=>∃ u,r=some u /\
   wpAny (model P w) X.A (letOwnedTupleGo tg (.ref it) u) (λ_ s2=>∃ x H',Inv X pS Y H' s2/\zch x u/\J.yld i H x H'/\tn (i+1) s2.heap/\∀ b∈fp,H' b=none) E s1) E s
 done:∀(X:Cx),X.prog=P->X.w=w->X.K=K->X.calm=true->∀(i:Nat)(pS:List (Addr×Obj))(s:Shared)(Y:St)(H:Hp)(E:Value->Shared->Prop),Inv X pS Y H s->(∀ b∈fp,zfm X pS H b)->tn i s.heap->J.stop i H ->
  wpAny (model P w) X.A (pyNext (.ref it)) (λr s1=>r=none/\Inv X pS Y H s1) E s
 self:∀(A:Around)(i:Nat)(s:Shared)(Q:Value->Shared->Prop)(E:Value->Shared->Prop),tn i s.heap->Q (.ref it) s->wpAny (model P w) A (pyIter (.ref it)) Q E s
abbrev TI:=St->Hp->(It->Hp->Prop)->Prop
def PIE(X:Cx)(pS:List (Addr×Obj))(Y:St)(tg:Expr)(R:It->Hp->Prop)(itv:Value)(s2:Shared):Prop :=
 ∃(it:Addr)(fp:List Addr)(tn:Nat->Heap->Prop)(J:It)(H':Hp),itv=.ref it/\Inv X pS Y H' s2/\zpy X.prog X.w X.K tg J fp it tn/\tn 0 s2.heap/\(∀ b∈fp,zfm X pS H' b)/\R J H'
def PI(X:Cx)(tg iter:Expr)(wi:TI):Prop :=
 ∀(pS:List (Addr×Obj))(s:Shared)(Y:St)(H:Hp)(R:It->Hp->Prop),Inv X pS Y H s->wi Y H R ->
  wpAny (model X.prog X.w) X.A (eval iter X.env) (λv s1=>wpAny (model X.prog X.w) X.A (pyIter v) (PIE X pS Y tg R) X.xe s1) X.xe s
theorem ztV{M:Model}{A:Around}{E:Value->Shared->Prop}{s:Shared}{tg:Expr}{it:Addr}{u:Value}{o:Obj}{n:String}{vs:Array Value}{Q:Unit->Shared->Prop}(ho:s.heap.get? it=some o)(hc:o.cls=.type n)(hd:o.data=.fields vs)
  (hn:["enumerate","zip","dict_itemiterator","dict_reverseitemiterator","odict_iterator","itertools.zip_longest","itertools.pairwise"].contains n=false) (hQ:Q () s):wpAny M A (letOwnedTupleGo tg (.ref it) u) Q E s:=by
 unfold letOwnedTupleGo;cases tg <;> first
  |exact wad hQ
  | (cases u <;> first
    |exact wad hQ
    | (refine wab (wpAny_load ho ?_)
       rw[hc,hd];show wpAny M A (if (["enumerate","zip","dict_itemiterator","dict_reverseitemiterator","odict_iterator","itertools.zip_longest","itertools.pairwise"].contains n && vs[0]? == some (rawInt _))=true then _ else _) Q E s;rw[if_neg (by intro h;rw[hn,Bool.false_and] at h;cases h)];exact wad hQ))
def Itl(K:W.Frag)(a:Addr):It :=
 ⟨λi H=>∃ xs x,SqL K H a xs/\xs[i]? = some x,λi H x H'=>H'=H/\∀ xs,SqL K H a xs->xs[i]? = some x,λi H=>∃ xs,SqL K H a xs/\xs.length<=i⟩
def Itt(K:W.Frag)(a:Addr):It :=
 ⟨λi H=>∃ xs x,SqT K H a xs/\xs[i]? = some x,λi H x H'=>H'=H/\∀ xs,SqT K H a xs->xs[i]? = some x,λi H=>∃ xs,SqT K H a xs/\xs.length<=i⟩
def Itr(lo:Int)(n:Nat):It:=⟨λi _=>i<n,λi H x H'=>H'=H/\x=.int (lo+i),λi _=>n<=i⟩
theorem zoV{P:Program}{w:World}{K:W.Frag}{tg:Expr}(a it:Addr):zpy P w K tg (Itl K a) [it] it (λi h=>h.IsListIter it a i) where
 mem:=by simp
 obj:=λi h st b hb=>by
  have e:b=it:=by simpa using hb
  subst e;obtain ⟨o,e,c,d⟩:=st;exact ⟨o,e,λv z=>by rw[d] at z;cases z⟩
 keep:=λi h h' st k=>st.at λo e=>k it xws o e
 item:=by intro X hP hw hK hc i pS s Y H E I hf st hg;subst hP hw hK;obtain ⟨xs,x,hq,hx⟩:=hg;obtain ⟨its,rv,p,hz⟩:=I.list hq;obtain ⟨u,hu,ru⟩:=rv.get hx;obtain ⟨f0,f1,f2,f3,f4,f5⟩:=hf it xws;refine wpAny_pyNext_list_item st p.isList (x:=u) (by simpa using hu) λh' st' sb=>?_;have I1:Inv X pS Y H { s with heap:=h' }:=I.turned (t':=s.toks) (λb o hb e=>(sb.2 b hb).trans e) f0 f1 f3 f4 f5;obtain ⟨o,e,c,d⟩:=id st';exact ⟨u,rfl,ztV (s:={ s with heap:=h' }) e c d xwd ⟨x,H,I1,ru,⟨rfl,λys hy=>by rw[I.list_inj hy hq];exact hx⟩,st',λb hb=>(hf b hb).1⟩⟩
 done:=by intro X hP hw hK hc i pS s Y H E I hf st hg;subst hP hw hK;obtain ⟨xs,hq,hx⟩:=hg;obtain ⟨its,rv,p,hz⟩:=I.list hq;obtain ⟨f0,f1,f2,f3,f4,f5⟩:=hf it xws;have hl:=rv.length;exact wpAny_pyNext_list_end (I.ok.hd hc) st p.isList (by simp;lia) λh' eb=>⟨rfl,I.turned (t':=s.toks) (λb o hb e=>eb b o hb e) f0 f1 f3 f4 f5⟩
 self:=λ_ _ _ _ _ st h=>wpAny_pyIter_listiter st h
theorem znQ{P:Program}{w:World}{K:W.Frag}{tg:Expr}(a it:Addr):zpy P w K tg (Itt K a) [it] it (λi h=>h.IsTupleIter it a i) where
 mem:=by simp
 obj:=λi h st b hb=>by
  have e:b=it:=by simpa using hb
  subst e;obtain ⟨o,e,c,d⟩:=st;exact ⟨o,e,λv z=>by rw[d] at z;cases z⟩
 keep:=λi h h' st k=>st.at λo e=>k it xws o e
 item:=by intro X hP hw hK hc i pS s Y H E I hf st hg;subst hP hw hK;obtain ⟨xs,x,hq,hx⟩:=hg;obtain ⟨its,rv,p,hz⟩:=I.tuple hq;obtain ⟨u,hu,ru⟩:=rv.get hx;obtain ⟨f0,f1,f2,f3,f4,f5⟩:=hf it xws;refine wpAny_pyNext_tuple_item st (show s.heap.IsTuple a its.toArray from p) (x:=u) (by simpa using hu) λh' st' sb=>?_;have I1:Inv X pS Y H { s with heap:=h' }:=I.turned (t':=s.toks) (λb o hb e=>(sb.2 b hb).trans e) f0 f1 f3 f4 f5;obtain ⟨o,e,c,d⟩:=id st';exact ⟨u,rfl,ztV (s:={ s with heap:=h' }) e c d xwd ⟨x,H,I1,ru,⟨rfl,λys hy=>by rw[I.tuple_inj hy hq];exact hx⟩,st',λb hb=>(hf b hb).1⟩⟩
 done:=by intro X hP hw hK hc i pS s Y H E I hf st hg;subst hP hw hK;obtain ⟨xs,hq,hx⟩:=hg;obtain ⟨its,rv,p,hz⟩:=I.tuple hq;obtain ⟨f0,f1,f2,f3,f4,f5⟩:=hf it xws;have hl:=rv.length;exact wpAny_pyNext_tuple_end (I.ok.hd hc) st (show s.heap.IsTuple a its.toArray from p) (by simp;lia) λh' eb=>⟨rfl,I.turned (t':=s.toks) (λb o hb e=>eb b o hb e) f0 f1 f3 f4 f5⟩
 self:=λ_ _ _ _ _ st h=>wpAny_pyIter_tupleiter st h
theorem zoz{P:Program}{w:World}{K:PySem.W.Frag}{tg:Expr}(it:Addr)(lo:Int)(n:Nat):zpy P w K tg (Itr lo n) [it] it (λi h=>IsRangeIter h it (lo+(i:Nat) * 1) ((n:Int)-(i:Nat)) 1) where
 mem:=by simp
 obj:=λi h st b hb=>by
  have e:b=it:=by simpa using hb
  subst e;exact ⟨_,st,λv z=>by have z':Data.fields _=Data.cell v:=z;cases z'⟩
 keep:=λi h h' st k=>k it xws _ st
 item:=by intro X hP hw hK hc i pS s Y H E I hf st hg;subst hP hw hK;obtain ⟨f0,f1,f2,f3,f4,f5⟩:=hf it xws;have W:=Walks.range (prog:=X.prog) (w:=X.w) (I.ok.hd hc) it lo 1 n;refine W.item i s _ _ hg st λv h' tk hv st' kk=>?_;obtain ⟨t,rfl⟩:=hv;have I1:Inv X pS Y H { s with heap:=h',toks:=tk }:=I.turned (λb o hb e=>kk b o (by simpa using hb) e) f0 f1 f3 f4 f5;refine ⟨_,rfl,ztV (s:={ s with heap:=h',toks:=tk }) (n:="range_iterator") st' rfl rfl xwd ⟨.int (lo+i),H,I1,⟨t,?_⟩,⟨rfl,rfl⟩,st',λb hb=>(hf b hb).1⟩⟩;rw[Int.mul_one]
 done:=by intro X hP hw hK hc i pS s Y H E I hf st hg;subst hP hw hK;obtain ⟨f0,f1,f2,f3,f4,f5⟩:=hf it xws;exact wpAny_pyNext_range_end (I.ok.hd hc) st (by have:n<=i:=hg;lia) λh' eb=>⟨rfl,I.turned (t':=s.toks) (λb o hb e=>eb b o hb e) f0 f1 f3 f4 f5⟩
 self:=λ_ _ _ _ _ st h=>wpAny_pyIter_rangeiter st h
end L2
namespace L2
open PySem PySem.Spec PyProof.Rows
section
variable{X:Cx}{tg:Expr}
def zyu(K:W.Frag)(tl:TE):TI:=λY H R=>tl Y H λx H1=>∃ a,x=.ref a/\(∃ xs,SqL K H1 a xs)/\R (Itl K a) H1
def iTup(K:W.Frag)(tl:TE):TI:=λY H R=>tl Y H λx H1=>∃ a,x=.ref a/\(∃ xs,SqT K H1 a xs)/\R (Itt K a) H1
theorem ztZ{l:Expr}{tl:TE}(hl:PE X l tl):PI X tg l (zyu X.K tl):=by
 intro pS s Y H R I h;refine thn (hl pS s Y H _ I h) λv s1 ⟨x,H1,I1,r1,q1⟩=>?_;obtain ⟨a,e,⟨xs,hq⟩,q⟩:=q1;subst e;cases r1;obtain ⟨its,rv,p,hz⟩:=I1.list hq;refine wpAny_pyIter_list p.isList ?_;refine ⟨s1.heap.objs.size,[s1.heap.objs.size],_,_,H1,rfl,I1.kept (t':=s1.toks) λb o e=>waa _ e,zoV a _,⟨_,waj _ rfl,rfl,rfl⟩,λb hb=>?_,q⟩;have e:b=s1.heap.objs.size:=by simpa using hb
 subst e;exact I1.fpOk (wal _) (I1.hok.fresh (wal _))
theorem zxq{l:Expr}{tl:TE}(hl:PE X l tl):PI X tg l (iTup X.K tl):=by
 intro pS s Y H R I h;refine thn (hl pS s Y H _ I h) λv s1 ⟨x,H1,I1,r1,q1⟩=>?_;obtain ⟨a,e,⟨xs,hq⟩,q⟩:=q1;subst e;cases r1;obtain ⟨its,rv,p,hz⟩:=I1.tuple hq;refine wpAny_pyIter_tuple (show s1.heap.IsTuple a its.toArray from p) ?_;refine ⟨s1.heap.objs.size,[s1.heap.objs.size],_,_,H1,rfl,I1.kept (t':=s1.toks) λb o e=>waa _ e,znQ a _,⟨_,waj _ rfl,rfl,rfl⟩,λb hb=>?_,q⟩;have e:b=s1.heap.objs.size:=by simpa using hb
 subst e;exact I1.fpOk (wal _) (I1.hok.fresh (wal _))
theorem znL{pS:List (Addr×Obj)}{Y:St}{H:Hp}{s:Shared}{R:It->Hp->Prop}{E:Value->Shared->Prop}{lo hi:Int}{t u v:Tok}{tk:Nat}(I:Inv X pS Y H s)(h1:-(2 ^ 62)<=lo)(h2:lo<2 ^ 62)(h3:-(2 ^ 62)<=hi)(h4:hi<2 ^ 62)
  (q:R (Itr lo (hi-lo).toNat) H):wpAny (model X.prog X.w) X.A (pyIter (.ref s.heap.objs.size)) (PIE X pS Y tg R) E { s with heap:=s.heap.push { cls:=.type "range",data:=.fields #[.int lo t,.int hi u,.int 1 v] },toks:=tk }:=by
 refine wpAny_pyIter_range (IsRange.new ..) (small_one h1 h2 h3 h4) ?_;have I1:Inv X pS Y H { s with heap:=s.heap.push { cls:=.type "range",data:=.fields #[.int lo t,.int hi u,.int 1 v] },toks:=tk }:=I.kept λb o e=>waa _ e;refine ⟨(s.heap.push { cls:=.type "range",data:=.fields #[.int lo t,.int hi u,.int 1 v] }).objs.size,[(s.heap.push { cls:=.type "range",data:=.fields #[.int lo t,.int hi u,.int 1 v] }).objs.size],_,_,H,rfl,
  I1.kept (t':=tk) λb o e=>waa _ e,zoz _ lo (hi-lo).toNat,?_,λb hb=>?_,q⟩
 ·have e1:lo+((0:Nat):Int) * 1=lo:=by simp
  have e2:(((hi-lo).toNat:Nat):Int)-((0:Nat):Int)=Builtin.Range.rangeSize lo hi 1:=by rw[rangeSize_one];split <;> lia
  show IsRangeIter _ _ (lo+((0:Nat):Int) * 1) ((((hi-lo).toNat:Nat):Int)-((0:Nat):Int)) 1;rw[e1,e2];exact waj _ rfl
 ·have e:b=(s.heap.push { cls:=.type "range",data:=.fields #[.int lo t,.int hi u,.int 1 v] }).objs.size:=by simpa using hb
  subst e;exact I1.fpOk (wal _) (I1.hok.fresh (wal _))
def zyi(ta:TA):TI:=λY H R=>ta Y H λvs H1=>∃ j:Int,vs=[.int j]/\-(2 ^ 62)<=j/\j<2 ^ 62/\R (Itr 0 j.toNat) H1
def zyh(ta:TA):TI:=λY H R=>ta Y H λvs H1=>∃ i j:Int,vs=[.int i,.int j]/\(-(2 ^ 62)<=i/\i<2 ^ 62/\-(2 ^ 62)<=j/\j<2 ^ 62)/\R (Itr i (j-i).toNat) H1
theorem zqm{a:Expr}{ta:TA}{p pos:Pos}(hg:Gl X "range")(hm:X.mg "range"=none)(ha:PA X [a] ta)(hs:starEach [a] X.env=[(false,eval a X.env)]:=by rfl):PI X tg (.Call (.Name "range" p) [a] [] pos) (zyi ta):=by
 intro pS s Y H R I h;refine Call_ (zdA I hg hm boot_range (PyProof.Rows.callWith_type1 (thn (ha pos pS s Y H _ I h) λus s1 ⟨vs,H1,I1,r1,q1⟩=>?_) hs rfl));obtain ⟨j,e,q1,q2,q⟩:=q1;subst e;cases r1 with
 |cons r rr =>
  cases rr;obtain ⟨t,rfl⟩:=r;exact call_range_1 (znL I1 xwl xwo q1 q2 (by simpa using q))
theorem zpj{a b:Expr}{ta:TA}{p pos:Pos}(hg:Gl X "range")(hm:X.mg "range"=none)(ha:PA X [a,b] ta)(hs:starEach [a,b] X.env=[(false,eval a X.env),(false,eval b X.env)]:=by rfl)(hs2:starEach [b] X.env=[(false,eval b X.env)]:=by rfl) :
  PI X tg (.Call (.Name "range" p) [a,b] [] pos) (zyh ta):=by
 intro pS s Y H R I h;refine Call_ (zdA I hg hm boot_range (PyProof.Rows.callWith_type1 (thn (ha pos pS s Y H _ I h) λus s1 ⟨vs,H1,I1,r1,q1⟩=>?_) (by rw[hs,hs2]) (by rw[hs2];rfl)));obtain ⟨i,j,e,⟨q1,q2,q3,q4⟩,q⟩:=q1;subst e;cases r1 with
 |cons r rr =>
  cases rr with
  |cons r' rr =>
   cases rr;obtain ⟨t,rfl⟩:=r;obtain ⟨t',rfl⟩:=r';exact call_range_2 (znL I1 q1 q2 q3 q4 q)
def tFor(wi:TI)(g:TG)(tb:TS):TS:=λD Y H=>wi Y H λJ H1=>∃ W:Nat->Nat->St->Hp->Prop,(∃ m,W 0 m Y H1)/\∀ i m Y H,W i m Y H ->
 (J.stop i H/\D.nx Y H)\/(J.go i H/\∃ N:St->Hp->Prop,(∀ Y' H',N Y' H'->∃ m',m'<m/\W (i+1) m' Y' H')/\∀ x H',J.yld i H x H'->g x Y H' λY2 H2=>tb { D with nx:=N,ct:=N,bk:=D.nx } Y2 H2)
def zgj(fp:List Addr)(h:Heap):List (Addr×Obj):=fp.filterMap λb=>(h.get? b).map λo=>(b,o)
theorem zfe{fp:List Addr}{h:Heap}{b:Addr}{o:Obj}(hb:b∈fp)(e:h.get? b=some o):(b,o)∈zgj fp h:=List.mem_filterMap.mpr ⟨b,hb,by rw[e];rfl⟩
theorem zp0{fp:List Addr}{h:Heap}{p:Addr×Obj}(hp:p∈zgj fp h):p.1∈fp/\h.get? p.1=some p.2:=by
 obtain ⟨b,hb,e⟩:=List.mem_filterMap.mp hp;cases q:h.get? b with
 |none=>rw[q] at e;cases e
 |some o =>
  rw[q] at e;have e':(b,o)=p:=waA e;subst e';exact ⟨hb,q⟩
theorem Inv.pinned{pS:List (Addr×Obj)}{Y:St}{H:Hp}{s:Shared}{fp:List Addr}(I:Inv X pS Y H s)(hf:∀ b∈fp,zfm X pS H b)(ho:∀ b∈fp,∃ o,s.heap.get? b=some o/\∀ v,o.data≠.cell v):Inv X (pS++zgj fp s.heap) Y H s :=
 I.pins_of λp hp=>(wax.mp hp).elim (λz=>I.pin p (waz _ z)) λz=>by obtain ⟨hb,e⟩:=zp0 z;obtain ⟨f0,f1,f2,_⟩:=hf p.1 hb;obtain ⟨o,e',d⟩:=ho p.1 hb;rw[e] at e';cases e';exact ⟨e,f0,f1,f2,d⟩
theorem Inv.unpinned{pS pl:List (Addr×Obj)}{Y:St}{H:Hp}{s:Shared}(I:Inv X (pS++pl) Y H s):Inv X pS Y H s:=I.pins_of λp hp=>I.pin p (waz _ (waR _ hp))
theorem zvD{iter:Expr}{body:List Stmt}{wi:TI}{g:TG}{tb:TS}{pos:Pos}(hp:PassesOwn (model X.prog X.w) X.A X.env X.xe)(hc:X.calm=true)(hi:PI X tg iter wi)(hg:PG X tg g)(hb:PSs X body tb)
  (hs:∀ x,foldedSetIterable iter X.env x=pure x:=by intro _;rfl):PS X (.For tg iter body [] pos) (tFor wi g tb):=by
 intro pS s Y H D I h;refine wpAny_For (thn (hi pS s Y H _ I h) λv s1 h1=>thn h1 λitv s2 h2=>?_) hs;obtain ⟨it,fp,tn,J,H2,e,I2,T,st2,f2,W,⟨m0,w0⟩,turn⟩:=h2;subst e;have stat:∀{H':Hp},(∀ b∈fp,H' b=none)->∀ b∈fp,zfm X pS H' b:=λhn b hb=>⟨hn b hb,(f2 b hb).2⟩
 refine codeAny_forLoop_any (λn s'=>∃ i Y' H',Inv X pS Y' H' s'/\tn i s'.heap/\(∀ b∈fp,H' b=none)/\W i n Y' H') ?_ m0 ⟨0,Y,H2,I2,st2,λb hb=>(f2 b hb).1,w0⟩;rintro n s3 ⟨i,Y3,H3,I3,st3,fr3,w3⟩;rcases turn i n Y3 H3 w3 with ⟨stop,qn⟩|⟨go,N,hN,step⟩
 ·refine wpAny_passesOwn hp (thn (T.done X rfl rfl rfl hc i pS s3 Y3 H3 X.xe I3 (stat fr3) st3 stop) λr s4 ⟨hr,I4⟩=>?_);subst hr;exact wpAny_execs_nil ⟨Y3,H3,I4,qn⟩
 ·refine wpAny_passesOwn hp (thn (T.item X rfl rfl rfl hc i pS s3 Y3 H3 X.xe I3 (stat fr3) st3 go) λr s4 ⟨u,hr,h4⟩=>?_);subst hr;refine wpAny_passesOwn hp (thn h4 λ_ s5 ⟨x,H5,I5,r5,y5,st5,fr5⟩=>?_);have I5':=I5.pinned (stat fr5) (T.obj _ _ st5);refine wpAny_passesOwn hp (thn (hg _ s5 Y3 H5 x u _ I5' r5 (step x H5 y5)) λ_ s6 ⟨Y6,H6,I6,q6⟩=>?_);refine wpAny_passesOwn hp (thn (hb _ s6 Y6 H6 _ I6 q6) λf s7 q7=>?_);have again:∀{Y7:St}{H7:Hp},Inv X (pS++zgj fp s5.heap) Y7 H7 s7->N Y7 H7->∃ m,m<n/\∃ i Y' H',Inv X pS Y' H' s7/\tn i s7.heap/\(∀ b∈fp,H' b=none)/\W i m Y' H':=λ{Y7 H7} I7 n7=>by obtain ⟨m',hm,w7⟩:=hN Y7 H7 n7;refine ⟨m',hm,i+1,Y7,H7,I7.unpinned,T.keep _ _ _ st5 λb hb o e=>(I7.pin (b,o) (waz _ (waz _ (zfe hb e)))).1,λb hb=>?_,w7⟩;obtain ⟨o,e,d⟩:=T.obj _ _ st5 b hb;exact (I7.pin (b,o) (waz _ (waz _ (zfe hb e)))).2.1
  cases f with
  |next=>obtain ⟨Y7,H7,I7,n7⟩:=q7;exact again I7 n7
  |cont=>obtain ⟨Y7,H7,I7,n7⟩:=q7;exact again I7 n7
  |brk=>obtain ⟨Y7,H7,I7,q7⟩:=q7;exact ⟨Y7,H7,I7.unpinned,q7⟩
  |ret v=>obtain ⟨x7,Y7,H7,I7,r7,q7⟩:=q7;exact ⟨x7,Y7,H7,I7.unpinned,r7,q7⟩
end
end L2
namespace L2
open PySem PySem.Spec PyProof.Rows
abbrev R2:=V->V->Hp->VK->Prop
def OpR(X:Cx)(f:Value->Value->Sem Value)(r:R2):Prop :=
 ∀(pS:List (Addr×Obj))(s:Shared)(Y:St)(H:Hp)(x y:V)(v u:Value)(Q:VK),Inv X pS Y H s->zch x v->zch y u->r x y H Q ->
  wpAny (model X.prog X.w) X.A (f v u) (EP X pS Y Q) X.xe s
def UnR(X:Cx)(f:Value->Sem Value)(r:V->Hp->VK->Prop):Prop :=
 ∀(pS:List (Addr×Obj))(s:Shared)(Y:St)(H:Hp)(x:V)(v:Value)(Q:VK),Inv X pS Y H s->zch x v->r x H Q ->
  wpAny (model X.prog X.w) X.A (f v) (EP X pS Y Q) X.xe s
def zdl(X:Cx)(f:Value)(r:List V->Hp->VK->Prop):Prop :=
 ∀(pS:List (Addr×Obj))(s:Shared)(Y:St)(H:Hp)(xs:List V)(us:List Value)(Q:VK),Inv X pS Y H s->zaY xs us->r xs H Q ->
  wpAny (model X.prog X.w) X.A (call f us) (EP X pS Y Q) X.xe s
def tOp(r:R2)(ta tb:TE):TE:=λY H Q=>ta Y H λx H1=>tb Y H1 λy H2=>r x y H2 Q
def tUn(r:V->Hp->VK->Prop)(ta:TE):TE:=λY H Q=>ta Y H λx H1=>r x H1 Q
def rI(C:Int->Int->Prop)(g:Int->Int->V):R2:=λx y H Q=>∃ i j,x=.int i/\y=.int j/\C i j/\Q (g i j) H
def rI0(g:Int->Int->V):R2:=λx y H Q=>∃ i j,x=.int i/\y=.int j/\Q (g i j) H
def rU(g:Int->V):V->Hp->VK->Prop:=λx H Q=>∃ i,x=.int i/\Q (g i) H
section
variable{X:Cx}{a b c:Expr}{ta tb tc:TE}{pos:Pos}
theorem zyc(ha:PE X a ta)(hb:PE X b tb){pS:List (Addr×Obj)}{s:Shared}{Y:St}{H:Hp}{R:V->V->Hp->Prop}(I:Inv X pS Y H s)
  (h:ta Y H λx H1=>tb Y H1 λy H2=>R x y H2) {Q:Value->Shared->Prop} {f:Value->Value->Sem Value}
  (hf:∀ v u s2 x y H2,Inv X pS Y H2 s2->zch x v->zch y u->R x y H2->wpAny (model X.prog X.w) X.A (f v u) Q X.xe s2) :
  wpAny (model X.prog X.w) X.A (eval a X.env) (λv s₁=>wpAny (model X.prog X.w) X.A (eval b X.env) (λu s₂=>wpAny (model X.prog X.w) X.A (f v u) Q X.xe s₂) X.xe s₁) X.xe s:=by
 refine thn (ha pS s Y H _ I h) λv s1 ⟨x,H1,I1,r1,q1⟩=>?_;refine thn (hb pS s1 Y H1 _ I1 q1) λu s2 ⟨y,H2,I2,r2,q2⟩=>?_;exact hf v u s2 x y H2 I2 r1 r2 q2
theorem zuz{op:Operator}{r:R2}(ho:OpR X (binaryOp op) r)(ha:PE X a ta)(hb:PE X b tb):PE X (.BinOp a op b pos) (tOp r ta tb):=by intro pS s Y H Q I h;exact wpAny_BinOp (zyc ha hb I h λv u s2 x y H2 I2 rx ry q=>ho pS s2 Y H2 x y v u Q I2 rx ry q)
theorem zx0{op:UnaryOp}{r:V->Hp->VK->Prop}(ho:UnR X (unaryOp op) r)(ha:PE X a ta):PE X (.UnaryOp op a pos) (tUn r ta):=by intro pS s Y H Q I h;exact UnaryOp_ (thn (ha pS s Y H _ I h) λv s1 ⟨x,H1,I1,r1,q1⟩=>ho pS s1 Y H1 x v Q I1 r1 q1)
theorem opI{f:Value->Value->Sem Value}{C:Int->Int->Prop}{g:Int->Int->Int}
  (rule:∀(i j:Int)(t u:Tok)(s:Shared)(Q:Value->Shared->Prop)(E:Value->Shared->Prop),C i j->Q (.int (g i j) s.toks) { s with toks:=s.toks+1 }->wpAny (model X.prog X.w) X.A (f (.int i t) (.int j u)) Q E s) :
  OpR X f (rI C λi j=>.int (g i j)):=by
 intro pS s Y H x y v u Q I rx ry h;obtain ⟨i,j,rfl,rfl,hc,q⟩:=h;obtain ⟨t,rfl⟩:=rx;obtain ⟨t',rfl⟩:=ry;exact rule i j t t' s _ _ hc ⟨.int (g i j),H,I.tok _,⟨_,rfl⟩,q⟩
theorem zya{f:Value->Value->Sem Value}{g:Int->Int->Int}
  (rule:∀(i j:Int)(t u:Tok)(s:Shared)(Q:Value->Shared->Prop)(E:Value->Shared->Prop),Q (.int (g i j) s.toks) { s with toks:=s.toks+1 }->wpAny (model X.prog X.w) X.A (f (.int i t) (.int j u)) Q E s) :
  OpR X f (rI0 λi j=>.int (g i j)):=by
 intro pS s Y H x y v u Q I rx ry h;obtain ⟨i,j,rfl,rfl,q⟩:=h;obtain ⟨t,rfl⟩:=rx;obtain ⟨t',rfl⟩:=ry;exact rule i j t t' s _ _ ⟨.int (g i j),H,I.tok _,⟨_,rfl⟩,q⟩
theorem zyy{f:Value->Value->Sem Value}{g:Int->Int->Bool}
  (rule:∀(i j:Int)(t u:Tok)(s:Shared)(Q:Value->Shared->Prop)(E:Value->Shared->Prop),Q (.bool (g i j)) s->wpAny (model X.prog X.w) X.A (f (.int i t) (.int j u)) Q E s) :
  OpR X f (rI0 λi j=>.bl (g i j)):=by
 intro pS s Y H x y v u Q I rx ry h;obtain ⟨i,j,rfl,rfl,q⟩:=h;obtain ⟨t,rfl⟩:=rx;obtain ⟨t',rfl⟩:=ry;exact rule i j t t' s _ _ ⟨.bl (g i j),H,I,rfl,q⟩
def CDiv(i j:Int):Prop:=0<j/\j<1073741824
def zx9(i j:Int):Prop:=0<=j/\j<=1000000/\i.natAbs<2 ^ 64
def zx8(i j:Int):Prop:=(-(2 ^ 64)<i/\i<2 ^ 64)\/(-(2 ^ 64)<j/\j<2 ^ 64)
theorem zx8.ok{i j:Int}(h:zx8 i j):IntMulOk i j:=by
 rcases h with ⟨h1,h2⟩|⟨h1,h2⟩
 ·exact .of_left (intBits_le_64 h1 h2)
 ·exact .of_right (intBits_le_64 h1 h2)
theorem zoi(k:Nat):(0:Int)<=2 ^ k:=by rw[two_pow_cast];exact Int.natCast_nonneg _
theorem zvQ:OpR X (binaryOp .Add) (rI0 λi j=>.int (i+j)):=zya λ_ _ _ _ _ _ _ q=>add_int q
theorem zwP:OpR X (binaryOp .Sub) (rI0 λi j=>.int (i-j)):=zya λ_ _ _ _ _ _ _ q=>sub_int q
theorem zvK:OpR X (binaryOp .Mult) (rI zx8 λi j=>.int (i * j)):=opI λ_ _ _ _ _ _ _ hc q=>mul_int q hc.ok
theorem zvb:OpR X (binaryOp .FloorDiv) (rI CDiv λi j=>.int (i / j)):=opI λi j _ _ _ _ _ hc q=>by have h1:(0:Int)<j:=hc.1;have h2:j<1073741824:=hc.2;exact floordiv_int xwl (by rw[Int.fdiv_eq_ediv_of_nonneg i xwo];exact q) (.inl (PyProof.noPylong_small xwo))
theorem zxb:OpR X (binaryOp .Mod) (rI (λ_ j=>0<j) λi j=>.int (i % j)):=opI λi j _ _ _ _ _ hc q=>by have h1:(0:Int)<j:=hc;exact mod_int' xwl (by rw[Int.fmod_eq_emod_of_nonneg i xwo];exact q)
theorem zvY:OpR X (binaryOp .Pow) (rI zx9 λi j=>.int (i ^ j.toNat)):=opI λ_ _ _ _ _ _ _ hc q=>pow_int_small hc.1 hc.2.1 hc.2.2 q
theorem zxd:OpR X (binaryOp .LShift) (rI zx9 λi j=>.int (i * 2 ^ j.toNat)):=opI λ_ _ _ _ _ _ _ hc q=>lshift_int_small hc.1 hc.2.1 hc.2.2 q
theorem zwV:OpR X (binaryOp .RShift) (rI (λ_ j=>0<=j) λi j=>.int (i / 2 ^ j.toNat)):=opI λi j _ _ _ _ _ hc q =>
 rshift_int hc (by rw[Int.fdiv_eq_ediv_of_nonneg i (zoi _)];exact q)
theorem zvC:OpR X (binaryOp .BitAnd) (rI0 λi j=>.int (Builtin.bitAnd i j)):=zya λ_ _ _ _ _ _ _ q=>and_int q
theorem unI{f:Value->Sem Value}{g:Int->Int}
  (rule:∀(i:Int)(t:Tok)(s:Shared)(Q:Value->Shared->Prop)(E:Value->Shared->Prop),Q (.int (g i) s.toks) { s with toks:=s.toks+1 }->wpAny (model X.prog X.w) X.A (f (.int i t)) Q E s) :
  UnR X f (rU λi=>.int (g i)):=by
 intro pS s Y H x v Q I rx h;obtain ⟨i,rfl,q⟩:=h;obtain ⟨t,rfl⟩:=rx;exact rule i t s _ _ ⟨.int (g i),H,I.tok _,⟨_,rfl⟩,q⟩
theorem ztr:UnR X (unaryOp .USub) (rU λi=>.int (-i)):=unI λ_ _ _ _ _ q=>neg_int q
end
section
variable{X:Cx}{a b c:Expr}{ta tb tc:TE}{pos:Pos}
theorem zxZ:OpR X (compareOp .Lt) (rI0 λi j=>.bl (decide (i<j))):=zyy λ_ _ _ _ _ _ _ q=>lt_int q
theorem zxW:OpR X (compareOp .Gt) (rI0 λi j=>.bl (decide (j<i))):=zyy λ_ _ _ _ _ _ _ q=>gt_int q
theorem zyp:OpR X (compareOp .GtE) (rI0 λi j=>.bl (decide (j<=i))):=zyy λ_ _ _ _ _ _ _ q=>ge_int q
theorem OpR.or{f:Value->Value->Sem Value}{r r':R2}(h:OpR X f r)(h':OpR X f r'):OpR X f (λx y H Q=>r x y H Q\/r' x y H Q):=by
 intro pS s Y H x y v u Q I rx ry q;rcases q with q|q
 ·exact h pS s Y H x y v u Q I rx ry q
 ·exact h' pS s Y H x y v u Q I rx ry q
theorem zhI(b:Expr){op:CmpOp}(h:op≠.In:=by decide)(h2:op≠.NotIn:=by decide):behindInMarks op b=false:=by
 have e1:(op == CmpOp.In)=false:=by cases op <;> first|rfl|exact absurd rfl h
 have e2:(op == CmpOp.NotIn)=false:=by cases op <;> first|rfl|exact absurd rfl h2
 cases b <;> simp[behindInMarks,e1,e2]
theorem ztU{op:CmpOp}{r:R2}(ho:OpR X (compareOp op) r)(ha:PE X a ta)(hb:PE X b tb)(hm:behindInMarks op b=false):PE X (.Compare a [op] [b] pos) (tOp r ta tb):=by intro pS s Y H Q I h;exact wpAny_Compare1 (zyc ha hb I h λv u s2 x y H2 I2 rx ry q=>ho pS s2 Y H2 x y v u Q I2 rx ry q) hm
def zrx(t:TE):TT:=λY H Q=>t Y H λx H'=>∃ k,x=.bl k/\Q k H'
theorem zm8{op:CmpOp}{r:R2}(ho:OpR X (compareOp op) r)(ha:PE X a ta)(hb:PE X b tb)(hm:behindInMarks op b=false):PT X (.Compare a [op] [b] pos) (zrx (tOp r ta tb)):=by
 intro pS s Y H Q I h;refine wpAny_isTrue_Compare1 (thn (ha pS s Y H _ I h) λv s1 ⟨x,H1,I1,r1,q1⟩=>thn (hb pS s1 Y H1 _ I1 q1) λu s2 ⟨y,H2,I2,r2,q2⟩ =>
  thn (ho pS s2 Y H2 x y v u _ I2 r1 r2 q2) λc s3 ⟨z,H3,I3,r3,k,e,q3⟩=>?_) hm
 subst e;cases r3;exact wpAny_truthy_bool ⟨H3,I3,q3⟩
theorem zla:(sizeLine:Nat)<2 ^ 63:=by rw[sizeLine_eq];decide
theorem zfv{x:V}{us:List Value}(r:zaY [x] us):∃ u,us=[u]/\zch x u:=by
 cases r with
 |cons r1 r2=>cases r2;exact ⟨_,rfl,r1⟩
theorem zou{x y:V}{us:List Value}(r:zaY [x,y] us):∃ u w',us=[u,w']/\zch x u/\zch y w':=by
 cases r with
 |cons r1 r2 =>
  cases r2 with
  |cons r3 r4=>cases r4;exact ⟨_,_,rfl,r1,r3⟩
theorem zqI(hc:X.calm=true):zdl X (.builtin "max") (λxs H Q=>∃ i j,xs=[.int i,.int j]/\Q (.int (if j > i then j else i)) H):=by
 intro pS s Y H xs us Q I r h;obtain ⟨i,j,rfl,q⟩:=h;obtain ⟨u,w',rfl,⟨t,rfl⟩,⟨t',rfl⟩⟩:=zou r;refine max_two_ints (I.ok.hd hc) λh' tk k=>⟨_,H,I.kept k,?_,q⟩
 by_cases hj:j > i
 ·rw[if_pos hj,if_pos hj];exact ⟨_,rfl⟩
 ·rw[if_neg hj,if_neg hj];exact ⟨_,rfl⟩
theorem zq4(hc:X.calm=true):zdl X (.builtin "min") (λxs H Q=>∃ i j,xs=[.int i,.int j]/\Q (.int (if j<i then j else i)) H):=by
 intro pS s Y H xs us Q I r h;obtain ⟨i,j,rfl,q⟩:=h;obtain ⟨u,w',rfl,⟨t,rfl⟩,⟨t',rfl⟩⟩:=zou r;refine min_two_ints (I.ok.hd hc) λh' tk k=>⟨_,H,I.kept k,?_,q⟩
 by_cases hj:j<i
 ·rw[if_pos hj,if_pos hj];exact ⟨_,rfl⟩
 ·rw[if_neg hj,if_neg hj];exact ⟨_,rfl⟩
end
end L2
namespace L2
open PySem PySem.Spec PyProof.Rows
structure ObjM(h:Heap)(x dx C:Addr)(mA:Str->Option Value):Prop where
 obj:h.get? x=some (W.instObj C dx)
 ns:h.Ns1 dx mA
 ne:dx≠x
section
variable{prog:Program}{w:World}{A:Around}{E:Value->Shared->Prop}{s:Shared}{K:W.Frag}{x dx C f:Addr}{mA:Str->Option Value}{name:Str}{v:Value}
end
section
variable{P:Program}{w:World}{H H':Hp}{h h':Heap}{a C dx:Addr}{fs fs':List (Str×V)}
end
structure Cls(K:W.Frag)(C:Addr):Prop where
 pg:W.plainGet K C Str.empty=true
 hd:W.hasDictIn K C=true
 po:W.plainOver K C=true
 sa:W.findIn K (.ref C) "__setattr__"=some (some (.builtin "object.__setattr__"))
theorem Cls.get{K:W.Frag}{C:Addr}(c:Cls K C)(f:Str):W.plainGet K C f=true:=c.pg
structure Con(K:W.Frag)(C:Addr)(f:Str)(v:V)(u:Value):Prop where
 at_:W.findIn K (.ref C) f=some (some u)
 rel:zch v u
 get:W.specialIn K u "__get__"=some none
 cp:W.copiedNames.contains f=false
structure Meth(K:W.Frag)(C:Addr)(m:Str)(f:Addr):Prop where
 at_:W.findIn K (.ref C) m=some (some (.ref f))
 fn:W.isFn K (.ref f)=true
 kp:W.keepIn K (.ref f)=true
section
variable{X:Cx}{pS:List (Addr×Obj)}{Y:St}{H:Hp}{s:Shared}{a C dx:Addr}{fs:List (Str×V)}{f:Str}{v:V}{A:Around}{E:Value->Shared->Prop}
end
section
variable{X:Cx}{o e value:Expr}{f:Str}{pos pos' tpos:Pos}{ta tv:TE}
end
section
variable{X:Cx}{pS:List (Addr×Obj)}{Y:St}{H:Hp}{s:Shared}{A:Around}{E:Value->Shared->Prop}{Q:Value->Shared->Prop}{c:Value}{b:Bool}
inductive zpq(K:W.Frag)(H:Hp):V->Value->Prop where
 |non:zpq K H .non (.type "NoneType")
 |bl (x:Bool):zpq K H (.bl x) (.type "bool")
 |int (i:Int):zpq K H (.int i) (.type "int")
 |str (x:Str):zpq K H (.str x) (.type "str")
 |flt (x:UInt64):zpq K H (.flt x) (.type "float")
 |lst {a:Addr} {xs:List V} (e:H a=some (.lst xs)):zpq K H (.ref a) (.type "list")
 |frz {a:Addr} {o:Obj} {xs:List V} (e:H a=some (.frz o (.lst xs))):zpq K H (.ref a) (.type "list")
 |tup {a:Addr} {xs:List V} (e:H a=some (.tup xs)):zpq K H (.ref a) (.type "tuple")
 |dK {a:Addr} {kvs:List (Key×V)} (e:H a=some (.dK kvs)):zpq K H (.ref a) (.type "dict")
 |dT {a:Addr} {kvs:List (List Key×V)} (e:H a=some (.dT kvs)):zpq K H (.ref a) (.type "dict")
 |ins {a C dx:Addr} {fs:List (Str×V)} (e:H a=some (.ins C dx fs)) (cl:Cls K C) (ha:W.findIn K (.ref C) "__class__"=some (some (.builtin "object.__class__")))
   (hn:W.specialIn K (.builtin "object.__class__") "__get__"=some (some (.builtin "getset_descriptor.__get__"))) (htk:W.takesIn K (.builtin "object.__class__")=some true)
   (hm:W.mroIn K C (.type "object")=some true):zpq K H (.ref a) (.ref C)
end
end L2
namespace L2
open PySem PySem.Spec PyProof.Rows
structure zfK(k:Nat)(A:Around):Prop where
 hd:A.handled=none
 dp:A.depth+3 * k+5<recursionLimit
 un:A.units+16 * k+200<cLine
theorem zfK.mono{j k:Nat}{A:Around}(r:zfK k A)(h:j<=k):zfK j A:=⟨r.hd,by have:=r.dp;lia,by have:=r.un;omega⟩
theorem zfK.deeper{k:Nat}{A:Around}(r:zfK (k+1) A)(env:Env):zfK k (A.deeper env) :=
 ⟨r.hd,by have:=r.dp;show A.depth+1+3 * k+5<_;lia,by have:=r.un;show A.units+3+16 * k+200<_;omega⟩
theorem zfK.in1{k:Nat}{A:Around}(r:zfK (k+1) A):zfK k A.in1 :=
 ⟨r.hd,by have:=r.dp;show A.depth+3 * k+5<_;lia,by have:=r.un;show A.units+1+16 * k+200<_;omega⟩
theorem zfK.depth{k:Nat}{A:Around}(r:zfK k A):A.depth<recursionLimit:=by have:=r.dp;lia
theorem zfK.units{k:Nat}{A:Around}(r:zfK k A):A.units+64<cLine:=by have:=r.un;lia
def tNil:TA:=λ_ H Q=>Q [] H
def zwM(ta:TE)(tr:TA):TA:=λY H Q=>ta Y H λx H1=>tr Y H1 λxs H2=>Q (x::xs) H2
section
variable{X:Cx}{e:Expr}{es:List Expr}{te:TE}{t:TA}{pos:Pos}
theorem zcY:PA X [] tNil:=λ_ _ _ _ H Q I h=>Calls.spliced_nil ⟨[],H,I,.nil,h⟩
theorem zbj(ha:PE X e te)(hr:PA X es t)(hs:starEach (e::es) X.env=(false,eval e X.env)::starEach es X.env:=by rfl):PA X (e::es) (zwM te t):=by intro pos pS s Y H Q I h;rw[hs];show wpAny _ _ (spliced ((false,eval e X.env)::backTo pos (starEach es X.env))) _ _ s;refine Calls.spliced_cons (thn (ha pS s Y H _ I h) λu s1 ⟨x,H1,I1,r1,q1⟩=>?_);exact thn (hr pos pS s1 Y H1 _ I1 q1) λus s2 ⟨xs,H2,I2,r2,q2⟩=>⟨x::xs,H2,I2,.cons r1 r2,q2⟩
def tTup(t:TA):TE:=λY H Q=>t Y H λxs H1=>xs.length<=sizeLine/\∀ p,H1 p=none->Q (.ref p) (upd H1 p (.tup xs))
def tLst(t:TA):TE:=λY H Q=>t Y H λxs H1=>xs.length<=sizeLine/\∀ p,H1 p=none->Q (.ref p) (upd H1 p (.lst xs))
theorem ztx{x1}(h:PA X es t):PE X (.Tuple es x1 pos) (tTup t):=by intro pS s Y H Q I hq;refine wpAny_Tuple_spliced (thn (h pos pS s Y H _ I hq) λus s1 ⟨xs,H1,I1,r,z,q⟩=>⟨by rw[<- r.length];exact z,?_⟩);have hf:H1 s1.heap.objs.size=none:=I1.hok.fresh (wal _);refine ⟨.ref s1.heap.objs.size,upd H1 s1.heap.objs.size (.tup xs),I1.laid (t':=s1.toks) (λb u e=>waa _ e) (wal _) ?_,rfl,q _ hf⟩;exact ⟨z,us,r,⟨_,waj _ rfl⟩⟩
theorem zxg(h:PA X es t):PE X (.List es pos) (tLst t):=by intro pS s Y H Q I hq;refine wpAny_List_spliced (thn (h pos pS s Y H _ I hq) λus s1 ⟨xs,H1,I1,r,z,q⟩=>⟨by rw[<- r.length];exact z,?_⟩);have hf:H1 s1.heap.objs.size=none:=I1.hok.fresh (wal _);refine ⟨.ref s1.heap.objs.size,upd H1 s1.heap.objs.size (.lst xs),I1.laid (t':=s1.toks) (λb u e=>waa _ e) (wal _) ?_,rfl,q _ hf⟩;exact ⟨z,us,0,r,waj _ rfl⟩
end
abbrev Sp:=List V->Hp->VK->XK->Prop
abbrev CXT:=List Env->Hp->Shared->XK->Value->Shared->Prop
structure zu1(P:Program)(w:World)(K:W.Frag)(mg:Str->Option Value)(base:Heap)(A:Around)(outer:List Env)(s:Shared)(H:Hp):Prop where
 frames:A.frames=some outer
 mod:Mod K mg base
 bs:∀ b o,base.get? b=some o->s.heap.get? b=some o/\H b=none
 bsz:base.objs.size<=s.heap.objs.size
 funs:s.heap.FunFrames base outer
 frf:∀ b∈frs outer,H b=none
 hok:HOk P w H s.heap
 bare:AllBare s.gens
def CE(outer:List Env)(P:Program)(w:World)(H:Hp)(s:Shared)(Q:VK)(u:Value)(s':Shared):Prop :=
 ∃ v H',s'.os=s.os/\AllBare s'.gens/\Un (frs outer) [] H H' s.heap s'.heap/\HOk P w H' s'.heap/\zch v u/\Q v H'
def CR(CX:CXT)(outer:List Env)(P:Program)(w:World)(H:Hp)(s:Shared)(Q:VK)(E:XK)(r:Result)(s':Shared):Prop :=
 match r with
 |.ok (.ret u)=>CE outer P w H s Q u s'
 |.ok _=>False
 |.error e=>CX outer H s E e s'
structure zgt(P:Program)(w:World)(K:W.Frag)(mg:Str->Option Value)(base:Heap)(CX:CXT)(k:Nat)(f:Addr)(fd:FuncData)(ps:List Str)(sp:Sp):Prop where
 len:∀ vs H Q E,sp vs H Q E->vs.length=ps.length
 run:∀(A:Around)(outer:List Env)(s:Shared)(H:Hp)(args:Args)(us:List Value)(vs:List V)(Q:VK)(E:XK),zfK k A->zu1 P w K mg base A outer s H->BindsTo s fd args (ps.zip us)->zaY vs us->sp vs H Q E ->
  codeAny (model P w) A (.call (.ref f) args) (CR CX outer P w H s Q E) s
theorem zgt.mono{P:Program}{w:World}{K:W.Frag}{mg:Str->Option Value}{base:Heap}{CX:CXT}{j k:Nat}{f:Addr}{fd:FuncData}{ps:List Str}{sp:Sp}(F:zgt P w K mg base CX j f fd ps sp)(h:j<=k) :
  zgt P w K mg base CX k f fd ps sp:=⟨F.len,λA outer s H args us vs Q E hr=>F.run A outer s H args us vs Q E (hr.mono h)⟩
theorem zgt.imp{P:Program}{w:World}{K:W.Frag}{mg:Str->Option Value}{base:Heap}{CX:CXT}{k:Nat}{f:Addr}{fd:FuncData}{ps:List Str}{sp sp':Sp}(F:zgt P w K mg base CX k f fd ps sp)
  (h:∀ vs H Q E,sp' vs H Q E->sp vs H Q E):zgt P w K mg base CX k f fd ps sp' :=
 ⟨λvs H Q E q=>F.len vs H Q E (h _ _ _ _ q),λA outer s H args us vs Q E hr he hb hv hs=>F.run A outer s H args us vs Q E hr he hb hv (h _ _ _ _ hs)⟩
theorem zu1.in1{P:Program}{w:World}{K:W.Frag}{mg:Str->Option Value}{base:Heap}{A:Around}{outer:List Env}{s:Shared}{H:Hp}(e:zu1 P w K mg base A outer s H) :
  zu1 P w K mg base A.in1 outer s H:=⟨e.frames,e.mod,e.bs,e.bsz,e.funs,e.frf,e.hok,e.bare⟩
section
variable{X:Cx}{pS:List (Addr×Obj)}{Y:St}{H:Hp}{s s':Shared}
theorem Inv.env0(I:Inv X pS Y H s):zu1 X.prog X.w X.K X.mg X.base X.A X.stack s H :=
 ⟨I.ok.frames,I.ok.mod,I.bs,waN I.ok.bsz I.sz,I.stack,I.stkFree,I.hok,I.bare⟩
theorem Inv.after{Q:VK}{u:Value}(I:Inv X pS Y H s)(h:CE X.stack X.prog X.w H s Q u s'):EP X pS Y Q u s':=by obtain ⟨v,H',os,bare,un,hok,r,q⟩:=h;obtain ⟨hh,g,d,t,os'⟩:=s';obtain rfl:os'=s.os:=os;exact ⟨v,H',I.call (h':=hh) (g':=g) (d':=d) (t':=t) (ch:=[]) un hok bare (λb z=>absurd z xws),r,q⟩
end
def zvt(sp:Sp)(dvs:List V)(E:XK)(t:TA):TE:=λY H Q=>t Y H λvs H1=>sp (vs++dvs) H1 Q E
def zkd(K:W.Frag)(fd:FuncData)(ps:List Str)(ds:List Value):Prop :=
 ∀(s:Shared)(us:List Value),K.In s.heap->(us++ds).length=ps.length->BindsTo s fd ⟨us,[]⟩ (ps.zip (us++ds))
theorem zkd.all{K:W.Frag}{fd:FuncData}{ps:List Str}(h:∀ us:List Value,us.length=ps.length->bindArgs fd ⟨us,[]⟩=pure (ps.zip us)):zkd K fd ps []:=λs us _ hl=>by rw[List.append_nil] at hl ⊢;exact .of_eq (h us hl)
def ze1(CX:CXT)(X:Cx)(E:XK):Prop:=∀(pS:List (Addr×Obj))(Y:St)(H:Hp)(s:Shared)(e:Value)(s':Shared),Inv X pS Y H s->CX X.stack H s E e s'->X.xe e s'
section
variable{X:Cx}{CX:CXT}{k:Nat}{f C:Addr}{fd:FuncData}{ps:List Str}{sp:Sp}{dvs:List V}{ds:List Value}{E:XK}{x m:Str}{p pos apos:Pos}{e o:Expr}{es:List Expr}{ta:TE}{t:TA}
theorem ztv{pS:List (Addr×Obj)}{Y:St}{H:Hp}{s:Shared}{Q:VK}{us:List Value}{vs:List V}(F:zgt X.prog X.w X.K X.mg X.base CX k f fd ps sp)(hr:zfK k X.A)(hb:zkd X.K fd ps ds)(hd:zaY dvs ds)(hx:ze1 CX X E)
  (I:Inv X pS Y H s) (r:zaY vs us) (h:sp (vs++dvs) H Q E):wpAny (model X.prog X.w) X.A (call (.ref f) us) (EP X pS Y Q) X.xe s:=by
 have r2:zaY (vs++dvs) (us++ds):=r.append hd;have hl:(us++ds).length=ps.length:=by rw[<- r2.length];exact F.len _ _ _ _ h
 refine wpAny_call (codeAny_mono (F.run X.A X.stack s H ⟨us,[]⟩ (us++ds) (vs++dvs) Q E hr I.env0 (hb s us I.kIn hl) r2 h) λr s' hq=>?_);cases r with
 |error e=>exact hx pS Y H s e s' I hq
 |ok fl =>
  cases fl with
  |ret u=>exact I.after hq
  |next=>exact waO hq
  |brk=>exact waO hq
  |cont=>exact waO hq
theorem zjn(F:zgt X.prog X.w X.K X.mg X.base CX k f fd ps sp)(hr:zfK k X.A)(hg:Gl X x)(hm:X.mg x=some (.ref f))(hk:W.keepIn X.K (.ref f)=true)(hb:zkd X.K fd ps ds)(hd:zaY dvs ds)(hx:ze1 CX X E)
  (ha:PA X (e::es) t) (hdb:(x == ("__debug__" : Str))=false:=by decide) (he:starEach (e::es) X.env=(false,eval e X.env)::starEach es X.env:=by rfl) (hpl:(backTo pos (starEach es X.env)).any (·.1)=false:=by rfl) :
  PE X (.Call (.Name x p) (e::es) [] pos) (zvt sp dvs E t):=by
 intro pS s Y H Q I h;refine wpAny_Call_Name_kw (zqg I hg hm ?_ hdb);refine W.callWith_K (h₀:=X.base) I.ok.mod.kin hk (thn (ha pos pS s Y H _ I h) λus s1 ⟨vs,H1,I1,r,q⟩=>⟨I1.kIn,?_⟩) he hpl;exact ztv F hr hb hd hx I1 r q
structure Mk(K:W.Frag)(C f:Addr):Prop where
 makes:W.makesIn K C=true
 init:W.findIn K (.ref C) "__init__"=some (some (.ref f))
 fn:W.isFn K (.ref f)=true
 kp:W.keepIn K (.ref C)=true
end
def PK(X:Cx)(kws:List Keyword)(t:TA):Prop :=
 ∀(pos:Pos)(pS:List (Addr×Obj))(s:Shared)(Y:St)(H:Hp)(Q:List V->Hp->Prop),Inv X pS Y H s->t Y H Q->wpAny (model X.prog X.w) X.A (evalAll ((backToKw pos (keywordEach kws X.env)).map (·.2))) (AP X pS Y Q) X.xe s
section
variable{X:Cx}{CX:CXT}{k:Nat}{f C:Addr}{fd:FuncData}{ps ks:List Str}{sp:Sp}{E:XK}{x m:Str}{p pos apos kpos:Pos}{e o:Expr}{es:List Expr}{kws:List Keyword}{te ta:TE}{t tk:TA}{nm:Option Str}
theorem zxk:PK X [] tNil:=λ_ _ _ _ H Q I h=>wpAny_evalAll_nil ⟨[],H,I,.nil,h⟩
theorem zuo(ha:PE X e te)(hr:PK X kws t):PK X (⟨nm,e,kpos⟩::kws) (zwM te t):=by intro pos pS s Y H Q I h;show wpAny _ _ (evalAll ((do let v <- eval e X.env;standAt pos;pure v)::(backToKw pos (keywordEach kws X.env)).map (·.2))) _ _ s;refine wpAny_evalAll_cons (wab (thn (ha pS s Y H _ I h) λu s1 ⟨x,H1,I1,r1,q1⟩=>wab (wpAny_standAt (wad ?_))));exact thn (hr pos pS s1 Y H1 _ I1 q1) λus s2 ⟨xs,H2,I2,r2,q2⟩=>⟨x::xs,H2,I2,.cons r1 r2,q2⟩
structure KBinds(K:W.Frag)(fd:FuncData)(ps ks:List Str)(g:List Value->List Value->List Value)(gV:List V->List V->List V):Prop where
 to:∀(s:Shared)(us ws:List Value),K.In s.heap->(g us ws).length=ps.length->BindsTo s fd ⟨us,ks.zip ws⟩ (ps.zip (g us ws))
 rel:∀{vs:List V}{us:List Value}{zs:List V}{ws:List Value},zaY vs us->zaY zs ws->zaY (gV vs zs) (g us ws)
variable{g:List Value->List Value->List Value}{gV:List V->List V->List V}
end
structure za6(N P:List Str)(sc:Scope):Prop where
 kind:sc.kind=.function
 co:sc.isCoroutine=false
 gen:sc.isGenerator=false
 nd:N.Nodup
 pre:N.take P.length=P
 par:∀ x∈P,sc.names.lookup x=some .local\/sc.names.lookup x=some .cell
 nofree:∀ y∈sc.names,y.2≠.free
theorem zkN{kindOf:Str->Option NameKind}{x:Str}:∀{binds:List (Str×Value)}{m:Str->Option Value},(∀ v,(x,v)∉binds)->bindL kindOf binds m x=m x
 |[],_,_=>rfl
 | (n,v)::r,m,h=>by
  unfold bindL;rw[zkN λw hw=>h w (List.mem_cons_of_mem _ hw)];split
  ·have:x≠n:=by rintro rfl;exact h v wau
   simp[this]
  ·rfl
theorem zlc{kindOf:Str->Option NameKind}{x:Str}:∀{binds:List (Str×Value)}{m:Str->Option Value},(∀ v,(x,v)∉binds)->bindC kindOf binds m x=m x
 |[],_,_=>rfl
 | (n,v)::r,m,h=>by
  unfold bindC;rw[zlc λw hw=>h w (List.mem_cons_of_mem _ hw)];split
  ·rfl
  ·have:x≠n:=by rintro rfl;exact h v wau
   simp[this]
theorem zkP{kindOf:Str->Option NameKind}{x:Str}{v:Value}:∀{P:List Str}{vs:List Value}{i:Nat}{m:Str->Option Value},P.Nodup->P[i]? = some x->vs[i]? = some v->kindOf x=some .local ->
  bindL kindOf (P.zip vs) m x=some v
 |[],_,_,_,_,h,_,_=>by simp at h
 |_::_,[],_,_,_,_,h,_=>by simp at h
 |p::P,w::vs,0,m,nd,h1,h2,hk=>by simp at h1 h2;subst h1;subst h2;show bindL kindOf ((p,w)::P.zip vs) m p=_;unfold bindL;rw[zkN λv hv=>(List.nodup_cons.mp nd).1 (List.of_mem_zip hv).1,if_pos hk];simp
 |p::P,w::vs,i+1,m,nd,h1,h2,hk=>by show bindL kindOf ((p,w)::P.zip vs) m x=_;unfold bindL;exact zkP (i:=i) (List.nodup_cons.mp nd).2 (by simpa using h1) (by simpa using h2) hk
theorem zk1{kindOf:Str->Option NameKind}{x:Str}{v:Value}:∀{P:List Str}{vs:List Value}{i:Nat}{m:Str->Option Value},P.Nodup->P[i]? = some x->vs[i]? = some v->kindOf x≠some .local ->
  bindC kindOf (P.zip vs) m x=some v
 |[],_,_,_,_,h,_,_=>by simp at h
 |_::_,[],_,_,_,_,h,_=>by simp at h
 |p::P,w::vs,0,m,nd,h1,h2,hk=>by simp at h1 h2;subst h1;subst h2;show bindC kindOf ((p,w)::P.zip vs) m p=_;unfold bindC;rw[zlc λv hv=>(List.nodup_cons.mp nd).1 (List.of_mem_zip hv).1,if_neg hk];simp
 |p::P,w::vs,i+1,m,nd,h1,h2,hk=>by show bindC kindOf ((p,w)::P.zip vs) m x=_;unfold bindC;exact zk1 (i:=i) (List.nodup_cons.mp nd).2 (by simpa using h1) (by simpa using h2) hk
def start(N:List Str)(vs:List V):St:=vs.map some++List.replicate (N.length-vs.length) none
def zrZ(CX:CXT)(P:Program)(w:World)(K:W.Frag)(mg:Str->Option Value)(base:Heap)(N:List Str)(qual:Str)(scope:Scope)(f:Addr)(cd:Value)(A:Around)(outer:List Env)(s:Shared)(H:Hp)(E:XK):Cx where
 prog:=P
 w:=w
 K:=K
 mg:=mg
 base:=base
 A:=A.deeper (envOfC qual scope s.heap.objs.size f cd)
 N:=N
 s₀:=s
 H₀:=H
 env:=envOfC qual scope s.heap.objs.size f cd
 outer:=outer
 stack:=envOfC qual scope s.heap.objs.size f cd::outer
 ex:=[]
 calm:=true
 fn:=λ_=>true
 pn:=[]
 xe:=λe s'=>wpAny (model P w) (A.deeper (envOfC qual scope s.heap.objs.size f cd)) (leaving (envOfC qual scope s.heap.objs.size f cd) e) (λ_ s''=>CX outer H s E e s'') (λe' s''=>CX outer H s E e' s'') s'
theorem znw{sc:Scope}{n:Nat}{x:Str}(h:sc.names.lookup x=some .cell):∃ c,(cellsFrom n sc.names []).lookup x=some c:=by have q:=W.cellsFrom_some sc.names n [] (.inl h);exact Option.isSome_iff_exists.mp q
theorem zqC{CX:CXT}{P:Program}{w:World}{K:W.Frag}{mg:Str->Option Value}{base:Heap}{N ps:List Str}{qual:Str}{scope:Scope}{f:Addr}{cd:Value}{A:Around}{outer:List Env}{s s1:Shared}{H:Hp}{E:XK}{us:List Value}{vs:List V}
  (S:za6 N ps scope) (hd:A.handled=none) (e0:zu1 P w K mg base A outer s H) (hl:vs.length=ps.length) (r:zaY vs us)
  (x:InCallC s s.heap.objs.size (bindL (envOfC qual scope s.heap.objs.size f cd).kindOf (ps.zip us) λ_=>none) (cellsFrom (s.heap.objs.size+1) scope.names []) (bindC (envOfC qual scope s.heap.objs.size f cd).kindOf (ps.zip us) λ_=>none) s1) :
  Inv (zrZ CX P w K mg base N qual scope f cd A outer s H E) [] (start N vs) H s1:=by
 have hpl:ps.length<=N.length:=by have:=congrArg List.length S.pre;rw[List.length_take] at this;lia
 obtain ⟨h1,tk,rfl,hk⟩:=x.done;have noA:∀ b:Addr,b∉(zrZ CX P w K mg base N qual scope f cd A outer s H E).ex:=λb z=>absurd (show b∈([]:List Addr) from z) xws;refine ⟨⟨e0.mod,S.kind,rfl,rfl,wal _,λy z c h1 h2=>?_,λy hy=>?_,λy c _ h=>?_,λ_=>hd,Around.frames_deeper e0.frames,.inr ⟨rfl,rfl⟩,λb z=>absurd z (noA b),e0.bs,e0.bsz,λb _ _=>noA b,λb z=>absurd z (noA b),e0.funs,e0.frf⟩,
  rfl,e0.bare,Un.kept hk,⟨_,x.toInCall.ns,λi y v h1 h2 h3=>?_⟩,λy c h=>⟨_,x.cell y c h⟩,e0.hok.fresh (wal _),λy c h=>?_,λp hp=>absurd (show p∈([]:List (Addr×Obj)) from hp) xws,e0.hok.kept hk,?_⟩
 ·exact name_of_addr x.apart (PySem.mem_of_lookup h1) (PySem.mem_of_lookup h2)
 ·have hy:scope.names.lookup y=some .cell\/scope.names.lookup y=some .free:=hy;rcases hy with hy|hy
  ·exact znw hy
  ·exact absurd rfl (S.nofree _ (PySem.mem_of_lookup hy))
 ·exact Nat.le_of_lt (x.above y c (PySem.mem_of_lookup h))
 ·have hi:i<vs.length:=by
   unfold start at h2;by_cases hi:i<vs.length
   ·exact hi
   ·rw[List.getElem?_append_right (by simpa using hi)] at h2;rw[List.getElem?_replicate] at h2;split at h2 <;> cases h2
  have ha:vs[i]? = some v:=by
   unfold start at h2;rw[List.getElem?_append_left (by simpa using hi),List.getElem?_map] at h2;cases e:vs[i]? with
   |none=>rw[e] at h2;cases h2
   |some a=>rw[e] at h2;cases h2;rfl
  obtain ⟨u,hu,rv⟩:=r.get ha;have hp:ps[i]? = some y:=by rw[<- S.pre,List.getElem?_take_of_lt xwl];exact h1
  have ndP:ps.Nodup:=by rw[<- S.pre];exact S.nd.sublist (List.take_sublist _ _)
  refine ⟨u,rv,?_⟩;rcases S.par y (waH hp) with k|k
  ·exact .inl ⟨k,zkP ndP hp hu k⟩
  ·obtain ⟨c,e⟩:=znw (n:=s.heap.objs.size+1) k;refine .inr ⟨.inl k,c,e,?_⟩;have q:=x.cell y c e;rw[zk1 ndP hp hu (by show scope.names.lookup y≠_;rw[k];decide)] at q;exact q
 ·exact e0.hok.fresh (Nat.le_of_lt (x.above y c (PySem.mem_of_lookup h)))
 ·unfold start;show _=N.length;rw[List.length_append,List.length_map,List.length_replicate];lia
theorem zvE{CX:CXT}{P:Program}{w:World}{K:W.Frag}{mg:Str->Option Value}{base:Heap}{k:Nat}{f:Addr}{name qual:Str}{params:Arguments}{body:List Stmt}{scope:Scope}{dV kV doc pm cdv ct oc:Value}{an od:Option Addr}
  {osl:Array (Option Value)} {N ps:List Str} {sp:Sp} (lk:K.lookup f=some ⟨oc,od,.func (W.fnOf name qual params body scope dV kV doc pm an cdv ct),osl⟩) (hcd:W.codeIn K cdv qual=true) (S:za6 N ps scope)
  (len:∀ vs H Q E,sp vs H Q E->vs.length=ps.length)
  (hbody:∀(A:Around)(outer:List Env)(s:Shared)(H:Hp)(vs:List V)(Q:VK)(E:XK),zfK k (A.deeper (envOfC qual scope s.heap.objs.size f cdv))->sp vs H Q E ->
   ∃ t,PSs (zrZ CX P w K mg base N qual scope f cdv A outer s H E) body t/\t { nx:=λ_ H'=>Q .non H',rt:=Q } (start N vs) H) :
  zgt P w K mg base CX (k+1) f (W.fnOf name qual params body scope dV kV doc pm an cdv ct) ps sp:=by
 refine ⟨len,λA outer s H args us vs Q E hr e0 hb r hsp=>?_⟩;have hl:=len _ _ _ _ hsp;have KX:K.In s.heap:=e0.mod.kin.keeps λb o e=>(e0.bs b o e).1;have lim:s.heap.NoLimit:=e0.mod.nolimit.keeps λb o e=>(e0.bs b o e).1;have hkind:∀ y∈ps.zip us,scope.names.lookup y.1=some .local\/(scope.names.lookup y.1=some .cell/\((cellsFrom (s.heap.objs.size+1) scope.names []).lookup y.1).isSome=true):=λ⟨n,v⟩ hy=>by
  rcases S.par n (List.of_mem_zip hy).1 with q|q
  ·exact .inl q
  ·exact .inr ⟨q,W.cellsFrom_some _ _ _ (.inl q)⟩
 refine codeAny_call_function hr.depth (KX _ _ lk) rfl S.co S.gen rfl (W.codeRec_of KX hcd) (hb _ _ _ _ ?_);refine wpAny_newFunctionEnv_cells S.kind hkind λenv he s1 x=>?_;subst he;refine ⟨lim.keeps x.toInCall.keep,codeAny_func ?_⟩;obtain ⟨t,ht,hq⟩:=hbody A outer s H vs Q E (hr.deeper _) hsp;have I:Inv (zrZ CX P w K mg base N qual scope f cdv A outer s H E) [] (start N vs) H s1:=zqC S hr.hd e0 hl r x;refine wpAny_mono (ht [] s1 (start N vs) H _ I hq) (λfl s' hs=>?_) λe s' hs=>hs;have fin:∀{Y':St}{H':Hp}{v:V}{u:Value},Inv (zrZ CX P w K mg base N qual scope f cdv A outer s H E) [] Y' H' s'->zch v u->Q v H'->CE outer P w H s Q u s' :=
  λ{Y' H' v u} J rv q=>⟨v,H',J.os,J.bare,J.base,J.hok,rv,q⟩
 cases fl with
 |ret u =>
  obtain ⟨v,Y',H',J,rv,q⟩:=hs;exact fin J rv q
 |next =>
  obtain ⟨Y',H',J,q⟩:=hs;exact fin (v:=V.non) (u:=Value.none) J rfl q
 |brk =>
  obtain ⟨_,_,_,q⟩:=hs;exact waO q
 |cont =>
  obtain ⟨_,_,_,q⟩:=hs;exact waO q
end L2
namespace L2
open PySem PySem.Spec PyProof.Rows
section
variable{X:Cx}{x:Str}{p pos:Pos}{e:Expr}{es:List Expr}{t:TA}{id T:String}{r:List V->Hp->VK->Prop}
def tCB(r:List V->Hp->VK->Prop)(t:TA):TE:=λY H Q=>t Y H λvs H1=>r vs H1 Q
theorem zeW(hc:zdl X (.builtin id) r)(hg:Gl X x)(hm:X.mg x=none)(hv:bootBuiltins x=some (.builtin id))(ha:PA X (e::es) t)(hn:x≠"__name__":=by decide)(hdb:(x == ("__debug__" : Str))=false:=by decide)
  (he:starEach (e::es) X.env=(false,eval e X.env)::starEach es X.env:=by rfl) (hpl:(backTo pos (starEach es X.env)).any (·.1)=false:=by rfl):PE X (.Call (.Name x p) (e::es) [] pos) (tCB r t):=by
 intro pS s Y H Q I h;refine wpAny_Call_Name_kw (zdA I hg hm hv ?_ hn hdb);exact PyProof.Rows.callWith_builtin1 (thn (ha pos pS s Y H _ I h) λus s1 ⟨vs,H1,I1,r1,q1⟩=>hc pS s1 Y H1 vs us Q I1 r1 q1) he hpl
theorem zie(hc:zdl X (.type T) r)(hg:Gl X x)(hm:X.mg x=none)(hv:bootBuiltins x=some (.type T))(ha:PA X (e::es) t)(hn:x≠"__name__":=by decide)(hdb:(x == ("__debug__" : Str))=false:=by decide)
  (he:starEach (e::es) X.env=(false,eval e X.env)::starEach es X.env:=by rfl) (hpl:(backTo pos (starEach es X.env)).any (·.1)=false:=by rfl):PE X (.Call (.Name x p) (e::es) [] pos) (tCB r t):=by
 intro pS s Y H Q I h;refine wpAny_Call_Name_kw (zdA I hg hm hv ?_ hn hdb);exact PyProof.Rows.callWith_type1 (thn (ha pos pS s Y H _ I h) λus s1 ⟨vs,H1,I1,r1,q1⟩=>hc pS s1 Y H1 vs us Q I1 r1 q1) he hpl
end
end L2
namespace HT
open PySem PyProof.Rows
section
open PySem.SeqAt
open PySem.AutoSeq1 (wpAny_loadPart')
open PySem.MeetsSeq PySem.MeetsSeq2 PySem.MeetsSeq3
end
section
variable{prog:Program}{w:World}{A:Around}{E:Value->Shared->Prop}{s:Shared}
theorem cat_tup{t b:Addr}{vs ws:List Value}{Q:Value->Shared->Prop}(ht:IsTup s.heap t vs.toArray)(hb:IsTup s.heap b ws.toArray)(hv:vs≠[])
  (h1:ws=[]->Q (.ref t) s) (h2:ws≠[]->Q (.ref s.heap.objs.size) { s with heap:=s.heap.push { cls:=.type "tuple",data:=.seq (vs++ws).toArray } })
  (hsz:vs.length+ws.length<=sizeLine):wpAny (model prog w) A (binaryOp .Add (.ref t) (.ref b)) Q E s:=by
 obtain ⟨⟨cls,dd,data,sl⟩,ho,hc,n,hd⟩:=id ht;obtain ⟨⟨cls2,dd2,data2,sl2⟩,ho2,hc2,n2,hd2⟩:=id hb;simp only at hc hd hc2 hd2;subst hc hd hc2 hd2;have e:vs.toArray++ws.toArray=(vs++ws).toArray:=by simp
 by_cases hw:ws=[]
 ·exact concat_meets ⟨_,ho,rfl⟩ ⟨_,ho2,rfl⟩ noFill_tuple_add seq_tuple_add PySem.F.slot_tuple_add PySem.F.entry_tuple_add (PySem.F.args_tuple_add_2 _ _)
   (tuple_addW1 t b vs.toArray ws.toArray n n2 dd dd2 sl sl2 (by simpa using hv) (by simp[hw])) ⟨ho,ho2,h1 hw⟩
 ·refine concat_meets ⟨_,ho,rfl⟩ ⟨_,ho2,rfl⟩ noFill_tuple_add seq_tuple_add PySem.F.slot_tuple_add PySem.F.entry_tuple_add (PySem.F.args_tuple_add_2 _ _)
   (tuple_addW2 t b vs.toArray ws.toArray n n2 dd dd2 sl sl2 (by simpa using hv) (by simpa using hw) (by rw[List.size_toArray,List.size_toArray];exact hsz)) ⟨ho,ho2,?_⟩
  rw[e];exact h2 hw
def sIx(n d:Nat):Option Int->Nat
 |none=>d
 |some v=>if v<0 then (v+(n:Int)).toNat else min v.toNat n
theorem sIx_none(n d:Nat):sIx n d none=d:=rfl
theorem sIx_nat(n d k:Nat):sIx n d (some (k:Int))=min k n:=by show (if (k:Int)<0 then ((k:Int)+(n:Int)).toNat else min (k:Int).toNat n)=min k n;rw[if_neg xwl,Int.toNat_natCast]
theorem zwy(n d:Nat)(hd:d<=n)(o:Option Int):sIx n d o<=n:=by
 cases o with
 |none=>exact hd
 |some v =>
  show (if v<0 then (v+(n:Int)).toNat else min v.toNat n)<=n;by_cases hv:v<0
  ·rw[if_pos hv];lia
  ·rw[if_neg hv];exact Nat.min_le_right _ _
theorem zqT(v:Int)(n d:Nat):(if v<0 then max (v+(n:Int)) 0 else min v (n:Int))=((sIx n d (some v):Nat):Int):=by
 show (if v<0 then max (v+(n:Int)) 0 else min v (n:Int))=(((if v<0 then (v+(n:Int)).toNat else min v.toNat n):Nat):Int)
 by_cases hv:v<0
 ·simp only[if_pos hv];lia
 ·simp only[if_neg hv];lia
theorem zob(lo hi:Option Int)(n:Nat):Builtin.Slice.sliceAdjust lo hi 1 (n:Int)=(((sIx n 0 lo:Nat):Int),((sIx n n hi:Nat):Int)):=by
 have h1:¬ ((1:Int)<0):=by lia
 unfold Builtin.Slice.sliceAdjust;simp only[h1,if_false];refine Prod.ext ?_ ?_
 ·cases lo with
  |none=>rfl
  |some v=>exact zqT v n 0
 ·cases hi with
  |none=>rfl
  |some v=>exact zqT v n n
theorem zoh(i j:Nat):Builtin.Slice.slicePlaces (i:Int) (j:Int) 1=j-i:=by
 unfold Builtin.Slice.slicePlaces;have h1:(1:Int) > 0:=by lia
 simp only[h1,if_true,Int.ediv_one];split <;> lia
theorem ziN{v:Value}{o:Option Int}{Q:Option Int->Shared->Prop}(p:IsPart v o)(h:Q o s):wpAny (model prog w) A (Builtin.Slice.slicePartIndex v) Q E s:=by
 cases p with
 |none=>exact slicePart_none h
 |int i t=>exact slicePart_int h
theorem sliceApplied_gen{sl:Addr}{vl vu:Value}{lo hi:Option Int}{n:Nat}{Q:Int×Int×Nat->Shared->Prop}(hs:s.heap.IsSliceOf sl vl vu .none)(pl:IsPart vl lo)(pu:IsPart vu hi)
  (h:Q (((sIx n 0 lo:Nat):Int),1,sIx n n hi-sIx n 0 lo) s):wpAny (model prog w) A (Builtin.Slice.sliceApplied (.ref sl) (pure (n:Int))) Q E s:=by
 obtain ⟨os,hos,hcs,hds⟩:=id hs;unfold Builtin.Slice.sliceApplied Builtin.Slice.sliceFields;refine wab (wab (wpAny_field hos hds (x:=vl) rfl (wab (wpAny_field hos hds (x:=vu) rfl (wab (wpAny_field hos hds (x:=.none) rfl (wad ?_)))))));refine wab (slicePart_none ?_);show wpAny _ _ (if ((1:Int) == 0)=true then _ else _) _ _ s;rw[if_neg xwd];refine wab (ziN pl (wab (ziN pu (wab (wad ?_)))));show wpAny _ _ (match Builtin.Slice.sliceAdjust lo hi 1 (n:Int) with|(lo,hi)=>pure (lo,(1:Int),Builtin.Slice.slicePlaces lo hi 1)) _ _ s;rw[zob lo hi n];show wpAny _ _ (pure (((sIx n 0 lo:Nat):Int),(1:Int),Builtin.Slice.slicePlaces ((sIx n 0 lo:Nat):Int) ((sIx n n hi:Nat):Int) 1)) _ _ s;rw[zoh];exact wad h
theorem zrB(xs:Array Value)(i k:Nat):((List.range k).filterMap λ(m:Nat)=>xs[((i:Int)+(m:Int) * 1).toNat]?).toArray=((xs.toList.drop i).take k).toArray:=by
 have e:(λ(m:Nat)=>xs[((i:Int)+(m:Int) * 1).toNat]?)=λm=>xs[i+m]? := by
  funext m;have:((i:Int)+(m:Int) * 1).toNat=i+m:=by lia
  rw[this]
 rw[e];have:=pick_run xs i k;rw[List.filterMap_map] at this;have e2:((λx=>xs[x]?) ∘ λx=>i+x)=λm=>xs[i+m]? := rfl;rw[e2] at this;rw[this]
theorem getItem_tuple_cut{t sl:Addr}{items:Array Value}{vl vu:Value}{lo hi:Option Int}{Q:Value->Shared->Prop}(ht:IsTup s.heap t items)(hs:s.heap.IsSliceOf sl vl vu .none)(pl:IsPart vl lo)(pu:IsPart vu hi)
  (hw:¬ (sIx items.size 0 lo=0/\sIx items.size items.size hi=items.size))
  (h:Q (.ref s.heap.objs.size) { s with heap:=s.heap.push { cls:=.type "tuple",data:=.seq ((items.toList.drop (sIx items.size 0 lo)).take (sIx items.size items.size hi-sIx items.size 0 lo)).toArray } })
  (hsz:items.size<=sizeLine):wpAny (model prog w) A (getItem (.ref t) (.ref sl)) Q E s:=by
 have htake:sizeOk (.seq ((items.toList.drop (sIx items.size 0 lo)).take (sIx items.size items.size hi-sIx items.size 0 lo)).toArray):=by show ((items.toList.drop (sIx items.size 0 lo)).take (sIx items.size items.size hi-sIx items.size 0 lo)).toArray.size<=sizeLine;rw[List.size_toArray,List.length_take,List.length_drop,Array.length_toList];lia
 have hj:sIx items.size items.size hi<=items.size:=zwy _ _ (wal _) hi;obtain ⟨os,hos,hcs,hds⟩:=id hs;have hTs:s.TypeIs (.ref sl) "slice":=⟨os,hos,hcs⟩
 unfold getItem
 try with_reducible refine wpAny_holding ?_
 first|refine wab (wad ?_)|skip
 refine wab (wpAny_sequenceKey ht.typeIs xwd ?_);refine wab (wpAny_callSpecial?_slot (name:=Str.ofString "__getitem__") ht.typeIs PyProof.Rows.slot_tuple_getitem
  (wpAny_call_entry PyProof.Rows.slot_tuple_getitem ht.typeIs entry_tuple_getitem ?_ (args_tuple_getitem _ _)))
 show wpAny _ _ (Builtin.Tuple.tupleItemsOf (.ref t) >>= _) _ _ s;refine wab (tupleItemsOf_ ht ?_);refine wab (wpAny_typeOf hTs ?_);rw[if_pos xwd];refine wab (sliceApplied_gen hs pl pu ?_);have hno:¬ ((((sIx items.size 0 lo:Nat):Int) == 0 && (1:Int) == 1 && (sIx items.size items.size hi-sIx items.size 0 lo) == items.size)=true):=by intro q;rw[Bool.and_eq_true,Bool.and_eq_true] at q;have q1:((sIx items.size 0 lo:Nat):Int)=0:=eq_of_beq q.1.1;have q2:sIx items.size items.size hi-sIx items.size 0 lo=items.size:=eq_of_beq q.2;exact hw ⟨xwl,xwo⟩
 show wpAny _ _ (if (((sIx items.size 0 lo:Nat):Int) == 0 && (1:Int) == 1 && (sIx items.size items.size hi-sIx items.size 0 lo) == items.size)=true then _ else _) _ _ s;rw[if_neg hno,zrB]
 first
  |exact wab (m:=Builtin.Tuple.tupleExact _) (wpAny_newObj_type (wad ⟨_,rfl,wad h⟩) htake)
  |exact wab (m:=Builtin.Tuple.tupleExact _) (wpAny_newObj_type (wab (wad (wad ⟨_,rfl,wad h⟩))) htake)
  |exact wab (wab (m:=Builtin.Tuple.tupleExact _) (wpAny_newObj_type (wad (wad ⟨_,rfl,wad h⟩)) htake))
  |exact wab (wab (m:=Builtin.Tuple.tupleExact _) (wpAny_newObj_type (wad ⟨_,rfl,wad h⟩) htake))
end
end HT
namespace L2
open PySem PySem.Spec PyProof.Rows
abbrev TO:=St->Hp->(Option Int->Hp->Prop)->Prop
def PO(X:Cx)(e:Option Expr)(t:TO):Prop :=
 ∀(pS:List (Addr×Obj))(s:Shared)(Y:St)(H:Hp)(Q:Option Int->Hp->Prop),Inv X pS Y H s->t Y H Q ->
  wpAny (model X.prog X.w) X.A (evalPart e X.env) (λu s'=>∃ o H',Inv X pS Y H' s'/\IsPart u o/\Q o H') X.xe s
def zv1:TO:=λ_ H Q=>Q none H
def zyr(t:TE):TO:=λY H Q=>t Y H λx H1=>∃ i,x=.int i/\Q (some i) H1
theorem intsAre_of{ns:List Int}:∀{us:List Value},zaY (ns.map V.int) us->IntsAre us ns:=by
 induction ns with
 |nil=>intro us r;rw[List.map_nil] at r;cases r;exact .nil
 |cons n ns ih =>
  intro us r;rw[List.map_cons] at r;cases r with
  |cons r1 r2 =>
   obtain ⟨t,e⟩:=r1;subst e;exact .cons n t (ih r2)
section
variable{X:Cx}{e:Expr}{te:TE}{lo hi:Option Expr}{tl th:TO}{pos p2:Pos}
theorem zv0:PO X none zv1:=by intro pS s Y H Q I h;rw[evalPart_none];exact wad ⟨none,H,I,.none,h⟩
theorem zuN(h:PE X e te):PO X (some e) (zyr te):=by intro pS s Y H Q I hw;rw[evalPart_some];refine thn (h pS s Y H _ I hw) λu s1 ⟨x,H1,I1,r1,q1⟩=>?_;obtain ⟨i,rfl,q⟩:=q1;obtain ⟨t,rfl⟩:=r1;exact ⟨some i,H1,I1,.int i t,q⟩
def SlR(X:Cx)(r:V->Option Int->Option Int->Hp->VK->Prop):Prop :=
 ∀(pS:List (Addr×Obj))(s:Shared)(Y:St)(H:Hp)(x:V)(v vl vu:Value)(lo hi:Option Int)(sl:Addr)(Q:VK),Inv X pS Y H s->zch x v->s.heap.IsSliceOf sl vl vu .none->IsPart vl lo->IsPart vu hi->r x lo hi H Q ->
  ∃ T id,typeLookup (.type T) "__getitem__"=pure (some (.builtin id))/\s.TypeIs v T/\wpAny (model X.prog X.w) X.A (getItem v (.ref sl)) (EP X pS Y Q) X.xe s
theorem SlR.or{r r':V->Option Int->Option Int->Hp->VK->Prop}(h:SlR X r)(h':SlR X r'):SlR X (λx lo hi H Q=>r x lo hi H Q\/r' x lo hi H Q):=by
 intro pS s Y H x v vl vu lo hi sl Q I rx hs pl pu q;rcases q with q|q
 ·exact h pS s Y H x v vl vu lo hi sl Q I rx hs pl pu q
 ·exact h' pS s Y H x v vl vu lo hi sl Q I rx hs pl pu q
def tSl(r:V->Option Int->Option Int->Hp->VK->Prop)(te:TE)(tl th:TO):TE:=λY H Q=>te Y H λx H1=>tl Y H1 λl H2=>th Y H2 λu H3=>r x l u H3 Q
theorem znD{r:V->Option Int->Option Int->Hp->VK->Prop}(hr:SlR X r)(he:PE X e te)(hl:PO X lo tl)(hu:PO X hi th):PE X (.Subscript e (.Slice lo hi none p2) pos) (tSl r te tl th):=by intro pS s Y H Q I h;refine Subscript_ (thn (he pS s Y H _ I h) λv s1 ⟨x,H1,I1,r1,q1⟩=>?_);refine wpAny_Slice (thn (hl pS s1 Y H1 _ I1 q1) λvl s2 ⟨l,H2,I2,pl,q2⟩=>thn (hu pS s2 Y H2 _ I2 q2) λvu s3 ⟨u,H3,I3,pu,q3⟩=>?_);rw[evalPart_none];refine wad ?_;have I4:Inv X pS Y H3 { s3 with heap:=s3.heap.push { cls:=.type "slice",data:=.fields #[vl,vu,.none] } }:=I3.kept (t':=s3.toks) λb ob q=>waa _ q;obtain ⟨T,id,hT,ht,hg⟩:=hr pS { s3 with heap:=s3.heap.push { cls:=.type "slice",data:=.fields #[vl,vu,.none] } } Y H3 x v vl vu l u s3.heap.objs.size Q I4 r1 (Heap.IsSliceOf.new ..) pl pu q3;show wpAny (model X.prog X.w) X.A (subscriptTail e (.Slice lo hi none p2) v (.ref s3.heap.objs.size)) (EP X pS Y Q) X.xe { s3 with heap:=s3.heap.push { cls:=.type "slice",data:=.fields #[vl,vu,.none] } };exact tail_any (ops:=[.ref s3.heap.objs.size,v]) ht hT hg (by with_unfolding_all rfl)
def zoG(xs:List V)(lo hi:Option Int):List V:=(xs.drop (HT.sIx xs.length 0 lo)).take (HT.sIx xs.length xs.length hi-HT.sIx xs.length 0 lo)
theorem zhO(xs:List V)(lo hi:Option Int):(zoG xs lo hi).length<=xs.length:=by unfold zoG;rw[List.length_take,List.length_drop];lia
def rSlT(K:W.Frag):V->Option Int->Option Int->Hp->VK->Prop:=λx lo hi H Q=>∃ a xs,x=.ref a/\SqT K H a xs /\
 ¬ (HT.sIx xs.length 0 lo=0/\HT.sIx xs.length xs.length hi=xs.length)/\∀ p,H p=none->Q (.ref p) (upd H p (.tup (zoG xs lo hi)))
theorem zwz:SlR X (rSlT X.K):=by
 intro pS s Y H x v vl vu lo hi sl Q I rx hs pl pu h;obtain ⟨a,xs,rfl,hx,hw,q⟩:=h;cases rx;obtain ⟨its,r,ht,hz⟩:=I.tuple hx;have hlen:its.toArray.size=xs.length:=by rw[List.size_toArray];exact r.length.symm
 refine ⟨"tuple",_,PyProof.Rows.slot_tuple_getitem.lookup,ht.typeIs,?_⟩;refine HT.getItem_tuple_cut ht hs pl pu (by rw[hlen];exact hw) ?_ (by rw[hlen];exact hz);rw[hlen];refine ⟨.ref s.heap.objs.size,_,I.laid (t':=s.toks) (o:=.tup (zoG xs lo hi)) (λb ob q=>waa _ q) (wal _) ?_,rfl,q _ (I.hok.fresh (wal _))⟩;exact ⟨waN (zhO xs lo hi) hz,_,(r.drop (HT.sIx xs.length 0 lo)).take (HT.sIx xs.length xs.length hi-HT.sIx xs.length 0 lo),_,waj _ rfl⟩
def zyw(K:W.Frag):R2:=λx y H Q=>∃ a b xs ys,x=.ref a/\y=.ref b/\SqT K H a xs/\SqT K H b ys/\xs≠[]/\xs.length+ys.length<=sizeLine /\
 (ys=[]->Q (.ref a) H)/\(ys≠[]->∀ p,H p=none->Q (.ref p) (upd H p (.tup (xs++ys))))
theorem zaY.nil_iff{xs:List V}{us:List Value}(r:zaY xs us):us=[] ↔ xs=[]:=by
 cases r with
 |nil=>simp
 |cons _ _=>simp
theorem zvw:OpR X (binaryOp .Add) (zyw X.K):=by intro pS s Y H x y v u Q I rx ry h;obtain ⟨a,b,xs,ys,rfl,rfl,ha,hb,hx,hz,q1,q2⟩:=h;cases rx;cases ry;obtain ⟨its,r1,p1,_⟩:=I.tuple ha;obtain ⟨its2,r2,p2,_⟩:=I.tuple hb;refine HT.cat_tup p1 p2 (λz=>hx (r1.nil_iff.mp z)) (λz=>⟨.ref a,H,I,rfl,q1 (r2.nil_iff.mp z)⟩) (λz=>?_) (by rw[<- r1.length,<- r2.length];exact hz);refine ⟨.ref s.heap.objs.size,_,I.laid (t':=s.toks) (o:=.tup (xs++ys)) (λb ob q=>waa _ q) (wal _) ?_,rfl,q2 (λw=>z (r2.nil_iff.mpr w)) _ (I.hok.fresh (wal _))⟩;exact ⟨by rw[List.length_append];exact hz,_,r1.append r2,_,waj _ rfl⟩
end
end L2
namespace L2
open PySem PySem.Spec PyProof.Rows
def ixN(n:Nat)(i:Int):Option Nat:=if 0<=i then (if i<n then some i.toNat else none) else if -(n:Int)<=i then some (i+n).toNat else none
def atI{α:Type}(xs:List α)(i:Int):Option α:=(ixN xs.length i).bind λj=>xs[j]?
theorem zml{n:Nat}{i:Int}{j:Nat}(h:ixN n i=some j):seqIndex? i n=some j/\j<n/\-(n:Int)<=i/\i<n:=by
 unfold ixN at h;by_cases h0:0<=i
 ·rw[if_pos h0] at h;by_cases h1:i<n
  ·rw[if_pos h1] at h;have e:i.toNat=j:=waA h;exact ⟨by rw[seqIndex_of h0 h1,e],xwl,xwo,h1⟩
  ·rw[if_neg h1] at h;cases h
 ·rw[if_neg h0] at h;by_cases h1:-(n:Int)<=i
  ·rw[if_pos h1] at h;have e:(i+n).toNat=j:=waA h;exact ⟨by rw[seqIndex_neg xwl h1,e],xwo,h1,xwo⟩
  ·rw[if_neg h1] at h;cases h
theorem zoI{α:Type}{xs:List α}{i:Int}{v:α}(h:atI xs i=some v):∃ j,seqIndex? i xs.length=some j/\xs[j]? = some v/\j<xs.length/\-(xs.length:Int)<=i/\i<xs.length:=by
 unfold atI at h;cases e:ixN xs.length i with
 |none=>rw[e] at h;cases h
 |some j =>
  rw[e] at h;obtain ⟨h1,h2,h3,h4⟩:=zml e;exact ⟨j,h1,h,h2,h3,h4⟩
theorem zmK{α:Type}{xs:List α}{j:Nat}{v:α}(h:xs[j]? = some v):atI xs (j:Int)=some v:=by
 have hj:j<xs.length:=(wam.mp h).1;have e:ixN xs.length (j:Int)=some j:=by unfold ixN;rw[if_pos xwl,if_pos xwo];simp
 unfold atI;rw[e];exact h
theorem zhd{α:Type}(xs:List α)(v:α):atI (xs++[v]) (-1)=some v:=by
 have hl:(xs++[v]).length=xs.length+1:=by simp
 have e:ixN (xs++[v]).length (-1)=some xs.length:=by unfold ixN;rw[hl,if_neg xwd,if_pos xwl];congr 1;lia
 unfold atI;rw[e];show (xs++[v])[xs.length]? = some v;simp
def zjC(b:Expr):Prop:=∀ o i,subscripted b false o i=operate [o,i] (getItem o i)
def IxR(X:Cx)(r:R2):Prop :=
 ∀(value slice:Expr)(pS:List (Addr×Obj))(s:Shared)(Y:St)(H:Hp)(x y:V)(v u:Value)(Q:VK),Inv X pS Y H s->zch x v->zch y u->r x y H Q ->
  subscripted slice false v u=operate [v,u] (getItem v u)->wpAny (model X.prog X.w) X.A (subscriptTail value slice v u) (EP X pS Y Q) X.xe s
def MtR(X:Cx)(id:String)(r:V->List V->Hp->VK->Prop):Prop :=
 ∀(pS:List (Addr×Obj))(s:Shared)(Y:St)(H:Hp)(x:V)(xs:List V)(v:Value)(us:List Value)(Q:VK),Inv X pS Y H s->zch x v->zaY xs us->r x xs H Q ->
  wpAny (model X.prog X.w) X.A (call (.builtin id) (v::us)) (EP X pS Y Q) X.xe s
section
variable{X:Cx}{a b:Expr}{ta tb:TE}{pos:Pos}
theorem IxR.or{r r':R2}(h:IxR X r)(h':IxR X r'):IxR X (λx y H Q=>r x y H Q\/r' x y H Q):=by
 intro value slice pS s Y H x y v u Q I rx ry q hs;rcases q with q|q
 ·exact h value slice pS s Y H x y v u Q I rx ry q hs
 ·exact h' value slice pS s Y H x y v u Q I rx ry q hs
theorem MtR.or{id:String}{r r':V->List V->Hp->VK->Prop}(h:MtR X id r)(h':MtR X id r'):MtR X id (λx xs H Q=>r x xs H Q\/r' x xs H Q):=by
 intro pS s Y H x xs v us Q I rx rs q;rcases q with q|q
 ·exact h pS s Y H x xs v us Q I rx rs q
 ·exact h' pS s Y H x xs v us Q I rx rs q
theorem zuP{r:R2}(hr:IxR X r)(ha:PE X a ta)(hb:PE X b tb)(hs:zjC b):PE X (.Subscript a b pos) (tOp r ta tb):=by intro pS s Y H Q I h;exact Subscript_ (zyc ha hb I h λv u s2 x y H2 I2 rx ry q=>hr a b pS s2 Y H2 x y v u Q I2 rx ry q (hs _ _))
def rIxL(K:W.Frag):R2:=λx y H Q=>∃ p xs i v,x=.ref p/\y=.int i/\SqL K H p xs/\atI xs i=some v/\Q v H
def rIxT(K:W.Frag):R2:=λx y H Q=>∃ p xs i v,x=.ref p/\y=.int i/\SqT K H p xs/\atI xs i=some v/\Q v H
theorem zlP:IxR X (rIxL X.K):=by
 intro value slice pS s Y H x y v u Q I rx ry h hs;obtain ⟨p,xs,i,z,rfl,rfl,hq,he,q⟩:=h;cases rx;obtain ⟨t,rfl⟩:=ry;obtain ⟨its,r,pl,hz⟩:=I.list hq;obtain ⟨j,h1,h2,h3,h4,h5⟩:=zoI he;obtain ⟨w,ew,rw'⟩:=r.get h2;have hl:=r.length;have hn:=zla;have fin:EP X pS Y Q w s:=⟨z,H,I,rw',q⟩
 by_cases h0:0<=i
 ·have hj:i.toNat=j:=by rw[seqIndex_of h0 h5] at h1;exact waA h1
  exact item_listR pl.isList h0 xwl (by rw[hj];simpa using ew) fin hs
 ·have hj:(i+(its.toArray.size:Int)).toNat=j:=by rw[seqIndex_neg xwl h4] at h1;rw[List.size_toArray,<- hl];exact waA h1
  exact subscriptTail_builtinR (x:=w) pl.isList.typeIs slot_list_getitem.lookup
   (wpAny_getItem_list_neg (Q:=λr s'=>r=w/\EP X pS Y Q r s') pl.isList xwl (by rw[List.size_toArray] <;> omega) xwo (by rw[hj];simpa using ew) ⟨rfl,fin⟩) hs
theorem zwl:IxR X (rIxT X.K):=by
 intro value slice pS s Y H x y v u Q I rx ry h hs;obtain ⟨p,xs,i,z,rfl,rfl,hq,he,q⟩:=h;cases rx;obtain ⟨t,rfl⟩:=ry;obtain ⟨its,r,pl,hz⟩:=I.tuple hq;obtain ⟨j,h1,h2,h3,h4,h5⟩:=zoI he;obtain ⟨w,ew,rw'⟩:=r.get h2;have hl:=r.length;have hn:=zla;have fin:EP X pS Y Q w s:=⟨z,H,I,rw',q⟩
 exact subscriptTail_builtinR (x:=w) pl.typeIs slot_tuple_getitem.lookup
  (getItem_tuple (j:=j) (Q:=λr s'=>r=w/\EP X pS Y Q r s') pl xwl xwo (by rw[List.size_toArray,<- hl];exact h1) (by simpa using ew) ⟨rfl,fin⟩) hs
theorem znV(its:List Value)(n j:Nat)(u:Value):Obj.mapSeq (·.setIfInBounds j u) { cls:=.type "list",data:=.seq its.toArray n }={ cls:=.type "list",data:=.seq (its.set j u).toArray n }:=by simp[Obj.mapSeq]
theorem Inv.lst{pS:List (Addr×Obj)}{Y:St}{H:Hp}{s:Shared}{p:Addr}{xs:List V}(I:Inv X pS Y H s)(h:H p=some (.lst xs)) :
  ∃(its:List Value)(n:Nat),zaY xs its/\s.heap.get? p=some { cls:=.type "list",data:=.seq its.toArray n }/\xs.length<=sizeLine:=by
 obtain ⟨z,its,n,r,e⟩:=I.hok p _ h;exact ⟨its,n,r,e,z⟩
theorem Inv.lstUpd{pS:List (Addr×Obj)}{Y:St}{H:Hp}{s:Shared}{p:Addr}{xs ys:List V}{its its':List Value}{n n':Nat}{f:Obj->Obj}(I:Inv X pS Y H s)(h:H p=some (.lst xs))
  (ho:s.heap.get? p=some { cls:=.type "list",data:=.seq its.toArray n }) (hf:f { cls:=.type "list",data:=.seq its.toArray n }={ cls:=.type "list",data:=.seq its'.toArray n' }) (r:zaY ys its') (hz:ys.length<=sizeLine) (t:Nat) :
  Inv X pS Y (upd H p (.lst ys)) { s with heap:=s.heap.update p f,toks:=t }:=by
 have e:(s.heap.update p f).get? p=some { cls:=.type "list",data:=.seq its'.toArray n' }:=by rw[Heap.get?_update_self f ho (by rw[hf] <;> rfl),hf]
 refine I.write (x:=p) (e:=p) (by rw[h];trivial) (.inl rfl) (λb u hb q=>(Heap.get?_update_other _ _ (Ne.symm hb)).trans q) ⟨_,e⟩ ?_;exact ⟨hz,its',n',r,e⟩
def zxK:V->V->V->Hp->(Hp->Prop)->Prop:=λo i v H Q=>∃ p xs k j,o=.ref p/\i=.int k/\H p=some (.lst xs)/\ixN xs.length k=some j/\Q (upd H p (.lst (xs.set j v)))
theorem zrW:PSet X zxK:=by
 intro pS s Y H o i v ov iv u Q I ro ri rv h;obtain ⟨p,xs,k,j,rfl,rfl,hp,hj,q⟩:=h;cases ro;obtain ⟨t,rfl⟩:=ri;obtain ⟨its,n,r,ho,hz⟩:=I.lst hp;obtain ⟨h1,h2,h3,h4⟩:=zml hj;have hl:=r.length;have hn:=zla;have I':Inv X pS Y (upd H p (.lst (xs.set j v))) { s with heap:=s.heap.update p (Obj.mapSeq (·.setIfInBounds j u)) } :=
  I.lstUpd hp ho (znV its n j u) (r.set rv j) (by rw[List.length_set];exact hz) s.toks
 by_cases h0:0<=k
 ·have hk:k.toNat=j:=by rw[seqIndex_of h0 h4] at h1;exact waA h1
  exact W.ki_setAt ho h0 xwl (by rw[List.size_toArray,<- hl];exact h4) (by rw[hk];exact ⟨_,I',q⟩)
 ·have hk:(k+(its.toArray.size:Int)).toNat=j:=by rw[seqIndex_neg xwl h3] at h1;rw[List.size_toArray,<- hl];exact waA h1
  exact W.ki_setBack ho xwl (by rw[List.size_toArray,<- hl];exact h3) xwo (by rw[hk];exact ⟨_,I',q⟩)
theorem zl2(lo hi:Option Int)(n:Nat):(sliceBounds lo hi none n).1=((HT.sIx n 0 lo:Nat):Int)/\(sliceBounds lo hi none n).2.1=((HT.sIx n n hi:Nat):Int)/\(sliceBounds lo hi none n).2.2=1:=by
 refine ⟨?_,?_,rfl⟩
 ·cases lo with
  |none=>simp[sliceBounds,HT.sIx]
  |some i =>
   simp only[sliceBounds,HT.sIx,Option.getD_none,show (1:Int) > 0 by decide,if_true];by_cases h:i<0
   ·simp only[h,if_true] <;> lia
   ·simp only[h,if_false] <;> lia
 ·cases hi with
  |none=>simp[sliceBounds,HT.sIx]
  |some i =>
   simp only[sliceBounds,HT.sIx,Option.getD_none,show (1:Int) > 0 by decide,if_true];by_cases h:i<0
   ·simp only[h,if_true] <;> lia
   ·simp only[h,if_false] <;> lia
theorem zjw(its:List Value)(lo hi:Option Int):slicePick its.toArray lo hi none=((its.drop (HT.sIx its.length 0 lo)).take (HT.sIx its.length its.length hi-HT.sIx its.length 0 lo)).toArray:=by obtain ⟨h1,h2,h3⟩:=zl2 lo hi its.toArray.size;unfold slicePick;rw[h1,h2,h3];simp only[sliceRange_one,pick_run,waf] <;> rfl
def rSlL(K:W.Frag):V->Option Int->Option Int->Hp->VK->Prop:=λx lo hi H Q=>∃ a xs,x=.ref a/\SqL K H a xs/\∀ p,H p=none->Q (.ref p) (upd H p (.lst (zoG xs lo hi)))
theorem zvv:SlR X (rSlL X.K):=by intro pS s Y H x v vl vu lo hi sl Q I rx hs pl pu h;obtain ⟨a,xs,rfl,hx,q⟩:=h;cases rx;obtain ⟨its,r,ht,hz⟩:=I.list hx;have hlen:=r.length;refine ⟨"list",_,slot_list_getitem.lookup,ht.isList.typeIs,?_⟩;refine wpAny_getItem_list_slice ht.isList hs pl pu .none xws ?_ (by rw[List.size_toArray] <;> lia);rw[zjw,<- hlen];refine ⟨.ref s.heap.objs.size,_,I.laid (t':=s.toks) (o:=.lst (zoG xs lo hi)) (λb ob q=>waa _ q) (wal _) ?_,rfl,q _ (I.hok.fresh (wal _))⟩;exact ⟨waN (zhO xs lo hi) hz,_,0,(r.drop (HT.sIx xs.length 0 lo)).take (HT.sIx xs.length xs.length hi-HT.sIx xs.length 0 lo),waj _ rfl⟩
theorem zeD:zdl X (.builtin "len") (λxs H Q=>∃ p ys,xs=[.ref p]/\(SqL X.K H p ys\/SqT X.K H p ys)/\Q (.int ys.length) H):=by
 intro pS s Y H xs us Q I r h;obtain ⟨p,ys,rfl,hq,q⟩:=h;obtain ⟨u,rfl,rx⟩:=zfv r;cases rx;have hn:=zla;rcases hq with hq|hq
 ·obtain ⟨its,r',pl,hz⟩:=I.list hq;have hlen:=r'.length;exact Calls.call_len_list pl.isList (by simp only[waf] <;> lia) ⟨.int ys.length,H,I.tok _,⟨s.toks+1,by rw[List.size_toArray,hlen]⟩,q⟩
 ·obtain ⟨its,r',pl,hz⟩:=I.tuple hq;have hlen:=r'.length;exact len_tuple pl (by simp only[waf] <;> lia) ⟨.int ys.length,H,I.tok _,⟨s.toks+1,by rw[List.size_toArray,hlen]⟩,q⟩
theorem zgF:zdl X (.builtin "len") (λxs H Q=>∃ z,xs=[.str z]/\z.length<=sizeLine/\Q (.int z.length) H):=by intro pS s Y H xs us Q I r h;obtain ⟨z,rfl,hz,q⟩:=h;obtain ⟨u,rfl,t,rfl⟩:=zfv r;have hn:=zla;exact len_str xwl ⟨.int z.length,H,I.tok _,⟨_,rfl⟩,q⟩
theorem zdl.or{f:Value}{r r':List V->Hp->VK->Prop}(h:zdl X f r)(h':zdl X f r'):zdl X f (λxs H Q=>r xs H Q\/r' xs H Q):=by
 intro pS s Y H xs us Q I rs q;rcases q with q|q
 ·exact h pS s Y H xs us Q I rs q
 ·exact h' pS s Y H xs us Q I rs q
theorem zlh:zdl X (.type "list") (λxs H Q=>∃ p ys,xs=[.ref p]/\(SqL X.K H p ys\/SqT X.K H p ys)/\∀ l,H l=none->Q (.ref l) (upd H l (.lst ys))):=by
 intro pS s Y H xs us Q I r h;obtain ⟨p,ys,rfl,hq,q⟩:=h;obtain ⟨u,rfl,rx⟩:=zfv r;cases rx;have fin:∀(its:List Value),zaY ys its->ys.length<=sizeLine->∀(h':Heap)(c':Nat),(∀ b o',s.heap.get? b=some o'->h'.get? b=some o') ->
   h'.get? s.heap.objs.size=some { cls:=.type "list",dict:=none,data:=.seq its.toArray c',slots:=#[] }->EP X pS Y Q (.ref s.heap.objs.size) { s with heap:=h' }:=λits r' hz h' c' kp e =>
  ⟨.ref s.heap.objs.size,_,I.laid (t':=s.toks) kp (wal _) (show zeh X.prog X.w _ h' _ (.lst ys) from ⟨hz,its,c',r',e⟩),rfl,q _ (I.hok.fresh (wal _))⟩
 rcases hq with hq|hq
 ·obtain ⟨its,r',pl,hz⟩:=I.list hq;have hlen:=r'.length;obtain ⟨o,ho,hc,n,hd⟩:=pl.isList;exact call_list_seq p (.inl rfl) ho hc hd (λh' c' kp e=>fin its r' hz h' c' kp e) (by simp only[waf] <;> lia)
 ·obtain ⟨its,r',pl,hz⟩:=I.tuple hq;have hlen:=r'.length;obtain ⟨o,ho,hc,n,hd⟩:=pl;exact call_list_seq p (.inr rfl) ho hc hd (λh' c' kp e=>fin its r' hz h' c' kp e) (by simp only[waf] <;> lia)
theorem zjG:zdl X (.type "tuple") (λxs H Q=>∃ p ys,xs=[.ref p]/\((SqL X.K H p ys/\∀ l,H l=none->Q (.ref l) (upd H l (.tup ys)))\/(SqT X.K H p ys/\Q (.ref p) H))):=by
 intro pS s Y H xs us Q I r h;obtain ⟨p,ys,rfl,h⟩:=h;obtain ⟨u,rfl,rx⟩:=zfv r;cases rx;rcases h with ⟨hq,q⟩|⟨hq,q⟩
 ·obtain ⟨its,r',pl,hz⟩:=I.list hq;have hlen:=r'.length;refine call_tuple_list pl.isList (λh' kp=>?_) (by simp only[waf] <;> lia);have I1:Inv X pS Y H { s with heap:=h' }:=I.kept (t':=s.toks) kp;have I2:Inv X pS Y (upd H h'.objs.size (.tup ys)) { s with heap:=h'.push { cls:=.type "tuple",data:=.seq its.toArray } } :=
   I1.laid (t':=s.toks) (λb o e=>waa _ e) (wal _) (show zeh X.prog X.w _ _ _ (.tup ys) from ⟨hz,its,r',_,waj _ rfl⟩)
  exact ⟨.ref h'.objs.size,_,I2,rfl,q _ (I1.hok.fresh (wal _))⟩
 ·obtain ⟨its,r',pl,hz⟩:=I.tuple hq;exact call_tuple_same pl ⟨.ref p,H,I,rfl,q⟩
def tyV(K:W.Frag)(T:String)(x:V)(H:Hp):Prop:=match x with
 |.str _=>T="str"
 |.int _=>T="int"
 |.ref p=>(T="list"/\∃ xs,SqL K H p xs)\/(T="tuple"/\∃ o,K.lookup p=some o/\o.cls=.type "tuple"/\o.dict=none) \/
   (T="dict"/\((∃ kvs,H p=some (.dK kvs))\/∃ kvs,H p=some (.dT kvs)))\/(T="set"/\∃ S n,H p=some (.set S n))
 |_=>False
theorem zxy{pS:List (Addr×Obj)}{Y:St}{H:Hp}{s:Shared}{T:String}{x:V}{v:Value}(I:Inv X pS Y H s)(r:zch x v)(ty:tyV X.K T x H) :
  s.TypeIs v T/\∀ a,v=.ref a->∃ ob,s.heap.get? a=some ob/\ob.dict=none:=by
 cases x with
 |str z =>
  obtain ⟨t,rfl⟩:=r;cases (show T="str" from ty);exact ⟨typeIs_str s z t,λ_ e=>nomatch e⟩
 |int i =>
  obtain ⟨t,rfl⟩:=r;cases (show T="int" from ty);exact ⟨typeIs_int s i t,λ_ e=>nomatch e⟩
 |ref p =>
  cases r;rcases ty with ⟨rfl,xs,hq⟩|⟨rfl,o,hk,hc,hd⟩|⟨rfl,hk⟩|⟨rfl,S,n,hk⟩
  ·obtain ⟨its,_,pl,_⟩:=I.list hq;refine ⟨pl.isList.typeIs,λa e=>?_⟩;cases e;obtain ⟨o,n,e,c,hd,_⟩:=pl;exact ⟨o,e,hd⟩
  ·refine ⟨⟨o,I.kIn p o hk,hc⟩,λa e=>?_⟩;cases e;exact ⟨o,I.kIn _ o hk,hd⟩
  ·have z:∃ o,s.heap.get? p=some o/\o.ExactDict:=by
    rcases hk with ⟨kvs,hk⟩|⟨kvs,hk⟩
    ·obtain ⟨_,_,_,_,o,_,_,e,ex,_⟩:=I.hok p _ hk;exact ⟨o,e,ex⟩
    ·obtain ⟨_,_,_,_,o,_,_,e,ex,_⟩:=I.hok p _ hk;exact ⟨o,e,ex⟩
   obtain ⟨o,e,ex⟩:=z;refine ⟨⟨o,e,ex.1⟩,λa e2=>?_⟩;cases e2;exact ⟨o,e,ex.2.1⟩
  ·obtain ⟨o,_,_,_,e,ex,_⟩:=I.hok p _ hk;refine ⟨⟨o,e,ex.1⟩,λa e2=>?_⟩;cases e2;exact ⟨o,e,ex.2.1⟩
 |_=>exact waO ty
def tBM(K:W.Frag)(T:String)(r:V->List V->Hp->VK->Prop)(to:TE)(t:TA):TE:=λY H Q=>to Y H λx H1=>tyV K T x H1/\t Y H1 λxs H2=>r x xs H2 Q
variable{o e:Expr}{es:List Expr}{to:TE}{t:TA}{name:Str}{apos cpos:Pos}{T id:String}{r:V->List V->Hp->VK->Prop}
theorem zqX(pa:PlainAttrs T)(slot:Slot T name id)(hty:typeOf (.builtin id)=pure (.type "method_descriptor"))(hm:MtR X id r)(ho:PE X o to)(ha:PA X (e::es) t)
  (hbase:attributeBase o name X.env (eval o X.env)=eval o X.env:=by rfl)
  (hfew:((backTo cpos (starEach (e::es) X.env)).all (λx=>!x.1) && (backToKw cpos (keywordEach [] X.env)).all (λx=>x.1.isSome)
   && decide ((e::es).length+([]:List Keyword).length+(if ([]:List Keyword).isEmpty then 0 else 1)<30))=true:=by rfl)
  (hline:(apos.endLine == cpos.line)=true:=by rfl) (hs:starEach (e::es) X.env=(false,eval e X.env)::starEach es X.env:=by rfl) (hplain:(backTo cpos (starEach es X.env)).any (·.1)=false:=by rfl) :
  PE X (.Call (.Attribute o name apos) (e::es) [] cpos) (tBM X.K T r to t):=by
 intro pS s Y H Q I h;refine wpAny_Call_method_late hbase hfew hline rfl (thn (ho pS s Y H _ I h) λv s1 ⟨x,H1,I1,r1,ty,q1⟩=>?_);obtain ⟨h1,h2⟩:=zxy I1 r1 ty;refine ⟨T,id,pa,slot,hty,h1,h2,?_⟩;have hA:=ha cpos pS s1 Y H1 _ I1 q1;rw[hs] at hA ⊢;refine Calls.callWith_builtin (by show (false || (backTo cpos (starEach es X.env)).any (·.1))=false;rw[hplain] <;> rfl) (Calls.evalArgs_plain ?_);exact thn hA λus s2 ⟨vs,H2,I2,r2,q2⟩=>hm pS s2 Y H2 x vs v us Q I2 r1 r2 q2
end
end L2
namespace L2
open PySem PySem.Spec PyProof.Rows
def MtM(X:Cx)(id:String)(r:V->List V->Hp->VK->Prop):Prop :=
 ∀(pS:List (Addr×Obj))(s:Shared)(Y:St)(H:Hp)(x:V)(xs:List V)(v:Value)(us:List Value)(Q:VK),Inv X pS Y H s->zch x v->zaY xs us->r x xs H Q ->
  wpAny (model X.prog X.w) X.A (call (.builtin id) (v::us)) (EP X pS Y Q) X.xe s
theorem zaY.one:∀{x:V}{us:List Value},zaY [x] us->∃ u,us=[u]/\zch x u
 |_,_,.cons r .nil=>⟨_,rfl,r⟩
theorem zaY.two:∀{x y:V}{us:List Value},zaY [x,y] us->∃ u v,us=[u,v]/\zch x u/\zch y v
 |_,_,_,.cons r (.cons q .nil)=>⟨_,_,rfl,r,q⟩
theorem zaY.dropLast{xs:List V}{us:List Value}(h:zaY xs us):zaY xs.dropLast us.dropLast:=by
 induction h with
 |nil=>exact .nil
 |cons r t ih =>
  cases t with
  |nil=>exact .nil
  |cons q t'=>exact .cons r ih
theorem zaY.eraseIdx:∀{xs:List V}{us:List Value}(i:Nat),zaY xs us->zaY (xs.eraseIdx i) (us.eraseIdx i)
 |_,_,_,.nil=>.nil
 |_,_,0,.cons _ t=>t
 |_,_,i+1,.cons r t=>.cons r (zaY.eraseIdx i t)
theorem zaY.reverse{xs:List V}{us:List Value}(h:zaY xs us):zaY xs.reverse us.reverse:=by
 induction h with
 |nil=>exact .nil
 |cons r t ih=>rw[List.reverse_cons,List.reverse_cons];exact zaY.append ih (.cons r .nil)
theorem zaY.rep{xs:List V}{us:List Value}(h:zaY xs us):∀ k:Nat,zaY (List.replicate k xs).flatten (List.replicate k us).flatten
 |0=>.nil
 |k+1=>by rw[List.replicate_succ,List.replicate_succ,List.flatten_cons,List.flatten_cons];exact zaY.append h (zaY.rep h k)
theorem zkX{α:Type}:∀(l:List α)(i:Nat),(l.eraseIdx i).length<=l.length
 |[],_=>wal _
 |_::_,0=>Nat.le_succ _
 |_::r,i+1=>Nat.succ_le_succ (zkX r i)
theorem zli(its:List Value):∀(k:Nat)(acc:List Value),
  List.foldl (λx1 x2=>x1++x2) acc.toArray (List.replicate k its.toArray)=(acc++(List.replicate k its).flatten).toArray
 |0,acc=>by simp
 |k+1,acc=>by
  have e:acc.toArray++its.toArray=(acc++its).toArray:=by simp
  have e2:(acc++its)++(List.replicate k its).flatten=acc++(List.replicate (k+1) its).flatten:=by rw[List.replicate_succ,List.flatten_cons,List.append_assoc]
  rw[<- e2,<- zli its k (acc++its),<- e,List.replicate_succ,List.foldl_cons]
section
variable{X:Cx}{pS:List (Addr×Obj)}{Y:St}{H:Hp}{s:Shared}{l b:Addr}{xs ys zs:List V}
theorem Inv.lset{its its':List Value}{n:Nat}{f:Array Value->Array Value}{t':Nat}(I:Inv X pS Y H s)(hH:H l=some (.lst xs))
  (e:s.heap.get? l=some { cls:=.type "list",data:=.seq its.toArray n }) (hf:f its.toArray=its'.toArray) (hv:zaY ys its') (hz:ys.length<=sizeLine) :
  Inv X pS Y (upd H l (.lst ys)) { s with heap:=s.heap.update l (Obj.mapSeq f),toks:=t' }:=by
 have q:=PySem.IsL.update e f;rw[hf] at q;refine I.write (x:=l) (e:=l) (by rw[hH];exact trivial) (.inl rfl) (λb' u hb hu=>(Heap.get?_update_other s.heap (Obj.mapSeq f) (Ne.symm hb)).trans hu) ⟨_,q⟩ ?_;exact ⟨hz,its',_,hv,q⟩
theorem Inv.lnew{its:List Value}{t':Nat}(I:Inv X pS Y H s)(hv:zaY ys its)(hz:ys.length<=sizeLine) :
  Inv X pS Y (upd H s.heap.objs.size (.lst ys)) { s with heap:=s.heap.push { cls:=.type "list",data:=.seq its.toArray },toks:=t' } :=
 I.laid (λ_ _ q=>waa _ q) (wal _) ⟨hz,its,0,hv,waj _ rfl⟩
theorem Inv.fresh(I:Inv X pS Y H s):H s.heap.objs.size=none:=I.hok.fresh (wal _)
theorem Inv.lstM(I:Inv X pS Y H s)(hH:H l=some (.lst xs)):xs.length<=sizeLine/\∃(its:List Value)(n:Nat),zaY xs its/\xs.length=its.length/\s.heap.get? l=some { cls:=.type "list",data:=.seq its.toArray n }:=by obtain ⟨z,its,n,r,e⟩:=I.hok l _ hH;exact ⟨z,its,n,r,r.length,e⟩
theorem zj6{n:Nat}(h:n<=sizeLine):Builtin.List.listTooLong n=false:=by unfold Builtin.List.listTooLong;exact waw xwl
end
section
variable{X:Cx}
def zuH:V->List V->Hp->VK->Prop:=λx vs H Q=>∃ l xs y,x=.ref l/\vs=[y]/\H l=some (.lst xs)/\xs.length<sizeLine/\Q .non (upd H l (.lst (xs++[y])))
theorem zhp:MtM X "list.append" zuH:=by intro pS s Y H x vs v us Q I rx rv h;obtain ⟨l,xs,y,rfl,rfl,hH,hz,q⟩:=h;cases rx;obtain ⟨u,rfl,ru⟩:=rv.one;obtain ⟨z,its,n,r,hl,e⟩:=I.lstM hH;refine call_meets F.slot_list_append ⟨_,e,rfl⟩ F.entry_list_append (F.args_list_append_2 _ _) (PySem.list_append l its.toArray n u (by rw[List.size_toArray];lia)) ⟨e,?_⟩;refine ⟨.non,_,I.lset (its':=its++[u]) hH e xws (r.append (.cons ru .nil)) ?_,rfl,q⟩;rw[List.length_append,List.length_singleton];lia
def zvs:V->List V->Hp->VK->Prop:=λx vs H Q=>∃ l b xs zs,x=.ref l/\vs=[.ref b]/\H l=some (.lst xs)/\H b=some (.lst zs)/\xs.length+zs.length<=sizeLine/\Q .non (upd H l (.lst (xs++zs)))
theorem zqJ:MtM X "list.extend" zvs:=by
 intro pS s Y H x vs v us Q I rx rv h;obtain ⟨l,b,xs,zs,rfl,rfl,hH,hB,hz,q⟩:=h;cases rx;obtain ⟨u,rfl,ru⟩:=rv.one;cases ru;obtain ⟨z,its,n,r,hl,e⟩:=I.lstM hH;obtain ⟨z2,its2,n2,r2,hl2,e2⟩:=I.lstM hB;have hsz:its.toArray.size+its2.toArray.size<=sizeLine:=by rw[List.size_toArray,List.size_toArray];lia
 have hlong:¬ (!its.toArray.isEmpty && Builtin.List.listTooLong (its.toArray.size+its2.toArray.size))=true:=by rw[zj6 hsz,Bool.and_false];exact Bool.false_ne_true
 refine call_meets F.slot_list_extend ⟨_,e,rfl⟩ F.entry_list_extend (F.args_list_extend_2 _ _)
  (AutoSeq1.list_extend_list_list_0 l its.toArray n b its2.toArray n2 hlong (by rw[List.size_toArray];lia) xwo) ⟨e,e2,?_⟩
 refine ⟨.non,_,I.lset (its':=its++its2) hH e xws (r.append r2) ?_,rfl,q⟩;rw[List.length_append];lia
def zvL:V->List V->Hp->VK->Prop:=λx vs H Q=>∃ l xs i k y,x=.ref l/\vs=[.int i]/\H l=some (.lst xs)/\-(2 ^ 63)<=i/\i<2 ^ 63/\seqIndex? i xs.length=some k/\xs[k]? = some y/\Q y (upd H l (.lst (xs.eraseIdx k)))
theorem zsC:MtM X "list.pop" zvL:=by
 intro pS s Y H x vs v us Q I rx rv h;obtain ⟨l,xs,i,k,y,rfl,rfl,hH,h1,h2,hk,hy,q⟩:=h;cases rx;obtain ⟨u,rfl,ru⟩:=rv.one;obtain ⟨t,rfl⟩:=ru;obtain ⟨z,its,n,r,hl,e⟩:=I.lstM hH;obtain ⟨w,hw,rw'⟩:=r.get hy;refine call_meets F.slot_list_pop ⟨_,e,rfl⟩ F.entry_list_pop (F.args_list_pop_2 _ _)
  (MeetsSeq.list_pop_at l its.toArray n i t k w (fitsIndex_both h1 h2) (by rw[List.size_toArray,<- hl];exact hk) (by rw[<- Array.getElem?_toList];exact hw) (by rw[List.size_toArray];lia)) ⟨e,?_⟩
 refine ⟨y,_,I.lset (its':=its.eraseIdx k) hH e ?_ (r.eraseIdx k) ?_,rw',q⟩
 ·show its.toArray.eraseIdxIfInBounds k=(its.eraseIdx k).toArray;rw[List.eraseIdxIfInBounds_toArray]
 ·have:=zkX xs k;lia
def rCat:R2:=λx y H Q=>∃ l b xs zs,x=.ref l/\y=.ref b/\H l=some (.lst xs)/\H b=some (.lst zs)/\xs.length+zs.length<=sizeLine/\∀ p,H p=none->Q (.ref p) (upd H p (.lst (xs++zs)))
theorem zvB:OpR X (binaryOp .Add) rCat:=by
 intro pS s Y H x y v u Q I rx ry h;obtain ⟨l,b,xs,zs,rfl,rfl,hH,hB,hz,q⟩:=h;cases rx;cases ry;obtain ⟨z,its,n,r,hl,e⟩:=I.lstM hH;obtain ⟨z2,its2,n2,r2,hl2,e2⟩:=I.lstM hB;refine PySem.P.add_list e e2 ?_ (by rw[List.size_toArray,List.size_toArray];lia);have ea:its.toArray++its2.toArray=(its++its2).toArray:=by simp
 rw[ea];exact ⟨.ref _,_,I.lnew (t':=s.toks) (r.append r2) (by rw[List.length_append];lia),rfl,q _ I.fresh⟩
def rRep:R2:=λx y H Q=>∃ l k xs,x=.ref l/\y=.int k/\H l=some (.lst xs)/\-(2 ^ 63)<=k/\k<2 ^ 63/\xs.length * k.toNat<=sizeLine /\
 ∀ p,H p=none->Q (.ref p) (upd H p (.lst (List.replicate k.toNat xs).flatten))
theorem zu3{α:Type}(xs:List α)(k:Nat):(List.replicate k xs).flatten.length=k * xs.length:=by
 induction k with
 |zero=>simp
 |succ k ih=>rw[List.replicate_succ,List.flatten_cons,List.length_append,ih,Nat.succ_mul,Nat.add_comm]
theorem zvM:OpR X (binaryOp .Mult) rRep:=by
 intro pS s Y H x y v u Q I rx ry h;obtain ⟨l,k,xs,rfl,rfl,hH,h1,h2,hz,q⟩:=h;cases rx;obtain ⟨t,rfl⟩:=ry;obtain ⟨z,its,n,r,hl,e⟩:=I.lstM hH;have hlen:its.toArray.size * k.toNat<=sizeLine:=by rw[List.size_toArray,<- hl];exact hz
 have hcap:¬ its.toArray.size * k.toNat > (2 ^ 63-1) / 8:=by
  have:(sizeLine:Nat)<=(2 ^ 63-1) / 8:=by decide
  lia
 have hfit:¬ (!Builtin.List.listFitsIndex k)=true:=by rw[fitsIndex_both h1 h2];exact Bool.false_ne_true
 have hlong:¬ Builtin.List.listTooLong (its.toArray.size * k.toNat)=true:=by rw[zj6 hlen];exact Bool.false_ne_true
 have hnew:List.foldl (λx1 x2=>x1++x2) #[] (List.replicate (if its.toArray.isEmpty=true then 0 else k.toNat) its.toArray)=(List.replicate k.toNat its).flatten.toArray:=by
  have f0:∀ m:Nat,List.foldl (λx1 x2=>x1++x2) #[] (List.replicate m its.toArray)=(List.replicate m its).flatten.toArray:=λm=>by have:=zli its m [];rw[List.nil_append] at this;exact this
  rw[f0];cases its with
  |nil=>simp
  |cons a r'=>rw[if_neg xws]
 refine wpAny_binaryOp_repeat_ref (T:="list") (U:="int") xwd ⟨_,e,rfl⟩ (λs'=>typeIs_int s' k t) noFill_list_mul F.fills_int_mul F.slot_int_rmul repeat_list F.slot_int_index.lookup
  (call_meets F.slot_int_rmul (typeIs_int s k t) F.entry_int_rmul (F.args_int_rmul_2 _ _) (int___rmul___int_list k t l its.toArray n)
   ⟨e,rfl,⟨_,e,rfl⟩,call_meets F.slot_list_mul ⟨_,e,rfl⟩ F.entry_list_mul (F.args_list_mul_2 _ _) (AutoListH.list___mul___list_int_3 l its.toArray n k t hfit hcap hlong) ⟨e,?_⟩⟩)
 rw[hnew];exact ⟨.ref _,_,I.lnew (t':=s.toks) (r.rep k.toNat) (by rw[zu3,Nat.mul_comm];exact hz),rfl,q _ I.fresh⟩
end
section
variable{prog:Program}{w:World}{A:Around}{E:Value->Shared->Prop}{s:Shared}
set_option maxRecDepth 100000 in
end
section
variable{X:Cx}
end
end L2
namespace Att
open PySem PySem.W PySem.Calls PyProof.Rows
theorem zhD{P:Params}{h:Heap}:∀(ns:List Int)(vs:List Value),WellAll P h vs (ns.map WData.int)->IntsAre vs ns:=by
 intro ns
 induction ns with
 |nil =>
  intro vs w;rw[List.map_nil] at w;cases w;exact .nil
 |cons n ns ih =>
  intro vs w;rw[List.map_cons] at w;cases w with
  |cons a b =>
   cases a;exact .cons _ _ (ih _ b)
theorem zqH{l:OpenLaw}{n:Nat}(hn:l.most=some n){P:Params}{h:Heap}{args:List WData}{vals:List Value}
  (hpre:l.row.toRowW.claim.pre args=true) (hwl:WellAll P h vals args) :
  ∃ a vs ns,vals=[Value.ref a]/\args=[WData.list (ns.map WData.int)]/\h.get? a=some { cls:=.type "list",data:=.seq vs.toArray }/\IntsAre vs ns/\ns.length<=n:=by
 have hsh:WShape.hasAll [] args [.list .int]=true:=(pre_splitW hpre).1;have hc:l.pre.holds [] { args:=args }=true:=(pre_splitW hpre).2;obtain ⟨d,r,rfl,h1,h2⟩:=hasAllW_cons hsh;obtain rfl:=hasAllW_nil h2;obtain ⟨xs,rfl,h3⟩:=hasW_list h1;obtain ⟨ns,rfl⟩:=items_int h3;have hlen:ns.length<=n:=by
  unfold OpenLaw.pre at hc;have h4:(WTm.not (.lt (.lit (.int (n:Int))) (.len (.arg 0)))).holds [] { args:=[.list (ns.map .int)] }=true:=by have h4:=(holds_andW hc).1;rw[hn] at h4;exact h4
  have h5:=condW_of h4 (w_not (w_lt w_lit (w_len_list (w_arg rfl))));rw[List.length_map] at h5;refine Nat.le_of_not_lt λq=>?_;have q':(n:Int)<((ns.length:Nat):Int):=by lia
  first
   | (rw[decide_eq_true q'] at h5;exact absurd h5 xwd)
   | (simp at h5;lia)
 cases hwl with
 |cons w1 w2 =>
  cases w2;cases w1 with
  |list ho hall=>exact ⟨_,_,ns,rfl,rfl,ho,zhD ns _ hall,hlen⟩
theorem zoJ(l:OpenLaw)(args:List WData):l.row.toRowW.claim.post args (.bool true) args=true :=
 postW_of (r:=l.row.toRowW) (X:=(true == true))
  (show WShape.has [] (.bool true) .bool=true by first|rfl|decide|simp[WShape.has,WShape.arms,WShape.armsAll])
  (show (WTm.eq .res (.lit (.bool true))).value [] { args:=args,res:=some (.bool true),after:=args }=some (.bool (true == true)) from w_eq_bool (w_res rfl) w_lit) rfl
theorem attach_call{l:OpenLaw}{n:Nat}{q:Program}{loose:List Str}{XP:(Str->Option Value)->Heap->Prop}{YP:World->Heap->Prop}{d:DefRec}
  (hn:l.most=some n) (hdf:d.params.defaults=[])
  (call:∀(w:World)(s₀ s₁:Shared)(mg mb:Str->Option Value)(fa:Addr)(o:Obj)(pm cd doc:Value)(a:Addr)(vs:List Value)(ns:List Int),
   Ground q loose [] XP w s₀ mg mb s₁.heap->YP w s₁.heap ->
   s₁.heap.get? fa=some o->o.data=.func (docDef d.name d.params d.body d.scope pm cd doc)->s₁.heap.CodeRec cd d.name->mg d.name=some (.ref fa) ->
   s₁.heap.get? a=some { cls:=.type "list",data:=.seq vs.toArray }->IntsAre vs ns->ns.length<=n->s₁.gens=#[] ->
   codeAny (model l.prog w) callerA (.call (.ref fa) ⟨[.ref a],[]⟩) (λr s'=>r=.ok (.ret (.bool true))/\OldK s₁.heap s'.heap/\s'.os=s₁.os/\AllBare s'.gens) s₁) :
  WalkO q loose XP YP l.row.toRowW d [] (λf vs=>PySem.call f vs):=by
 intro w s₀ s₁ mg mb G Yq fa o pm cd doc dV kV ho hd hcd hD hmg hg args vals as hpre hlay hrd hwl hlo;obtain rfl:dV=.none:=Dflts.none hD hdf;obtain rfl:kV=.none:=Dflts.noKw hD;obtain ⟨a,vs,ns,rfl,rfl,hobj,hints,hlen⟩:=zqH hn hpre hwl;refine enter_call (codeAny_mono (call w s₀ s₁ mg mb fa o pm cd doc a vs ns G Yq ho (fd_plain hd) hcd hmg hobj hints hlen hg) λr s' hq=>?_);obtain ⟨rfl,h2,h3,h4⟩:=hq;exact ⟨.inl ⟨.bool true,.bool true,[],rfl,λ_=>rfl,.bool true,zoJ l _,λ_=>⟨List.Pairwise.nil,λ_ hm=>(nomatch hm)⟩⟩,h2,h3,h4⟩
section
variable{prog:Program}{w:World}{A:Around}{E:Value->Shared->Prop}{s:Shared}{K:Frag}
end
end Att
namespace L2
open PySem PySem.Spec PyProof.Rows
theorem vals_ints:∀{vs:List Value}{ns:List Int},IntsAre vs ns->zaY (ns.map V.int) vs
 |_,_,.nil=>.nil
 |_,_,.cons n t h=>.cons ⟨t,rfl⟩ (vals_ints h)
def zyn(H:Hp):Prop:=∀ b,H b=none\/∃ o xs,H b=some (.frz o (.lst xs))
theorem zsj{P:Program}{w:World}{K:W.Frag}{mg mb:Str->Option Value}{CX:CXT}{k:Nat}{fa a:Addr}{fd:FuncData}{x:Str}{sp:Sp}{s₁:Shared}{vs:List Value}{ns:List Int}
  (KX:K.In s₁.heap) (hns:s₁.heap.Ns mainGlobals mg) (hb:s₁.heap.Ns builtinsNs mb) (hbb:∀ x:Str,x≠"__name__"->mb x=bootBuiltins x) (hlim:s₁.heap.NoLimit) (hg:s₁.gens=#[])
  (ha:s₁.heap.get? a=some { cls:=.type "list",data:=.seq vs.toArray }) (hi:IntsAre vs ns) (hl:ns.length<=sizeLine) (hr:zfK k callerA)
  (F:∀ base:Heap,K.In base->base.Ns mainGlobals mg->zgt P w K mg base CX k fa fd [x] sp) (hbind:∀(s:Shared)(u:Value),BindsTo s fd ⟨[u],[]⟩ [(x,u)])
  (hsp:∀ H:Hp,zyn H->SqL K H a (ns.map V.int)->sp [.ref a] H (λv _=>v=.bl true) λ_ _ _=>False)
  (hCX:∀ H e s',CX [] H s₁ (λ_ _ _=>False) e s'->False) :
  codeAny (model P w) callerA (.call (.ref fa) ⟨[.ref a],[]⟩) (λr s'=>r=.ok (.ret (.bool true))/\OldK s₁.heap s'.heap/\s'.os=s₁.os/\AllBare s'.gens) s₁:=by
 have rv:=vals_ints hi;have lenV:=hi.length;have core:∀ H:Hp,zyn H->SqL K H a (ns.map V.int)->HOk P w H s₁.heap->(∀ b,H b≠none->b=a)->(H a≠none->K.lookup a=none) ->
   codeAny (model P w) callerA (.call (.ref fa) ⟨[.ref a],[]⟩) (λr s'=>r=.ok (.ret (.bool true))/\OldK s₁.heap s'.heap/\s'.os=s₁.os/\AllBare s'.gens) s₁:=by
  intro H hO hS hok hA hK;have base_of:∀{b:Addr}{o:Obj},s₁.heap.get? b=some o->H b=none->(zru s₁.heap H).get? b=some o:=λe n=>zrg e n;have noA:∀{b:Addr}{o:Obj}{es:Array DictEntry}{ep:Nat},s₁.heap.get? b=some o->o.data=.dict es ep->H b=none:=λ{b o es ep} e d=>by
   cases q:H b with
   |none=>rfl
   |some u =>
    have e':b=a:=hA b (by rw[q];simp);subst e';rw[ha] at e;cases e;have d':Data.seq vs.toArray _=Data.dict es ep:=d;cases d'
  have nsK:∀{b:Addr}{m:Str->Option Value},s₁.heap.Ns b m->(zru s₁.heap H).Ns b m:=λ{b m} ⟨o,es,ep,e,d,r⟩=>⟨o,es,ep,base_of e (noA e d),d,r⟩
  have hKb:K.In (zru s₁.heap H):=λb o e=>base_of (KX b o e) (by
   cases q:H b with
   |none=>rfl
   |some u =>
    have e':b=a:=hA b (by rw[q];simp);subst e';rw[hK (by rw[q];simp)] at e;cases e)
  have hM:Mod K mg (zru s₁.heap H):=⟨hKb,nsK hns,⟨mb,nsK hb,hbb⟩,let ⟨mc,h1,h2⟩:=hlim;⟨mc,nsK h1,h2⟩⟩
  have e0:zu1 P w K mg (zru s₁.heap H) callerA [] s₁ H:=⟨rfl,hM,λb o e=>zvn e,Nat.le_of_eq (zqr _ _),trivial,λb hb=>absurd (show b∈([]:List Addr) from hb) xws,hok,.of_eq hg⟩
  refine codeAny_mono ((F _ hKb (nsK hns)).run callerA [] s₁ H ⟨[.ref a],[]⟩ [.ref a] [.ref a] _ _ hr e0 (hbind s₁ (.ref a)) (.cons rfl .nil) (hsp H hO hS)) λr s' h=>?_;cases r with
  |error e=>exact (hCX H e s' h).elim
  |ok fl =>
   cases fl with
   |next=>exact waO h
   |brk=>exact waO h
   |cont=>exact waO h
   |ret u =>
    obtain ⟨v,H',os,bare,un,hok',r',q⟩:=h;have q':v=.bl true:=q;subst q';obtain rfl:u=Value.bool true:=r';refine ⟨rfl,OldK.of_keep λb o e=>?_,os,bare⟩;cases q:H b with
    |none=>exact un.keep b o e q (by intro z;exact absurd (show b∈([]:List Addr) from z) xws) xws
    |some u =>
     rcases hO b with z|⟨ob,xs,z⟩
     ·rw[q] at z;cases z
     ·have z2:=un.frzs b ob _ z;obtain ⟨e1,_⟩:=hok b _ z;obtain ⟨e2,_⟩:=hok' b _ z2;rw[e] at e1;cases e1;exact e2
 cases hk:K.lookup a with
 |some o =>
  have e:=KX a o hk;rw[ha] at e;cases e;refine core (λ_=>none) (λ_=>.inl rfl) (.inr ⟨_,vs.toArray,_,hk,rfl,rfl,rfl,by rw[List.size_toArray,lenV];exact hl,by simpa using rv⟩) (λb u z=>by have z':(none:Option HO)=some u:=z;cases z') (λb z=>absurd rfl z) λz=>absurd rfl z
 |none =>
  refine core (λb=>if b=a then some (.frz { cls:=.type "list",data:=.seq vs.toArray } (.lst (ns.map V.int))) else none) (λb=>?_) (.inl (.inr ⟨{ cls:=.type "list",data:=.seq vs.toArray },if_pos rfl⟩)) (λb u z=>?_) (λb z=>?_) λ_=>hk
  ·by_cases hb:b=a
   ·exact .inr ⟨_,_,if_pos hb⟩
   ·exact .inl (if_neg hb)
  ·by_cases hb:b=a
   ·have z':=(if_pos hb).symm.trans z;cases z';subst hb;exact ⟨ha,by rw[List.length_map];exact hl,vs,_,rv,ha⟩
   ·have z':=(if_neg hb).symm.trans z;cases z'
  ·by_cases hb:b=a
   ·exact hb
   ·exact absurd (if_neg hb) z
end L2
namespace L2
open PySem PySem.Spec PyProof.Rows
theorem walk_of{l:W.OpenLaw}{n k:Nat}{q:Program}{loose:List Str}{XP:(Str->Option Value)->Heap->Prop}{YP:World->Heap->Prop}{d:DefRec}{K:Params->W.Frag}{CX:World->CXT}{sp:World->Sp}{x:Str}
  (hn:l.most=some n) (hn2:n<=sizeLine) (hdf:d.params.defaults=[]) (hr:zfK k callerA)
  (hY:∀(w:World)(h:Heap),YP w h->(K w.params).In h)
  (F:∀(w:World)(mg:Str->Option Value)(fa:Addr)(h:Heap),(K w.params).In h->h.Ns mainGlobals mg->mg d.name=some (.ref fa) ->
   ∃ fd:FuncData,(∀(s:Shared)(u:Value),BindsTo s fd ⟨[u],[]⟩ [(x,u)]) /\
    ∀ base:Heap,(K w.params).In base->base.Ns mainGlobals mg->zgt l.prog w (K w.params) mg base (CX w) k fa fd [x] (sp w))
  (hsp:∀(w:World)(H:Hp)(a:Addr)(ns:List Int),ns.length<=n->zyn H->SqL (K w.params) H a (ns.map V.int)->sp w [.ref a] H (λv _=>v=.bl true) λ_ _ _=>False)
  (hCX:∀(w:World)(H:Hp)(s:Shared)(e:Value)(s':Shared),CX w [] H s (λ_ _ _=>False) e s'->False) :
  W.WalkO q loose XP YP l.row.toRowW d [] (λf vs=>PySem.call f vs):=by
 refine Att.attach_call hn hdf λw s₀ s₁ mg mb fa o pm cd doc a vs ns G Yq ho hd hcd hmg hobj hints hlen hg=>?_;have KX:=hY w _ Yq;obtain ⟨fd,hb,hF⟩:=F w mg fa _ KX G.T.g hmg;exact zsj KX G.T.g G.T.b G.T.builtins G.T.nolimit hg hobj hints (waN hlen hn2) hr hF hb (λH hO hS=>hsp w H a ns hlen hO hS) λH e s'=>hCX w H s₁ e s'
end L2
namespace L2
open PySem PySem.Spec PyProof.Rows
def zfG(s:Stmt):Arguments:=match s with
 |.FunctionDef _ a _ _ _ _ _ _ _ _=>a
 |_=>{ posonlyargs:=[],args:=[],vararg:=none,kwonlyargs:=[],kw_defaults:=[],kwarg:=none,defaults:=[] }
def zdS(s:Stmt):List Stmt:=match s with
 |.FunctionDef _ _ b _ _ _ _ _ _ _=>b
 |_=>[]
def zak(s:Stmt):Scope:=match s with
 |.FunctionDef _ _ _ _ _ _ sc _ _ _=>sc
 |_=>{ kind:=.function,names:=[],isGenerator:=false,isCoroutine:=false }
abbrev CX0:CXT:=λ_ _ _ _ _ _=>False
structure Fun(K:W.Frag)(x qual:Str)(st:Stmt)(f:Addr)(fd:FuncData):Prop where
 ex:∃(oc:Value)(od:Option Addr)(kV doc pm:Value)(an:Option Addr)(cdv ct:Value)(osl:Array (Option Value)),
  fd=W.fnOf x qual (zfG st) (zdS st) (zak st) .none kV doc pm an cdv ct/\K.lookup f=some ⟨oc,od,.func fd,osl⟩/\W.codeIn K cdv qual=true
 kp:W.keepIn K (.ref f)=true
section
variable{P:Program}{w:World}{K:W.Frag}{mg:Str->Option Value}{base:Heap}
theorem Fun.ok{x qual:Str}{st:Stmt}{f:Addr}{fd:FuncData}{N ps:List Str}{k:Nat}{sp:Sp}(F:Fun K x qual st f fd)(S:za6 N ps (zak st))(len:∀ vs H Q E,sp vs H Q E->vs.length=ps.length)
  (hbody:∀(cdv:Value)(A:Around)(outer:List Env)(s:Shared)(H:Hp)(vs:List V)(Q:VK)(E:XK),zfK k (A.deeper (envOfC qual (zak st) s.heap.objs.size f cdv))->sp vs H Q E ->
   ∃ t,PSs (zrZ CX0 P w K mg base N qual (zak st) f cdv A outer s H E).nox (zdS st) t/\t { nx:=λ_ H'=>Q .non H',rt:=Q } (start N vs) H):zgt P w K mg base CX0 (k+1) f fd ps sp:=by
 obtain ⟨oc,od,kV,doc,pm,an,cdv,ct,osl,rfl,lk,hcd⟩:=F.ex;refine zvE lk hcd S len λA outer s H vs Q E hr hsp=>?_;obtain ⟨t,h,q⟩:=hbody cdv A outer s H vs Q E hr hsp;exact ⟨t,h.nox,q⟩
theorem Fun.binds{x qual:Str}{st:Stmt}{f:Addr}{fd:FuncData}{ps:List Str}(F:Fun K x qual st f fd)
  (h:∀(kV doc pm:Value)(an:Option Addr)(cdv ct:Value)(us:List Value),us.length=ps.length->bindArgs (W.fnOf x qual (zfG st) (zdS st) (zak st) .none kV doc pm an cdv ct) ⟨us,[]⟩=pure (ps.zip us)):zkd K fd ps []:=by
 obtain ⟨oc,od,kV,doc,pm,an,cdv,ct,osl,rfl,lk,hcd⟩:=F.ex;exact .all (h kV doc pm an cdv ct)
theorem zsT{x qual:Str}{st:Stmt}{f:Addr}{oc:Value}{od an:Option Addr}{osl:Array (Option Value)}{kV doc pm cdv ct:Value}(l:K.lookup f=some ⟨oc,od,.func (W.fnOf x qual (zfG st) (zdS st) (zak st) .none kV doc pm an cdv ct),osl⟩)
  (c:W.codeIn K cdv qual=true) (k:W.keepIn K (.ref f)=true):Fun K x qual st f (W.fnOf x qual (zfG st) (zdS st) (zak st) .none kV doc pm an cdv ct):=⟨⟨oc,od,kV,doc,pm,an,cdv,ct,osl,rfl,l,c⟩,k⟩
end
section
variable{X:Cx}
end
def zd8(H H':Hp):Prop:=∀ b o,H b=some o->H' b=some o
theorem zd8.refl(H:Hp):zd8 H H:=λ_ _ h=>h
theorem zd8.trans{H H1 H2:Hp}(a:zd8 H H1)(b:zd8 H1 H2):zd8 H H2:=λc o h=>b c o (a c o h)
theorem zd8.free{H H':Hp}(e:zd8 H H'){l:Addr}(h:H' l=Option.none):H l=Option.none:=by
 cases q:H l with
 |none=>rfl
 |some o =>
  rw[e l o q] at h;cases h
theorem zd8.seq{K:W.Frag}{H H':Hp}{a:Addr}{xs:List V}(e:zd8 H H')(h:SqL K H a xs):SqL K H' a xs:=by
 rcases h with (h|⟨o,h⟩)|h
 ·exact .inl (.inl (e _ _ h))
 ·exact .inl (.inr ⟨o,e _ _ h⟩)
 ·exact .inr h
end L2
end
section
namespace PV
open PySem PySem.Spec L2
inductive Dt where
 |non|bl (b:Bool)|int (i:Int)|str (x:Str)|tup (l:List Dt)|lst (l:List Dt)|dct (ks:List (Int×Int))|scr (ns:List Int)
inductive B where
 |val (d:Dt)|own (l:List Dt)|own2 (l:List (List Dt))|dic (l:List (Int×Dt))|tab (q:Str)|opq|exc (C:Addr)
abbrev Ev:=List (Option B)
inductive R(α:Type) where
 |ok (a:α)|er (n:Nat)|no
def R.bind{α β:Type}(r:R α)(f:α->R β):R β:=match r with
 |.ok a=>f a
 |.er n=>.er n
 |.no=>.no
@[simp] theorem R.bind_ok {α β:Type} (a:α) (f:α->R β):(R.ok a).bind f=f a:=rfl
@[simp] theorem R.bind_er {α β:Type} (n:Nat) (f:α->R β):(R.er n).bind f=.er n:=rfl
@[simp] theorem R.bind_no {α β:Type} (f:α->R β):(R.no).bind f=.no:=rfl
theorem R.bind_assoc{α β γ:Type}(r:R α)(f:α->R β)(g:β->R γ):(r.bind f).bind g=r.bind λa=>(f a).bind g:=by
 cases r <;> rfl
def zjo(K:W.Frag)(H:Hp)(a:Addr)(xs:List V):Prop :=
 H a=some (.tup xs)\/∃(its:Array Value)(n:Nat),K.lookup a=some { cls:=.type "tuple",data:=.seq its n }/\its.size<=sizeLine/\zaY xs its.toList
theorem zjo.of{K:W.Frag}{H:Hp}{a:Addr}{xs:List V}(h:H a=some (.tup xs)):zjo K H a xs:=.inl h
theorem zjo.sq{K:W.Frag}{H:Hp}{a:Addr}{xs:List V}(h:zjo K H a xs):SqT K H a xs:=by
 rcases h with h|⟨its,n,h1,h2,h3⟩
 ·exact .inl (.inl h)
 ·exact .inr ⟨_,its,n,h1,rfl,rfl,h2,h3⟩
theorem zjo.same{K:W.Frag}{H H':Hp}{a:Addr}{xs:List V}(e:zd8 H H')(h:zjo K H a xs):zjo K H' a xs:=h.elim (λz=>.inl (e _ _ z)) .inr
mutual
def Rep(K:W.Frag)(G:Hp):Dt->V->Prop
 |.non,v=>v=.non
 |.bl b,v=>v=.bl b
 |.int i,v=>v=.int i
 |.str x,v=>v=.str x
 |.tup l,v=>∃ a vs,v=.ref a/\zjo K G a vs/\za4 K G l vs
 |.lst l,v=>∃ a vs,v=.ref a/\G a=some (.lst vs)/\za4 K G l vs
 |.dct ks,v=>∃ a,v=.ref a/\G a=some (.dK (ks.map λp=>(.inl p.1,.int p.2)))
 |.scr ns,v=>∃ a,v=.ref a/\SqL K G a (ns.map V.int)
def za4(K:W.Frag)(G:Hp):List Dt->List V->Prop
 |[],vs=>vs=[]
 |d::ds,vs=>∃ v r,vs=v::r/\Rep K G d v/\za4 K G ds r
end
theorem zaK{K:W.Frag}{H H':Hp}{a:Addr}{xs:List V}(e:zd8 H H')(h:SqT K H a xs):SqT K H' a xs:=by
 rcases h with (h|⟨o,h⟩)|h
 ·exact .inl (.inl (e _ _ h))
 ·exact .inl (.inr ⟨o,e _ _ h⟩)
 ·exact .inr h
mutual
theorem Rep.same{K:W.Frag}{G G':Hp}(e:zd8 G G'):∀{d:Dt}{v:V},Rep K G d v->Rep K G' d v
 |.non,_,h=>by unfold Rep at h ⊢;exact h
 |.bl _,_,h=>by unfold Rep at h ⊢;exact h
 |.int _,_,h=>by unfold Rep at h ⊢;exact h
 |.str _,_,h=>by unfold Rep at h ⊢;exact h
 |.tup l,_,h=>by unfold Rep at h ⊢;obtain ⟨a,vs,h1,h2,h3⟩:=h;exact ⟨a,vs,h1,h2.same e,za4.same e h3⟩
 |.lst l,_,h=>by unfold Rep at h ⊢;obtain ⟨a,vs,h1,h2,h3⟩:=h;exact ⟨a,vs,h1,e _ _ h2,za4.same e h3⟩
 |.dct _,_,h=>by unfold Rep at h ⊢;obtain ⟨a,h1,h2⟩:=h;exact ⟨a,h1,e _ _ h2⟩
 |.scr ns,_,h=>by unfold Rep at h ⊢;obtain ⟨a,h1,h2⟩:=h;exact ⟨a,h1,e.seq h2⟩
theorem za4.same{K:W.Frag}{G G':Hp}(e:zd8 G G'):∀{ds:List Dt}{vs:List V},za4 K G ds vs->za4 K G' ds vs
 |[],_,h=>by unfold za4 at h ⊢;exact h
 |d::ds,_,h=>by unfold za4 at h ⊢;obtain ⟨v,r,h1,h2,h3⟩:=h;exact ⟨v,r,h1,Rep.same e h2,za4.same e h3⟩
end
theorem za4.nil{K:W.Frag}{G:Hp}:za4 K G [] []:=by unfold za4;rfl
theorem za4.cons{K:W.Frag}{G:Hp}{d:Dt}{ds:List Dt}{v:V}{vs:List V}(h:Rep K G d v)(t:za4 K G ds vs):za4 K G (d::ds) (v::vs):=by unfold za4;exact ⟨v,vs,rfl,h,t⟩
theorem za4.nil_inv{K:W.Frag}{G:Hp}{vs:List V}(h:za4 K G [] vs):vs=[]:=by unfold za4 at h;exact h
theorem za4.cons_inv{K:W.Frag}{G:Hp}{d:Dt}{ds:List Dt}{vs:List V}(h:za4 K G (d::ds) vs):∃ v r,vs=v::r/\Rep K G d v/\za4 K G ds r:=by unfold za4 at h;exact h
theorem za4.length{K:W.Frag}{G:Hp}:∀{ds:List Dt}{vs:List V},za4 K G ds vs->ds.length=vs.length
 |[],_,h=>by rw[h.nil_inv];rfl
 |d::ds,_,h=>by obtain ⟨v,r,rfl,_,h3⟩:=h.cons_inv;simp[za4.length h3]
theorem za4.get{K:W.Frag}{G:Hp}:∀{ds:List Dt}{vs:List V}{i:Nat}{d:Dt},za4 K G ds vs->ds[i]? = some d->∃ v,vs[i]? = some v/\Rep K G d v
 |[],_,_,_,_,e=>by simp at e
 |d::ds,_,0,_,h,e=>by obtain ⟨v,r,rfl,h2,h3⟩:=h.cons_inv;simp at e;subst e;exact ⟨v,rfl,h2⟩
 |d::ds,_,i+1,_,h,e=>by obtain ⟨v,r,rfl,h2,h3⟩:=h.cons_inv;obtain ⟨u,e1,e2⟩:=za4.get (i:=i) h3 (by simpa using e);exact ⟨u,by simpa using e1,e2⟩
theorem za4.append{K:W.Frag}{G:Hp}:∀{ds es:List Dt}{vs us:List V},za4 K G ds vs->za4 K G es us->za4 K G (ds++es) (vs++us)
 |[],_,_,_,h,t=>by rw[h.nil_inv];exact t
 |d::ds,_,_,_,h,t=>by obtain ⟨v,r,rfl,h2,h3⟩:=h.cons_inv;exact za4.cons h2 (za4.append h3 t)
theorem za4.take{K:W.Frag}{G:Hp}:∀(n:Nat){ds:List Dt}{vs:List V},za4 K G ds vs->za4 K G (ds.take n) (vs.take n)
 |0,_,_,_=>by simpa using za4.nil
 |n+1,[],_,h=>by rw[h.nil_inv];simpa using za4.nil
 |n+1,d::ds,_,h=>by obtain ⟨v,r,rfl,h2,h3⟩:=h.cons_inv;exact za4.cons h2 (za4.take n h3)
theorem za4.drop{K:W.Frag}{G:Hp}:∀(n:Nat){ds:List Dt}{vs:List V},za4 K G ds vs->za4 K G (ds.drop n) (vs.drop n)
 |0,_,_,h=>h
 |n+1,[],_,h=>by rw[h.nil_inv];simpa using za4.nil
 |n+1,d::ds,_,h=>by obtain ⟨v,r,rfl,h2,h3⟩:=h.cons_inv;exact za4.drop n h3
theorem za4.reverse{K:W.Frag}{G:Hp}:∀{ds:List Dt}{vs:List V},za4 K G ds vs->za4 K G ds.reverse vs.reverse
 |[],_,h=>by rw[h.nil_inv];exact za4.nil
 |d::ds,_,h=>by obtain ⟨v,r,rfl,h2,h3⟩:=h.cons_inv;rw[List.reverse_cons,List.reverse_cons];exact (za4.reverse h3).append (za4.cons h2 za4.nil)
theorem za4.set{K:W.Frag}{G:Hp}{d:Dt}{v:V}(hv:Rep K G d v):∀(i:Nat){ds:List Dt}{vs:List V},za4 K G ds vs->za4 K G (ds.set i d) (vs.set i v)
 |_,[],_,h=>by rw[h.nil_inv];exact za4.nil
 |0,d'::ds,_,h=>by obtain ⟨v,r,rfl,h2,h3⟩:=h.cons_inv;exact za4.cons hv h3
 |i+1,d'::ds,_,h=>by obtain ⟨v,r,rfl,h2,h3⟩:=h.cons_inv;exact za4.cons h2 (za4.set hv i h3)
theorem za4.eraseIdx{K:W.Frag}{G:Hp}:∀(i:Nat){ds:List Dt}{vs:List V},za4 K G ds vs->za4 K G (ds.eraseIdx i) (vs.eraseIdx i)
 |_,[],_,h=>by rw[h.nil_inv];exact za4.nil
 |0,d'::ds,_,h=>by obtain ⟨v,r,rfl,h2,h3⟩:=h.cons_inv;exact h3
 |i+1,d'::ds,_,h=>by obtain ⟨v,r,rfl,h2,h3⟩:=h.cons_inv;exact za4.cons h2 (za4.eraseIdx i h3)
theorem za4.dropLast{K:W.Frag}{G:Hp}{ds:List Dt}{vs:List V}(h:za4 K G ds vs):za4 K G ds.dropLast vs.dropLast:=by rw[List.dropLast_eq_take,List.dropLast_eq_take,h.length];exact h.take _
abbrev Wn:=Addr->Option Nat
structure zbA(G H:Hp)(w:Wn)(G' H':Hp)(w':Wn):Prop where
 g:zd8 G G'
 fr:∀ b o,G' b=some o->G b≠none\/H b=none\/w b≠none
 h:∀ b o,H b=some o->w b=none->H' b=some o
 w:∀ b,w' b≠none->w b≠none\/H b=none
 k:∀ b,H' b=none->H b=none
theorem zbA.refl(G H:Hp)(w:Wn):zbA G H w G H w :=
 ⟨zd8.refl G,λb o e=>.inl (by rw[e];simp),λ_ _ e _=>e,λ_ e=>.inl e,λ_ e=>e⟩
theorem zbA.trans{G H G1 H1 G2 H2:Hp}{w w1 w2:Wn}(a:zbA G H w G1 H1 w1)(b:zbA G1 H1 w1 G2 H2 w2):zbA G H w G2 H2 w2:=by
 have hn:=a.k;refine ⟨a.g.trans b.g,λc o e=>?_,λc o e z=>?_,λc e=>?_,λc e=>a.k c (b.k c e)⟩
 ·rcases b.fr c o e with q|q|q
  ·cases q':G1 c with
   |none=>exact absurd q' q
   |some u=>exact a.fr c u q'
  ·exact .inr (.inl (hn c q))
  ·rcases a.w c q with z|z
   ·exact .inr (.inr z)
   ·exact .inr (.inl z)
 ·have e1:=a.h c o e z;refine b.h c o e1 ?_;cases q:w1 c with
  |none=>rfl
  |some k =>
   rcases a.w c (by rw[q];simp) with r|r
   ·exact absurd z r
   ·rw[e] at r;cases r
 ·rcases b.w c e with q|q
  ·exact a.w c q
  ·exact .inr (hn c q)
structure Cn where
 G₀:Hp
 H₀:Hp
 w₀:Wn
 pp:List Nat
 σ₀:St
 ex:Nat->Prop
 xv:Nat->Value
 nw:Bool
def RtG(nw:Bool)(K:W.Frag)(H0 G H:Hp)(w:Wn)(d:Dt)(v:V):Prop:=match nw with
 |false=>Rep K G d v
 |true=>∃ l p vs,d=.lst l/\v=.ref p/\H0 p=none/\H p=some (.lst vs)/\G p=none/\w p=none/\za4 K G l vs
def cHO(c:Addr)(q:Str):HO:=.ext λh=>h.CodeRec (.ref c) q
def xHO(l C:Addr):HO:=.ext λh=>∃ o vs,h.get? l=some o/\o.cls=.ref C/\o.data=.fields vs
def RB(K:W.Frag)(G H:Hp)(w:Wn)(i:Nat)(v:V):B->Prop
 |.val d=>Rep K G d v
 |.own ds=>∃ a vs,v=.ref a/\w a=some i/\H a=some (.lst vs)/\za4 K G ds vs
 |.own2 dss=>∃ a as,v=.ref a/\w a=some i/\H a=some (.lst (as.map V.ref))/\(a::as).Nodup/\Paired (λb ds=>w b=some i/\∃ vs,H b=some (.lst vs)/\za4 K G ds vs) as dss
 |.tab q=>∃ P ps,v=.ref P/\w P=some i/\H P=some (.tbl ps)/\TriplesOk ps.toList/\∀ pos cv,codeAmong pos ps.toList=some cv->∃ c,cv=.ref c/\G c=some (cHO c q)
 |.dic ds=>∃ a us,v=.ref a/\w a=some i/\H a=some (.dK us)/\Paired (λ(p:Int×Dt) (q:Key×V)=>q.1=.inl p.1/\Rep K G p.2 q.2) ds us
 |.opq=>True
 |.exc C=>∃ l,v=.ref l/\G l=some (xHO l C)
structure Rel(K:W.Frag)(C:Cn)(G:Hp)(w:Wn)(Z:Ev)(Y:St)(H:Hp):Prop where
 gh:zd8 G H
 wg:∀ b,w b≠none->G b=none
 wh:∀ b,w b≠none->H b≠none
 len:Z.length = Y.length
 sl:∀ i b,Z[i]? = some (some b)->∃ v,Y[i]? = some (some v)/\RB K G H w i v b
 en:zbA C.G₀ C.H₀ C.w₀ G H w
 pin:∀ i∈C.pp,Y[i]? = C.σ₀[i]?
structure ze6(G H G' H':Hp):Prop where
 g:zd8 G G'
 h:zd8 H H'
 gh:zd8 G' H'
 fr:∀ b o,G' b=some o->G b≠none\/H b=none
theorem ze6.refl{G H:Hp}(e:zd8 G H):ze6 G H G H:=⟨.refl _,.refl _,e,λb o q=>.inl (by rw[q];simp)⟩
theorem ze6.trans{G H G1 H1 G2 H2:Hp}(a:ze6 G H G1 H1)(b:ze6 G1 H1 G2 H2):ze6 G H G2 H2 :=
 ⟨a.g.trans b.g,a.h.trans b.h,b.gh,λc o e=>by
  rcases b.fr c o e with q|q
  ·cases q':G1 c with
   |none=>exact absurd q' q
   |some u=>exact a.fr c u q'
  ·exact .inr (a.h.free q)⟩
theorem ze6.step{G H G' H':Hp}{w:Wn}(a:ze6 G H G' H'):zbA G H w G' H' w :=
 ⟨a.g,λb o e=>(a.fr b o e).elim .inl λz=>.inr (.inl z),λb o e _=>a.h b o e,λ_ e=>.inl e,λ_ e=>a.h.free e⟩
theorem zfc{α β:Type}{F F':α->β->Prop}(f:∀ a b,F a b->F' a b):∀{l₁:List α}{l₂:List β},Paired F l₁ l₂->Paired F' l₁ l₂
 |_,_,.nil=>.nil
 |_,_,.cons r t=>.cons (f _ _ r) (zfc f t)
theorem RB.grow{K:W.Frag}{G H G' H':Hp}{w w':Wn}{i j:Nat}{v:V}{b:B}(g:zd8 G G')(h:∀ a o,w a=some i->H a=some o->H' a=some o/\w' a=some j)(r:RB K G H w i v b):RB K G' H' w' j v b:=by
 cases b with
 |val d=>exact Rep.same g r
 |own ds =>
  obtain ⟨a,vs,h1,h2,h3,h4⟩:=r;obtain ⟨e1,e2⟩:=h a _ h2 h3;exact ⟨a,vs,h1,e2,e1,za4.same g h4⟩
 |own2 dss =>
  obtain ⟨a,as,h1,h2,h3,h4,h5⟩:=r;obtain ⟨e1,e2⟩:=h a _ h2 h3;refine ⟨a,as,h1,e2,e1,h4,zfc (λb ds ⟨q1,vs,q2,q3⟩=>?_) h5⟩;obtain ⟨e1,e2⟩:=h b _ q1 q2;exact ⟨e2,vs,e1,za4.same g q3⟩
 |tab q =>
  obtain ⟨P,ps,h1,h2,h3,h4,h5⟩:=r;obtain ⟨e1,e2⟩:=h P _ h2 h3;exact ⟨P,ps,h1,e2,e1,h4,λpos cv e=>let ⟨c,q1,q2⟩:=h5 pos cv e;⟨c,q1,g _ _ q2⟩⟩
 |dic ds =>
  obtain ⟨a,us,h1,h2,h3,h4⟩:=r;obtain ⟨e1,e2⟩:=h a _ h2 h3;exact ⟨a,us,h1,e2,e1,zfc (λp q z=>⟨z.1,Rep.same g z.2⟩) h4⟩
 |opq=>exact trivial
 |exc C =>
  obtain ⟨l,h1,h2⟩:=r;exact ⟨l,h1,g _ _ h2⟩
theorem Rel.grow{K:W.Frag}{C:Cn}{G H G' H':Hp}{w:Wn}{Z:Ev}{Y:St}(r:Rel K C G w Z Y H)(a:ze6 G H G' H'):Rel K C G' w Z Y H':=by
 refine ⟨a.gh,λb e=>?_,λb e z=>r.wh b e (a.h.free z),r.len,λi b e=>?_,r.en.trans a.step,r.pin⟩
 ·cases q:G' b with
  |none=>rfl
  |some o =>
   rcases a.fr b o q with z|z
   ·exact absurd (r.wg b e) z
   ·exact absurd z (r.wh b e)
 ·obtain ⟨v,h1,h2⟩:=r.sl i b e;exact ⟨v,h1,h2.grow a.g λa' o e1 e2=>⟨a.h _ _ e2,e1⟩⟩
theorem ze6.new{G H:Hp}{p:Addr}{o:HO}(gh:zd8 G H)(hp:H p=none):ze6 G H (upd G p o) (upd H p o):=by
 refine ⟨λb u e=>?_,λb u e=>?_,λb u e=>?_,λb u e=>?_⟩
 ·rw[zat (zas (gh b u e) hp)];exact e
 ·rw[zat (zas e hp)];exact e
 ·by_cases hb:b=p
  ·subst hb;rw[zar] at e ⊢;exact e
  ·rw[zat hb] at e ⊢;exact gh b u e
 ·by_cases hb:b=p
  ·subst hb;exact .inr hp
  ·rw[zat hb] at e;exact .inl (by rw[e];simp)
theorem ze6.newH{G H:Hp}{p:Addr}{o:HO}(gh:zd8 G H)(hp:H p=none):ze6 G H G (upd H p o):=by
 refine ⟨.refl _,λb u e=>?_,λb u e=>?_,λb u e=>.inl (by rw[e];simp)⟩
 ·rw[zat (zas e hp)];exact e
 ·rw[zat (zas (gh b u e) hp)];exact gh b u e
def zcD{α:Type}(ex:Nat->Prop)(κ:α->Prop):R α->Prop
 |.ok a=>κ a
 |.er n=>ex n
 |.no=>False
def kE(K:W.Frag)(C:Cn)(Y:St)(Q:VK)(G H:Hp)(w:Wn)(a:Dt×Ev):Prop :=
 ∀ v G' H' w',zbA G H w G' H' w'->Rel K C G' w' a.2 Y H'->Rep K G' a.1 v->Q v H'
def kT(K:W.Frag)(C:Cn)(Y:St)(Q:Bool->Hp->Prop)(G H:Hp)(w:Wn)(a:Bool×Ev):Prop :=
 ∀ G' H' w',zbA G H w G' H' w'->Rel K C G' w' a.2 Y H'->Q a.1 H'
def kN(K:W.Frag)(C:Cn)(Y:St)(Q:VK)(G H:Hp)(w:Wn)(a:List Dt×Ev):Prop :=
 ∀ p vs G' H' w',zbA G H w G' H' w'->Rel K C G' w' a.2 Y H'->H p=none->H' p=some (.lst vs)->G' p=none->w' p=none->za4 K G' a.1 vs->Q (.ref p) H'
inductive Fl where
 |nx|bk|ct|rt (d:Dt)
def kS(K:W.Frag)(C:Cn)(D:zsS)(G H:Hp)(w:Wn)(a:Fl×Ev):Prop :=
 match a.1 with
 |.nx=>∀ Y' G' H' w',zbA G H w G' H' w'->Rel K C G' w' a.2 Y' H'->D.nx Y' H'
 |.bk=>∀ Y' G' H' w',zbA G H w G' H' w'->Rel K C G' w' a.2 Y' H'->D.bk Y' H'
 |.ct=>∀ Y' G' H' w',zbA G H w G' H' w'->Rel K C G' w' a.2 Y' H'->D.ct Y' H'
 |.rt d=>∀ v Y' G' H' w',zbA G H w G' H' w'->Rel K C G' w' a.2 Y' H'->RtG C.nw K C.H₀ G' H' w' d v->D.rt v H'
abbrev De:=Ev->R (Dt×Ev)
abbrev DT:=Ev->R (Bool×Ev)
abbrev DN:=Ev->R (List Dt×Ev)
abbrev DS:=Ev->R (Fl×Ev)
def tE(K:W.Frag)(C:Cn)(f:De):TE:=λY H Q=>∃ G w Z,Rel K C G w Z Y H/\zcD C.ex (kE K C Y Q G H w) (f Z)
def tT(K:W.Frag)(C:Cn)(f:DT):TT:=λY H Q=>∃ G w Z,Rel K C G w Z Y H/\zcD C.ex (kT K C Y Q G H w) (f Z)
def tN(K:W.Frag)(C:Cn)(f:DN):TE:=λY H Q=>∃ G w Z,Rel K C G w Z Y H/\zcD C.ex (kN K C Y Q G H w) (f Z)
def tS(K:W.Frag)(C:Cn)(f:DS):TS:=λD Y H=>∃ G w Z,Rel K C G w Z Y H/\zcD C.ex (kS K C D G H w) (f Z)
abbrev JE(X:Cx)(C:Cn)(e:Expr)(f:De):Prop:=PE X e (tE X.K C f)
abbrev JT(X:Cx)(C:Cn)(e:Expr)(f:DT):Prop:=PT X e (tT X.K C f)
abbrev JW(X:Cx)(C:Cn)(e:Expr)(f:DT):Prop:=PW X e (tT X.K C f)
abbrev JN(X:Cx)(C:Cn)(e:Expr)(f:DN):Prop:=PE X e (tN X.K C f)
abbrev JS(X:Cx)(C:Cn)(st:Stmt)(f:DS):Prop:=PS X st (tS X.K C f)
abbrev JSs(X:Cx)(C:Cn)(st:List Stmt)(f:DS):Prop:=PSs X st (tS X.K C f)
abbrev zr8(α:Type):=Hp->Hp->Wn->α->Prop
def Stp{α:Type}(κ:zr8 α):Prop:=∀ G H w G1 H1 w1 a,zbA G H w G1 H1 w1->κ G H w a->κ G1 H1 w1 a
section
variable{K:W.Frag}{C:Cn}{Y:St}
theorem zcr{Q:VK}:Stp (λG H w=>kE K C Y Q G H w):=λ_ _ _ _ _ _ _ s k v G' H' w' s'=>k v G' H' w' (s.trans s')
theorem zqo{Q:Bool->Hp->Prop}:Stp (λG H w=>kT K C Y Q G H w):=λ_ _ _ _ _ _ _ s k G' H' w' s'=>k G' H' w' (s.trans s')
theorem zfk{Q:VK}:Stp (λG H w=>kN K C Y Q G H w):=λG H w G1 H1 w1 _ s k p vs G' H' w' s' r q1 q2 q3 q4 q5 =>
 k p vs G' H' w' (s.trans s') r (s.k p q1) q2 q3 q4 q5
theorem zeJ{D:zsS}:Stp (λG H w=>kS K C D G H w):=λG H w G1 H1 w1 a s k=>by
 obtain ⟨f,Z⟩:=a;cases f with
 |nx=>exact λY' G' H' w' s'=>k Y' G' H' w' (s.trans s')
 |bk=>exact λY' G' H' w' s'=>k Y' G' H' w' (s.trans s')
 |ct=>exact λY' G' H' w' s'=>k Y' G' H' w' (s.trans s')
 |rt d=>exact λv Y' G' H' w' s'=>k v Y' G' H' w' (s.trans s')
theorem zcD.step{α:Type}{ex:Nat->Prop}{κ:zr8 α}(st:Stp κ){G H G1 H1:Hp}{w w1:Wn}(s:zbA G H w G1 H1 w1):∀{r:R α},zcD ex (κ G H w) r->zcD ex (κ G1 H1 w1) r
 |.ok _,p=>st _ _ _ _ _ _ _ s p
 |.er _,p=>p
 |.no,p=>p
theorem ze4{α:Type}{κ:zr8 α}(st:Stp κ){G H:Hp}{w:Wn}{Z:Ev}{fa:De}{g:Dt×Ev->R α}{Q:VK}(r:Rel K C G w Z Y H)(p:zcD C.ex (κ G H w) ((fa Z).bind g))
  (k:∀ d Z1 v G1 H1 w1,Rel K C G1 w1 Z1 Y H1->zbA G H w G1 H1 w1->Rep K G1 d v->zcD C.ex (κ G1 H1 w1) (g (d,Z1))->Q v H1):tE K C fa Y H Q:=by
 refine ⟨G,w,Z,r,?_⟩;cases e:fa Z with
 |ok a =>
  rw[e] at p;intro v G' H' w' s' r' q;exact k a.1 a.2 v G' H' w' r' s' q (zcD.step st s' p)
 |er n=>rw[e] at p;exact p
 |no=>rw[e] at p;exact p
theorem zv6{α:Type}{κ:zr8 α}(st:Stp κ){G H:Hp}{w:Wn}{Z:Ev}{fa:DT}{g:Bool×Ev->R α}{Q:Bool->Hp->Prop}(r:Rel K C G w Z Y H)(p:zcD C.ex (κ G H w) ((fa Z).bind g))
  (k:∀ b Z1 G1 H1 w1,Rel K C G1 w1 Z1 Y H1->zbA G H w G1 H1 w1->zcD C.ex (κ G1 H1 w1) (g (b,Z1))->Q b H1):tT K C fa Y H Q:=by
 refine ⟨G,w,Z,r,?_⟩;cases e:fa Z with
 |ok a =>
  rw[e] at p;intro G' H' w' s' r';exact k a.1 a.2 G' H' w' r' s' (zcD.step st s' p)
 |er n=>rw[e] at p;exact p
 |no=>rw[e] at p;exact p
theorem zyl{α:Type}{κ:zr8 α}{G H:Hp}{w:Wn}{Z:Ev}{fa:DN}{g:List Dt×Ev->R α}{Q:VK}(r:Rel K C G w Z Y H)(p:zcD C.ex (κ G H w) ((fa Z).bind g))
  (k:∀ ds Z1 a vs G1 H1 w1,Rel K C G1 w1 Z1 Y H1->zbA G H w G1 H1 w1->H a=none->H1 a=some (.lst vs)->G1 a=none->w1 a=none->za4 K G1 ds vs->zcD C.ex (κ G H w) (g (ds,Z1))->Q (.ref a) H1):tN K C fa Y H Q:=by
 refine ⟨G,w,Z,r,?_⟩;cases e:fa Z with
 |ok a =>
  rw[e] at p;intro v vs G' H' w' s' r' q1 q2 q3 q4 q5;exact k a.1 a.2 v vs G' H' w' r' s' q1 q2 q3 q4 q5 p
 |er n=>rw[e] at p;exact p
 |no=>rw[e] at p;exact p
end
section
variable{X:Cx}
theorem _root_.L2.PE.weak{e:Expr}{t t':TE}(h:PE X e t)(k:∀ Y H Q,t' Y H Q->t Y H Q):PE X e t':=λpS s Y H Q I q=>h pS s Y H Q I (k Y H Q q)
theorem _root_.L2.PT.weak{e:Expr}{t t':TT}(h:PT X e t)(k:∀ Y H Q,t' Y H Q->t Y H Q):PT X e t':=λpS s Y H Q I q=>h pS s Y H Q I (k Y H Q q)
theorem _root_.L2.PW.weak{e:Expr}{t t':TT}(h:PW X e t)(k:∀ Y H Q,t' Y H Q->t Y H Q):PW X e t':=λwh pS s Y H Q I q=>h wh pS s Y H Q I (k Y H Q q)
theorem _root_.L2.PA.weak{e:List Expr}{t t':TA}(h:PA X e t)(k:∀ Y H Q,t' Y H Q->t Y H Q):PA X e t':=λpos pS s Y H Q I q=>h pos pS s Y H Q I (k Y H Q q)
theorem _root_.L2.PS.weak{e:Stmt}{t t':TS}(h:PS X e t)(k:∀ D Y H,t' D Y H->t D Y H):PS X e t':=λpS s Y H D I q=>h pS s Y H D I (k D Y H q)
theorem _root_.L2.PSs.weak{e:List Stmt}{t t':TS}(h:PSs X e t)(k:∀ D Y H,t' D Y H->t D Y H):PSs X e t':=λpS s Y H D I q=>h pS s Y H D I (k D Y H q)
end
section
variable{K:W.Frag}{C:Cn}{Y:L2.St}{G H:Hp}{w:Wn}{Z:Ev}{i:Nat}{v:V}
theorem Rel.freeze{d:Dt}{b0:B}(r:Rel K C G w Z Y H)(S:List Addr)(hS:∀ b∈S,w b=some i)(hi:Z[i]? = some (some b0))(hv:Y[i]? = some (some v))
  (hr:Rep K (λb=>if b∈S then H b else G b) d v) :
  Rel K C (λb=>if b∈S then H b else G b) (λb=>if b∈S then none else w b) (Z.set i (some (.val d))) Y H /\
   zbA G H w (λb=>if b∈S then H b else G b) H (λb=>if b∈S then none else w b):=by
 have gS:∀ b∈S,G b=none:=λb hb=>r.wg b (by rw[hS b hb];simp);have st:zbA G H w (λb=>if b∈S then H b else G b) H (λb=>if b∈S then none else w b):=by
  refine ⟨λb o e=>?_,λb o e=>?_,λb o e _=>e,λb e=>?_,λ_ e=>e⟩
  ·have:b∉S:=λz=>by rw[gS b z] at e;cases e
   simp[this,e]
  ·by_cases hb:b∈S
   ·exact .inr (.inr (by rw[hS b hb];simp))
   ·simp[hb] at e;exact .inl (by rw[e];simp)
  ·by_cases hb:b∈S
   ·simp[hb] at e
   ·simp[hb] at e;exact .inl e
 refine ⟨⟨λb o e=>?_,λb e=>?_,λb e=>?_,by simpa using r.len,λj b e=>?_,r.en.trans st,r.pin⟩,st⟩
 ·by_cases hb:b∈S
  ·simp[hb] at e;exact e
  ·simp[hb] at e;exact r.gh b o e
 ·by_cases hb:b∈S
  ·simp[hb] at e
  ·simp[hb] at e ⊢;exact r.wg b e
 ·by_cases hb:b∈S
  ·simp[hb] at e
  ·simp[hb] at e;exact r.wh b e
 ·by_cases hj:j=i
  ·subst hj;rw[List.getElem?_set_self (List.getElem?_eq_some_iff.mp hi).1] at e;cases e;exact ⟨v,hv,hr⟩
  ·rw[List.getElem?_set_ne (Ne.symm hj)] at e;obtain ⟨v',h1,h2⟩:=r.sl j b e;refine ⟨v',h1,h2.grow st.g λa o e1 e2=>⟨e2,?_⟩⟩;have:a∉S:=λz=>by rw[hS a z] at e1;exact hj (waA e1).symm
   simp[this,e1]
end
def zab(i:Nat):De:=λZ=>match Z[i]? with
 |some (some (.val d))=>.ok (d,Z)
 |_=>.no
def zfl(i:Nat):De:=λZ=>match Z[i]? with
 |some (some (.val d))=>.ok (d,Z)
 |some (some (.own ds))=>.ok (.lst ds,Z.set i (some (.val (.lst ds))))
 |some (some (.own2 dss))=>.ok (.lst (dss.map .lst),Z.set i (some (.val (.lst (dss.map .lst)))))
 |_=>.no
theorem zic{K:W.Frag}{G:Hp}:∀{as:List Addr}{dss:List (List Dt)},Paired (λb ds=>∃ vs,G b=some (.lst vs)/\za4 K G ds vs) as dss->za4 K G (dss.map .lst) (as.map V.ref)
 |_,_,.nil=>za4.nil
 |a::as,ds::dss,.cons ⟨vs,h1,h2⟩ t=>za4.cons (by unfold Rep;exact ⟨a,vs,rfl,h1,h2⟩) (zic t)
theorem zdP{α β:Type}{F:α->β->Prop}:∀{l₁:List α}{l₂:List β},Paired F l₁ l₂->∀ a∈l₁,∃ b,F a b
 |_,_,.cons r t,a,h=>by
  rcases wap.mp h with rfl|h
  ·exact ⟨_,r⟩
  ·exact zdP t a h
theorem zbJ{α β:Type}{F F':α->β->Prop}:∀{l₁:List α}{l₂:List β},Paired F l₁ l₂->(∀ a b,a∈l₁->F a b->F' a b)->Paired F' l₁ l₂
 |_,_,.nil,_=>.nil
 |_,_,.cons r t,f=>.cons (f _ _ wau r) (zbJ t λa b h=>f a b (wah _ h))
section
variable{X:Cx}{C:Cn}
theorem zaa(i:Nat){x:Str}{pos:Pos}(hN:X.N[i]? = some x:=by rfl)(hv:Vis X.env.scope x:=by exact xwV)(hd:(x == ("__debug__" : Str))=false:=by decide)
  (hcd:(x == ("__classdict__" : Str))=false:=by decide):JE X C (.Name x pos) (zab i):=(zdk hN hv hd hcd).weak λY H Q ⟨G,w,Z,r,p⟩=>by
 unfold zab at p;split at p
 ·rename_i d e;obtain ⟨v,h1,h2⟩:=r.sl i _ e;exact ⟨v,h1,p v G H w (.refl _ _ _) r h2⟩
 ·exact p.elim
theorem zeE(i:Nat){x:Str}{pos:Pos}(hN:X.N[i]? = some x:=by rfl)(hv:Vis X.env.scope x:=by exact xwV)(hd:(x == ("__debug__" : Str))=false:=by decide)
  (hcd:(x == ("__classdict__" : Str))=false:=by decide):JE X C (.Name x pos) (zfl i):=(zdk hN hv hd hcd).weak λY H Q ⟨G,w,Z,r,p⟩=>by
 unfold zfl at p;split at p
 ·rename_i d e;obtain ⟨v,h1,h2⟩:=r.sl i _ e;exact ⟨v,h1,p v G H w (.refl _ _ _) r h2⟩
 ·rename_i ds e;obtain ⟨v,h1,a,vs,rfl,h2,h3,h4⟩:=r.sl i _ e;have hr:Rep X.K (λb=>if b∈[a] then H b else G b) (.lst ds) (.ref a):=by
   unfold Rep;refine ⟨a,vs,rfl,(by simp[h3]),za4.same (λb o e=>?_) h4⟩;have:b≠a:=λz=>by subst z;rw[r.wg b (by rw[h2];simp)] at e;cases e
   simp[this,e]
  obtain ⟨r',s'⟩:=r.freeze [a] (λb hb=>by simp at hb;subst hb;exact h2) e h1 hr;exact ⟨_,h1,p _ _ _ _ s' r' hr⟩
 ·rename_i dss e;obtain ⟨v,h1,a,as,rfl,h2,h3,h4,h5⟩:=r.sl i _ e;have hS:∀ b∈a::as,w b=some i:=λb hb=>by
   rcases wap.mp hb with rfl|hb
   ·exact h2
   ·obtain ⟨_,z,_⟩:=zdP h5 b hb;exact z
  have sg:zd8 G (λb=>if b∈a::as then H b else G b):=λb o e=>by
   have:b∉a::as:=λz=>by rw[r.wg b (by rw[hS b z];simp)] at e;cases e
   simp only[this,if_false];exact e
  have hr:Rep X.K (λb=>if b∈a::as then H b else G b) (.lst (dss.map .lst)) (.ref a):=by unfold Rep;refine ⟨a,as.map V.ref,rfl,(by simp[h3]),zic (zbJ h5 λb ds hb ⟨q1,vs,q2,q3⟩=>⟨vs,?_,za4.same sg q3⟩)⟩;simp[hb,q2]
  obtain ⟨r',s'⟩:=r.freeze (a::as) hS e h1 hr;exact ⟨_,h1,p _ _ _ _ s' r' hr⟩
 ·exact p.elim
def dC(d:Dt):De:=λZ=>.ok (d,Z)
theorem zam{i j pos}:JE X C (.Constant (.int i) j pos) (dC (.int i)):=PE.weak ztC λY H Q ⟨G,w,Z,r,p⟩=>p _ G H w (.refl _ _ _) r (by unfold Rep;rfl)
theorem zik{b j pos}:JE X C (.Constant (.bool b) j pos) (dC (.bl b)):=PE.weak zyo λY H Q ⟨G,w,Z,r,p⟩=>p _ G H w (.refl _ _ _) r (by unfold Rep;rfl)
theorem zja{j pos}:JE X C (.Constant .none j pos) (dC .non):=PE.weak zvR λY H Q ⟨G,w,Z,r,p⟩=>p _ G H w (.refl _ _ _) r (by unfold Rep;rfl)
theorem zfV{x j pos}:JE X C (.Constant (.str x) j pos) (dC (.str x)):=PE.weak zx1 λY H Q ⟨G,w,Z,r,p⟩=>p _ G H w (.refl _ _ _) r (by unfold Rep;rfl)
theorem zbG{x:Str}{i:Int}{t:Tok}{pos:Pos}(hg:Gl X x)(hm:X.mg x=some (.int i t))(hd:(x == ("__debug__" : Str))=false:=by decide):JE X C (.Name x pos) (dC (.int i)) :=
 (zpM (v:=.int i) hg hm ⟨t,rfl⟩ hd).weak λY H Q ⟨G,w,Z,r,p⟩=>p _ G H w (.refl _ _ _) r (by unfold Rep;rfl)
def dOp(g:Dt->Dt->R Dt)(fa fb:De):De:=λZ=>(fa Z).bind λa=>(fb a.2).bind λb=>(g a.1 b.1).bind λz=>.ok (z,b.2)
def Op2(K:W.Frag)(r:R2)(g:Dt->Dt->R Dt):Prop:=∀(G H:Hp)(x y:V)(dx dy z:Dt)(Q:VK),zd8 G H->Rep K G dx x->Rep K G dy y->g dx dy=.ok z ->
 (∀ v G' H',ze6 G H G' H'->Rep K G' z v->Q v H')->r x y H Q
def zmw(g:Dt->Dt->R Dt):Prop:=∀ x y n,g x y≠.er n
variable{a b:Expr}{fa fb:De}{pos:Pos}
theorem zjQ{r:R2}{g:Dt->Dt->R Dt}{Y:L2.St}{H:Hp}{Q:VK}(h2:Op2 X.K r g)(he:zmw g)(h:tE X.K C (dOp g fa fb) Y H Q):tOp r (tE X.K C fa) (tE X.K C fb) Y H Q:=by
 obtain ⟨G,w,Z,rr,p⟩:=h;refine ze4 (κ:=λG H w=>kE X.K C Y Q G H w) zcr rr p λd Z1 v G1 H1 w1 r1 s1 q1 p1=>?_;refine ze4 (κ:=λG H w=>kE X.K C Y Q G H w) zcr r1 p1 λd2 Z2 v2 G2 H2 w2 r2 s2 q2 p2=>?_;cases e:g d d2 with
 |ok z =>
  simp only[e,R.bind_ok] at p2;refine h2 G2 H2 v v2 d d2 z Q r2.gh (q1.same s2.g) q2 e λv3 G3 H3 gr q3=>?_;exact p2 v3 G3 H3 w2 gr.step (r2.grow gr) q3
 |er n=>exact absurd e (he _ _ _)
 |no=>simp only[e,R.bind_no] at p2;exact p2.elim
theorem zin{op:Operator}{r:R2}{g:Dt->Dt->R Dt}(ho:OpR X (binaryOp op) r)(h2:Op2 X.K r g)(he:zmw g)(ha:JE X C a fa)(hb:JE X C b fb):JE X C (.BinOp a op b pos) (dOp g fa fb) :=
 (zuz ho ha hb).weak λY H Q h=>zjQ h2 he h
theorem zsJ{op:CmpOp}{r:R2}{g:Dt->Dt->R Dt}(ho:OpR X (compareOp op) r)(h2:Op2 X.K r g)(he:zmw g)(ha:JE X C a fa)(hb:JE X C b fb)(hm:behindInMarks op b=false):JE X C (.Compare a [op] [b] pos) (dOp g fa fb) :=
 (ztU ho ha hb hm).weak λY H Q h=>zjQ h2 he h
def dTB(f:De):DT:=λZ=>(f Z).bind λa=>match a.1 with
 |.bl b=>.ok (b,a.2)
 |_=>.no
theorem zet{K:W.Frag}{G:Hp}{b:Bool}{v:V}(h:Rep K G (.bl b) v):v=.bl b:=by unfold Rep at h;exact h
theorem zaz{K:W.Frag}{G:Hp}{b:Int}{v:V}(h:Rep K G (.int b) v):v=.int b:=by unfold Rep at h;exact h
theorem zgx{K:W.Frag}{G:Hp}{b:Str}{v:V}(h:Rep K G (.str b) v):v=.str b:=by unfold Rep at h;exact h
theorem zh3{K:W.Frag}{G:Hp}{v:V}(h:Rep K G .non v):v=.non:=by unfold Rep at h;exact h
theorem zeX{K:W.Frag}{G:Hp}{l:List Dt}{v:V}(h:Rep K G (.tup l) v):∃ a vs,v=.ref a/\zjo K G a vs/\za4 K G l vs:=by unfold Rep at h;exact h
theorem zb4{K:W.Frag}{G:Hp}{l:List Dt}{v:V}(h:Rep K G (.tup l) v):∃ a vs,v=.ref a/\SqT K G a vs/\za4 K G l vs:=by obtain ⟨a,vs,h1,h2,h3⟩:=zeX h;exact ⟨a,vs,h1,h2.sq,h3⟩
theorem zaR{K:W.Frag}{G:Hp}{l:List Dt}{v:V}(h:Rep K G (.lst l) v):∃ a vs,v=.ref a/\G a=some (.lst vs)/\za4 K G l vs:=by unfold Rep at h;exact h
theorem zj7{f:De}{Y:L2.St}{H:Hp}{Q:Bool->Hp->Prop}(h:tT X.K C (dTB f) Y H Q):tE X.K C f Y H λx H'=>∃ k,x=.bl k/\Q k H':=by
 obtain ⟨G,w,Z,r,p⟩:=h;refine ze4 (κ:=λG H w=>kT X.K C Y Q G H w) zqo r p λd Z1 v G1 H1 w1 r1 s1 q1 p1=>?_;cases d with
 |bl b=>exact ⟨b,zet q1,p1 G1 H1 w1 (.refl _ _ _) r1⟩
 |_=>exact p1.elim
theorem zhA{op:CmpOp}{r:R2}{g:Dt->Dt->R Dt}(ho:OpR X (compareOp op) r)(h2:Op2 X.K r g)(he:zmw g)(ha:JE X C a fa)(hb:JE X C b fb)(hm:behindInMarks op b=false):JT X C (.Compare a [op] [b] pos) (dTB (dOp g fa fb)) :=
 (zm8 ho ha hb hm).weak λY H Q h=>by have h':=zj7 h;exact zjQ h2 he h'
theorem zez{e:Expr}{f:De}(h:JE X C e f)(he:∀ whole,isTrue e X.env whole=(do let v <- whole;standAt e.pos;holding [v] (truthy v)):=by intro _;rfl):JT X C e (dTB f) :=
 (zvU h he).weak λY H Q h=>zj7 h
def zhX(f:DT):DT:=λZ=>(f Z).bind λa=>.ok (!a.1,a.2)
def zlZ(f g:DT):DT:=λZ=>(f Z).bind λa=>if a.1=true then g a.2 else .ok (false,a.2)
def zo3(f g:DT):DT:=λZ=>(f Z).bind λa=>if a.1=true then .ok (true,a.2) else g a.2
variable{tA tB':DT}{zbV:List Expr}
theorem znh(ha:JT X C a tA):JT X C (.UnaryOp .Not a pos) (zhX tA):=(zvA ha).weak λY H Q ⟨G,w,Z,r,p⟩ =>
 zv6 (κ:=λG H w=>kT X.K C Y Q G H w) zqo r p λb Z1 G1 H1 w1 r1 s1 p1=>p1 G1 H1 w1 (.refl _ _ _) r1
theorem zu2(ha:JT X C a tA):JW X C (.BoolOp .And [a] pos) tA:=zug ha
theorem zqF(ha:JT X C a tA):JW X C (.BoolOp .Or [a] pos) tA:=zwD ha
theorem zwj(ha:JT X C a tA)(hb:JW X C (.BoolOp .And (b::zbV) pos) tB'):JW X C (.BoolOp .And (a::b::zbV) pos) (zlZ tA tB'):=(zxs ha hb).weak λY H Q ⟨G,w,Z,r,p⟩=>by
 refine zv6 (κ:=λG H w=>kT X.K C Y Q G H w) zqo r p λb Z1 G1 H1 w1 r1 s1 p1=>?_;cases b with
 |true=>exact ⟨G1,w1,Z1,r1,p1⟩
 |false=>exact p1 G1 H1 w1 (.refl _ _ _) r1
theorem zrV(ha:JT X C a tA)(hb:JW X C (.BoolOp .Or (b::zbV) pos) tB'):JW X C (.BoolOp .Or (a::b::zbV) pos) (zo3 tA tB'):=(zxX ha hb).weak λY H Q ⟨G,w,Z,r,p⟩=>by
 refine zv6 (κ:=λG H w=>kT X.K C Y Q G H w) zqo r p λb Z1 G1 H1 w1 r1 s1 p1=>?_;cases b with
 |true=>exact p1 G1 H1 w1 (.refl _ _ _) r1
 |false=>exact ⟨G1,w1,Z1,r1,p1⟩
theorem JW.jt{e:Expr}{f:DT}(h:JW X C e f):JT X C e f:=PW.pt h
def zw8(fa fb:De):De:=λZ=>(fa Z).bind λa=>match a.1 with
 |.bl true=>fb a.2
 |.bl false=>.ok (.bl false,a.2)
 |_=>.no
def dOr(fa fb:De):De:=λZ=>(fa Z).bind λa=>match a.1 with
 |.bl true=>.ok (.bl true,a.2)
 |.bl false=>fb a.2
 |_=>.no
def zxA(fa:De):De:=λZ=>(fa Z).bind λa=>match a.1 with
 |.bl b=>.ok (.bl (!b),a.2)
 |_=>.no
theorem zqG{op}{f:De}(h:JE X C a f):JE X C (.BoolOp op [a] pos) f:=zwJ h
theorem zsX(ha:JE X C a fa)(hb:JE X C (.BoolOp .And (b::zbV) pos) fb):JE X C (.BoolOp .And (a::b::zbV) pos) (zw8 fa fb):=(zvX ha hb).weak λY H Q ⟨G,w,Z,r,p⟩=>by
 refine ze4 (κ:=λG H w=>kE X.K C Y Q G H w) zcr r p λd Z1 v G1 H1 w1 r1 s1 q1 p1=>?_;cases d with
 |bl b =>
  refine ⟨b,zet q1,?_⟩;cases b with
  |true=>exact ⟨G1,w1,Z1,r1,p1⟩
  |false=>exact p1 _ G1 H1 w1 (.refl _ _ _) r1 (by unfold Rep;rfl)
 |_=>exact p1.elim
theorem zyq(ha:JE X C a fa)(hb:JE X C (.BoolOp .Or (b::zbV) pos) fb):JE X C (.BoolOp .Or (a::b::zbV) pos) (dOr fa fb):=(zxU ha hb).weak λY H Q ⟨G,w,Z,r,p⟩=>by
 refine ze4 (κ:=λG H w=>kE X.K C Y Q G H w) zcr r p λd Z1 v G1 H1 w1 r1 s1 q1 p1=>?_;cases d with
 |bl b =>
  refine ⟨b,zet q1,?_⟩;cases b with
  |true=>exact p1 _ G1 H1 w1 (.refl _ _ _) r1 (by unfold Rep;rfl)
  |false=>exact ⟨G1,w1,Z1,r1,p1⟩
 |_=>exact p1.elim
theorem ztk(ha:JE X C a fa):JE X C (.UnaryOp .Not a pos) (zxA fa):=(zwh ha).weak λY H Q ⟨G,w,Z,r,p⟩=>by
 refine ze4 (κ:=λG H w=>kE X.K C Y Q G H w) zcr r p λd Z1 v G1 H1 w1 r1 s1 q1 p1=>?_;cases d with
 |bl b=>exact ⟨b,zet q1,p1 _ G1 H1 w1 (.refl _ _ _) r1 (by unfold Rep;rfl)⟩
 |_=>exact p1.elim
def zk7(t:DT)(fa fb:De):De:=λZ=>(t Z).bind λc=>if c.1=true then fa c.2 else fb c.2
theorem ziC{c:Expr}(hc:JT X C c tA)(ha:JE X C a fa)(hb:JE X C b fb):JE X C (.IfExp c a b pos) (zk7 tA fa fb):=(zs5 hc ha hb).weak λY H Q ⟨G,w,Z,r,p⟩=>by
 refine zv6 (κ:=λG H w=>kE X.K C Y Q G H w) zcr r p λb Z1 G1 H1 w1 r1 s1 p1=>?_;cases b with
 |true=>exact ⟨G1,w1,Z1,r1,p1⟩
 |false=>exact ⟨G1,w1,Z1,r1,p1⟩
abbrev DA:=Ev->R (List Dt×Ev)
def kA(K:W.Frag)(C:Cn)(Y:L2.St)(Q:List V->Hp->Prop)(G H:Hp)(w:Wn)(a:List Dt×Ev):Prop :=
 ∀ vs G' H' w',zbA G H w G' H' w'->Rel K C G' w' a.2 Y H'->za4 K G' a.1 vs->Q vs H'
theorem zwe{K:W.Frag}{Y:L2.St}{Q:List V->Hp->Prop}:Stp (λG H w=>kA K C Y Q G H w):=λ_ _ _ _ _ _ _ s k v G' H' w' s'=>k v G' H' w' (s.trans s')
def tAd(K:W.Frag)(C:Cn)(f:DA):TA:=λY H Q=>∃ G w Z,Rel K C G w Z Y H/\zcD C.ex (kA K C Y Q G H w) (f Z)
abbrev JA(X:Cx)(C:Cn)(es:List Expr)(f:DA):Prop:=PA X es (tAd X.K C f)
def dA0:DA:=λZ=>.ok ([],Z)
def dA(fa:De)(fr:DA):DA:=λZ=>(fa Z).bind λa=>(fr a.2).bind λb=>.ok (a.1::b.1,b.2)
theorem zvW{K:W.Frag}{Y:L2.St}{α:Type}{κ:zr8 α}(st:Stp κ){G H:Hp}{w:Wn}{Z:Ev}{fa:DA}{g:List Dt×Ev->R α}{Q:List V->Hp->Prop}(r:Rel K C G w Z Y H)(p:zcD C.ex (κ G H w) ((fa Z).bind g))
  (k:∀ ds Z1 vs G1 H1 w1,Rel K C G1 w1 Z1 Y H1->zbA G H w G1 H1 w1->za4 K G1 ds vs->zcD C.ex (κ G1 H1 w1) (g (ds,Z1))->Q vs H1):tAd K C fa Y H Q:=by
 refine ⟨G,w,Z,r,?_⟩;cases e:fa Z with
 |ok a =>
  rw[e] at p;intro v G' H' w' s' r' q;exact k a.1 a.2 v G' H' w' r' s' q (zcD.step st s' p)
 |er n=>rw[e] at p;exact p
 |no=>rw[e] at p;exact p
theorem za2:JA X C [] dA0:=PA.weak zcY λY H Q ⟨G,w,Z,r,p⟩=>p _ G H w (.refl _ _ _) r za4.nil
theorem zao{e:Expr}{es:List Expr}{fr:DA}(ha:JE X C e fa)(hr:JA X C es fr)(hs:starEach (e::es) X.env=(false,eval e X.env)::starEach es X.env:=by rfl):JA X C (e::es) (dA fa fr) :=
 (zbj ha hr hs).weak λY H Q ⟨G,w,Z,r,p⟩=>by refine ze4 (κ:=λG H w=>kA X.K C Y Q G H w) zwe r p λd Z1 v G1 H1 w1 r1 s1 q1 p1=>?_;refine zvW (κ:=λG H w=>kA X.K C Y Q G H w) zwe r1 p1 λds Z2 vs G2 H2 w2 r2 s2 q2 p2=>?_;exact p2 _ G2 H2 w2 (.refl _ _ _) r2 (za4.cons (q1.same s2.g) q2)
def zhl{α:Type}(l:List α):Bool:=decide (l.length<=16777216)
def zfp(f:DA):De:=λZ=>(f Z).bind λa=>if zhl a.1=true then .ok (.tup a.1,a.2) else .no
def zdg(f:DA):DN:=λZ=>(f Z).bind λa=>if zhl a.1=true then .ok (a.1,a.2) else .no
theorem zjr{α:Type}{l:List α}(h:zhl l=true):l.length<=sizeLine:=by have:=of_decide_eq_true h;rw[show sizeLine=16777216 from by decide];exact this
theorem zdn{x1}{es:List Expr}{f:DA}(h:JA X C es f):JE X C (.Tuple es x1 pos) (zfp f):=(ztx h).weak λY H Q ⟨G,w,Z,r,p⟩=>by
 refine zvW (κ:=λG H w=>kE X.K C Y Q G H w) zcr r p λds Z1 vs G1 H1 w1 r1 s1 q1 p1=>?_;by_cases hf:zhl ds=true
 ·simp only[hf,if_true] at p1;refine ⟨by rw[<- q1.length];exact zjr hf,λa ha=>?_⟩;have gr:ze6 G1 H1 (upd G1 a (.tup vs)) (upd H1 a (.tup vs)):=.new r1.gh ha;exact p1 _ _ _ w1 gr.step (r1.grow gr) (by unfold Rep;exact ⟨a,vs,rfl,zjo.of zar,q1.same gr.g⟩)
 ·simp only[hf] at p1;exact p1.elim
theorem zb8{es:List Expr}{f:DA}(h:JA X C es f):JN X C (.List es pos) (zdg f):=(zxg h).weak λY H Q ⟨G,w,Z,r,p⟩=>by
 refine zvW (κ:=λG H w=>kN X.K C Y Q G H w) zfk r p λds Z1 vs G1 H1 w1 r1 s1 q1 p1=>?_;by_cases hf:zhl ds=true
 ·simp only[hf,if_true] at p1;refine ⟨by rw[<- q1.length];exact zjr hf,λa ha=>?_⟩;have gr:ze6 G1 H1 G1 (upd H1 a (.lst vs)):=.newH r1.gh ha;exact p1 a vs _ _ w1 gr.step (r1.grow gr) ha zar (r1.gh.free ha) (by
   cases z:w1 a with
   |none=>rfl
   |some k=>exact absurd ha (r1.wh a (by rw[z];simp))) q1
 ·simp only[hf] at p1;exact p1.elim
def dFz(f:DN):De:=λZ=>(f Z).bind λa=>.ok (.lst a.1,a.2)
theorem Rel.know{K:W.Frag}{Y:L2.St}{G H:Hp}{w:Wn}{Z:Ev}{p:Addr}{o:HO}(r:Rel K C G w Z Y H)(hp:H p=some o)(hg:G p=none)(hw:w p=none)(H0:Hp)(G0:Hp)(w0:Wn)(s:zbA G0 H0 w0 G H w)(h0:H0 p=none)
  (e0:C.H₀ p=none\/C.w₀ p≠none\/C.G₀ p≠none):Rel K C (upd G p o) w Z Y H/\zbA G0 H0 w0 (upd G p o) H w:=by
 have sg:zd8 G (upd G p o):=λb u e=>by rw[zat (zas e hg)];exact e
 have s1:∀{G1 H1:Hp}{w1:Wn},zbA G1 H1 w1 G H w->(H1 p=none\/w1 p≠none\/G1 p≠none)->zbA G1 H1 w1 (upd G p o) H w:=λs z=>by
  refine ⟨s.g.trans sg,λb u e=>?_,s.h,s.w,s.k⟩;by_cases hb:b=p
  ·subst hb;rcases z with z|z|z
   ·exact .inr (.inl z)
   ·exact .inr (.inr z)
   ·exact .inl z
  ·rw[zat hb] at e;exact s.fr b u e
 refine ⟨⟨λb u e=>?_,λb e=>?_,r.wh,r.len,λi b e=>?_,s1 r.en e0,r.pin⟩,s1 s (.inl h0)⟩
 ·by_cases hb:b=p
  ·subst hb;rw[zar] at e;cases e;exact hp
  ·rw[zat hb] at e;exact r.gh b u e
 ·by_cases hb:b=p
  ·subst hb;rw[hw] at e;exact absurd rfl e
  ·rw[zat hb];exact r.wg b e
 ·obtain ⟨v,h1,h2⟩:=r.sl i b e;exact ⟨v,h1,h2.grow sg λ_ _ e1 e2=>⟨e2,e1⟩⟩
end
section
variable{X:Cx}{C:Cn}{a b e:Expr}{fa fb:De}{pos:Pos}
theorem za9{f:DN}(h:JN X C e f):JE X C e (dFz f):=PE.weak h λY H Q ⟨G,w,Z,r,p⟩=>by
 refine zyl (κ:=λG H w=>kE X.K C Y Q G H w) r p λds Z1 a vs G1 H1 w1 r1 s1 h0 h1 h2 h3 q1 p1=>?_;obtain ⟨r',s'⟩:=r1.know h1 h2 h3 H G w s1 h0 (.inl (r.en.k a h0));have sg:zd8 G1 (upd G1 a (.lst vs)):=λb u e=>by rw[zat (zas e h2)];exact e
 exact p1 _ _ _ _ s' r' (by unfold Rep;exact ⟨a,vs,rfl,zar,q1.same sg⟩)
def za3(f g:DS):DS:=λZ=>(f Z).bind λa=>match a.1 with
 |.nx=>g a.2
 |fl=>.ok (fl,a.2)
def dNx:DS:=λZ=>.ok (.nx,Z)
variable{st:Stmt}{zbV:List Stmt}{fs gs:DS}
theorem zaQ:JSs X C [] dNx:=PSs.weak zuD λD Y H ⟨G,w,Z,r,p⟩=>p Y G H w (.refl _ _ _) r
theorem zaf(h1:JS X C st fs)(h2:JSs X C zbV gs):JSs X C (st::zbV) (za3 fs gs):=PSs.weak (zs4 h1 h2) λD Y H ⟨G,w,Z,r,p⟩=>by
 refine ⟨G,w,Z,r,?_⟩;unfold za3 at p;cases e:fs Z with
 |ok x =>
  rw[e] at p;obtain ⟨fl,Z1⟩:=x;cases fl with
  |nx=>exact λY' G' H' w' s' r'=>⟨G',w',Z1,r',zcD.step zeJ s' p⟩
  |bk=>exact p
  |ct=>exact p
  |rt d=>exact p
 |er n=>rw[e] at p;exact p
 |no=>rw[e] at p;exact p
theorem zah(h1:JS X C st fs):JSs X C [st] fs:=ztP h1
def dEx(f:De):DS:=λZ=>(f Z).bind λa=>.ok (.nx,a.2)
theorem zci(he:JE X C e fa)(hs:swapsWith e none pos.line X.env=pure false:=by rfl):JS X C (.Expr e pos) (dEx fa):=PS.weak (zvz he hs) λD Y H ⟨G,w,Z,r,p⟩ =>
 ze4 (κ:=λG H w=>kS X.K C D G H w) zeJ r p λd Z1 v G1 H1 w1 r1 s1 q1 p1=>p1 Y G1 H1 w1 (.refl _ _ _) r1
def zbt(f:De):DS:=λZ=>(f Z).bind λa=>.ok (.rt a.1,a.2)
theorem zaA(hn:C.nw=false)(he:JE X C e fa):JS X C (.Return (some e) pos) (zbt fa):=PS.weak (zsL he) λD Y H ⟨G,w,Z,r,p⟩ =>
 ze4 (κ:=λG H w=>kS X.K C D G H w) zeJ r p λd Z1 v G1 H1 w1 r1 s1 q1 p1=>p1 v Y G1 H1 w1 (.refl _ _ _) r1 (by rw[hn];exact q1)
def ze5(f:DN):DS:=λZ=>(f Z).bind λa=>.ok (.rt (.lst a.1),a.2)
theorem zd6{f:DN}(hn:C.nw=true)(he:JN X C e f):JS X C (.Return (some e) pos) (ze5 f):=PS.weak (zsL he) λD Y H ⟨G,w,Z,r,p⟩ =>
 zyl (κ:=λG H w=>kS X.K C D G H w) r p λds Z1 a vs G1 H1 w1 r1 s1 h0 h1 h2 h3 q1 p1=>p1 _ Y G1 H1 w1 s1 r1 (by rw[hn];exact ⟨ds,a,vs,rfl,rfl,r.en.k a h0,h1,h2,h3,q1⟩)
def dIf(c:DT)(f g:DS):DS:=λZ=>(c Z).bind λb=>if b.1=true then f b.2 else g b.2
theorem zcd{c:Expr}{A B:List Stmt}{tc:DT}(hc:JT X C c tc)(ha:JSs X C A fs)(hb:JSs X C B gs):JS X C (.If c A B pos) (dIf tc fs gs):=PS.weak (zyg hc ha hb) λD Y H ⟨G,w,Z,r,p⟩=>by
 refine zv6 (κ:=λG H w=>kS X.K C D G H w) zeJ r p λb Z1 G1 H1 w1 r1 s1 p1=>?_;cases b with
 |true=>exact ⟨G1,w1,Z1,r1,p1⟩
 |false=>exact ⟨G1,w1,Z1,r1,p1⟩
theorem Rel.setVal{K:W.Frag}{Y:L2.St}{G H:Hp}{w:Wn}{Z:Ev}{i:Nat}{d:Dt}{v:V}(r:Rel K C G w Z Y H)(hi:i < Z.length)(hp:i∉C.pp)(h:Rep K G d v):Rel K C G w (Z.set i (some (.val d))) (Y.set i (some v)) H:=by
 refine ⟨r.gh,r.wg,r.wh,by simpa using r.len,λj b e=>?_,r.en,λj hj=>?_⟩
 ·by_cases hj:j=i
  ·subst hj;rw[List.getElem?_set_self hi] at e;cases e;exact ⟨v,way (by rw[<- r.len];exact hi),h⟩
  ·rw[List.getElem?_set_ne (Ne.symm hj)] at e;obtain ⟨v',h1,h2⟩:=r.sl j b e;exact ⟨v',by rw[List.getElem?_set_ne (Ne.symm hj)];exact h1,h2⟩
 ·have:i≠j:=λz=>hp (z ▸ hj);rw[List.getElem?_set_ne this];exact r.pin j hj
theorem Rel.setOwn{K:W.Frag}{Y:L2.St}{G0 H0:Hp}{w0:Wn}{G H:Hp}{w:Wn}{Z:Ev}{i:Nat}{ds:List Dt}{p:Addr}{vs:List V}(r:Rel K C G w Z Y H)(hi:i < Z.length)(hpp:i∉C.pp)(hp:H p=some (.lst vs))(hg:G p=none)(hw:w p=none)
  (q:za4 K G ds vs) (s:zbA G0 H0 w0 G H w) (h0:H0 p=none) (en0:C.H₀ p=none) :
  Rel K C G (λb=>if b=p then some i else w b) (Z.set i (some (.own ds))) (Y.set i (some (.ref p))) H/\zbA G0 H0 w0 G H (λb=>if b=p then some i else w b):=by
 have s1:∀{G1 H1:Hp}{w1:Wn},zbA G1 H1 w1 G H w->H1 p=none->zbA G1 H1 w1 G H (λb=>if b=p then some i else w b):=λs z=>by
  refine ⟨s.g,s.fr,s.h,λb e=>?_,s.k⟩;by_cases hb:b=p
  ·subst hb;exact .inr z
  ·simp[hb] at e;exact s.w b e
 refine ⟨⟨r.gh,λb e=>?_,λb e=>?_,by simpa using r.len,λj b e=>?_,s1 r.en en0,λj hj=>?_⟩,s1 s h0⟩
 ·by_cases hb:b=p
  ·subst hb;exact hg
  ·simp[hb] at e;exact r.wg b e
 ·by_cases hb:b=p
  ·subst hb;rw[hp];simp
  ·simp[hb] at e;exact r.wh b e
 ·by_cases hj:j=i
  ·subst hj;rw[List.getElem?_set_self hi] at e;cases e;exact ⟨_,way (by rw[<- r.len];exact hi),p,vs,rfl,xws,hp,q⟩
  ·rw[List.getElem?_set_ne (Ne.symm hj)] at e;obtain ⟨v',h1,h2⟩:=r.sl j b e;refine ⟨v',by rw[List.getElem?_set_ne (Ne.symm hj)];exact h1,h2.grow (.refl _) λa o e1 e2=>⟨e2,?_⟩⟩;have:a≠p:=λz=>by subst z;rw[hw] at e1;cases e1
   simp[this,e1]
 ·have:i≠j:=λz=>hpp (z ▸ hj);rw[List.getElem?_set_ne this];exact r.pin j hj
def zbi(i:Nat)(f:De):DS:=λZ=>(f Z).bind λa=>if i<a.2.length then .ok (.nx,a.2.set i (some (.val a.1))) else .no
theorem zaP{i:Nat}{x:Str}{pos':Pos}(hN:X.N.Nodup)(hi:X.N[i]? = some x)(hx:Loc X.env.scope x)(hp:i∉C.pp)(he:JE X C e fa)(hs:swapsWith e (some (.Name x pos')) pos.line X.env=pure false:=by rfl)
  (hf:X.fn x=true\/X.env.scope.names.lookup x=some .local:=by exact xwA):JS X C (.Assign [.Name x pos'] e pos) (zbi i fa) :=
 PS.weak (ztj hN hi hx he hs) λD Y H ⟨G,w,Z,r,p⟩=>by
  refine ze4 (κ:=λG H w=>kS X.K C D G H w) zeJ r p λd Z1 v G1 H1 w1 r1 s1 q1 p1=>?_;by_cases hl:i < Z1.length
  ·simp only[hl,if_true] at p1;exact p1 _ G1 H1 w1 (.refl _ _ _) (r1.setVal hl hp q1)
  ·simp only[hl,if_false] at p1;exact p1.elim
def zck(i:Nat)(f:DN):DS:=λZ=>(f Z).bind λa=>if i<a.2.length then .ok (.nx,a.2.set i (some (.own a.1))) else .no
theorem zcZ{i:Nat}{x:Str}{pos':Pos}{f:DN}(hN:X.N.Nodup)(hi:X.N[i]? = some x)(hx:Loc X.env.scope x)(hp:i∉C.pp)(he:JN X C e f)(hs:swapsWith e (some (.Name x pos')) pos.line X.env=pure false:=by rfl)
  (hf:X.fn x=true\/X.env.scope.names.lookup x=some .local:=by exact xwA):JS X C (.Assign [.Name x pos'] e pos) (zck i f) :=
 PS.weak (ztj hN hi hx he hs) λD Y H ⟨G,w,Z,r,p⟩=>by
  refine zyl (κ:=λG H w=>kS X.K C D G H w) r p λds Z1 a vs G1 H1 w1 r1 s1 h0 h1 h2 h3 q1 p1=>?_;by_cases hl:i < Z1.length
  ·simp only[hl,if_true] at p1;obtain ⟨r',s'⟩:=r1.setOwn hl hp h1 h2 h3 q1 s1 h0 (r.en.k a h0);exact p1 _ _ _ _ s' r'
  ·simp only[hl,if_false] at p1;exact p1.elim
def zpQ(i:Nat)(fb:De):De:=λZ=>match Z[i]? with
 |some (some _)=>(fb Z).bind λb=>match b.2[i]?,b.1 with
  |some (some (.own ds)),.int k=>match atI ds k with
   |some d=>.ok (d,b.2)
   |none=>.no
  |_,_=>.no
 |_=>.no
theorem zjB{K:W.Frag}{G:Hp}{ds:List Dt}{vs:List V}{k:Int}{d:Dt}(h:za4 K G ds vs)(e:atI ds k=some d):∃ v,atI vs k=some v/\Rep K G d v:=by
 unfold atI at e ⊢;rw[<- h.length];cases q:ixN ds.length k with
 |none=>rw[q] at e;cases e
 |some j =>
  rw[q] at e;exact h.get e
theorem zhK(i:Nat){x:Str}{ps:Pos}(hN:X.N[i]? = some x:=by rfl)(hb:JE X C b fb)(hv:Vis X.env.scope x:=by exact xwV)(hd:(x == ("__debug__" : Str))=false:=by decide)
  (hcd:(x == ("__classdict__" : Str))=false:=by decide) (hs:zjC b:=by exact λ_ _=>rfl):JE X C (.Subscript (.Name x ps) b pos) (zpQ i fb) :=
 PE.weak (zuP zlP (zdk hN hv hd hcd) hb hs) λY H Q ⟨G,w,Z,r,p⟩=>by
  unfold zpQ at p;split at p
  ·rename_i b0 e0;obtain ⟨v0,h0,_⟩:=r.sl i b0 e0;refine ⟨v0,h0,?_⟩;refine ze4 (κ:=λG H w=>kE X.K C Y Q G H w) zcr r p λd Z1 v G1 H1 w1 r1 s1 q1 p1=>?_;dsimp only at p1;split at p1
   ·rename_i ds k e1;obtain ⟨v1,h1,a,vs,rfl,h2,h3,h4⟩:=r1.sl i _ e1;rw[h0] at h1;cases h1;split at p1
    ·rename_i d' e2;obtain ⟨v2,h5,h6⟩:=zjB h4 e2;exact ⟨a,vs,k,v2,rfl,zaz q1,SqL.of h3,h5,p1 v2 G1 H1 w1 (.refl _ _ _) r1 h6⟩
    ·exact p1.elim
   ·exact p1.elim
  ·exact p.elim
end
def zoC(K:W.Frag)(J:It)(G:Hp)(ds:List Dt):Prop:=∀(i:Nat)(G1 H:Hp),zd8 G G1->zd8 G1 H ->
 (∀ d,ds[i]? = some d->J.go i H/\∀ x H',J.yld i H x H'->∃ G2,ze6 G1 H G2 H'/\Rep K G2 d x)/\(ds.length<=i->J.stop i H)
def kI(K:W.Frag)(C:Cn)(Y:L2.St)(Q:It->Hp->Prop)(G H:Hp)(w:Wn)(a:List Dt×Ev):Prop :=
 ∀ J G' H' w',zbA G H w G' H' w'->Rel K C G' w' a.2 Y H'->zoC K J G' a.1->Q J H'
def tI(K:W.Frag)(C:Cn)(f:DA):TI:=λY H Q=>∃ G w Z,Rel K C G w Z Y H/\zcD C.ex (kI K C Y Q G H w) (f Z)
abbrev JI(X:Cx)(C:Cn)(tg iter:Expr)(f:DA):Prop:=PI X tg iter (tI X.K C f)
section
variable{X:Cx}{C:Cn}{tg iter:Expr}{fa:De}{pos:Pos}
theorem zx6{K:W.Frag}{Y:L2.St}{α:Type}{κ:zr8 α}(st:Stp κ){G H:Hp}{w:Wn}{Z:Ev}{fa:DA}{g:List Dt×Ev->R α}{Q:It->Hp->Prop}(r:Rel K C G w Z Y H)(p:zcD C.ex (κ G H w) ((fa Z).bind g))
  (k:∀ ds Z1 J G1 H1 w1,Rel K C G1 w1 Z1 Y H1->zbA G H w G1 H1 w1->zoC K J G1 ds->zcD C.ex (κ G1 H1 w1) (g (ds,Z1))->Q J H1):tI K C fa Y H Q:=by
 refine ⟨G,w,Z,r,?_⟩;cases e:fa Z with
 |ok a =>
  rw[e] at p;intro v G' H' w' s' r' q;exact k a.1 a.2 v G' H' w' r' s' q (zcD.step st s' p)
 |er n=>rw[e] at p;exact p
 |no=>rw[e] at p;exact p
theorem PI.or{t t':TI}(h:PI X tg iter t)(h':PI X tg iter t'):PI X tg iter (λY H Q=>t Y H Q\/t' Y H Q):=λpS s Y H Q I q=>q.elim (h pS s Y H Q I) (h' pS s Y H Q I)
theorem PI.weak{t t':TI}(h:PI X tg iter t)(k:∀ Y H Q,t' Y H Q->t Y H Q):PI X tg iter t':=λpS s Y H Q I q=>h pS s Y H Q I (k Y H Q q)
def dIt(f:De):DA:=λZ=>(f Z).bind λa=>match a.1 with
 |.lst l=>.ok (l,a.2)
 |.tup l=>.ok (l,a.2)
 |_=>.no
theorem zxp{K:W.Frag}{G:Hp}{a:Addr}{vs:List V}{ds:List Dt}(hs:SqT K G a vs)(q:za4 K G ds vs):zoC K (Itt K a) G ds:=λi G1 H s1 s2=>by refine ⟨λd e=>?_,λh=>⟨vs,zaK s2 (zaK s1 hs),by rw[<- q.length];exact h⟩⟩;obtain ⟨v,e1,e2⟩:=q.get e;refine ⟨⟨vs,v,zaK s2 (zaK s1 hs),e1⟩,λx H' y=>?_⟩;obtain ⟨rfl,y⟩:=y;have:=y vs (zaK s2 (zaK s1 hs));rw[e1] at this;cases this;exact ⟨G1,.refl s2,e2.same s1⟩
theorem zuZ{K:W.Frag}{G:Hp}{a:Addr}{vs:List V}{ds:List Dt}(hs:SqL K G a vs)(q:za4 K G ds vs):zoC K (Itl K a) G ds:=λi G1 H s1 s2=>by refine ⟨λd e=>?_,λh=>⟨vs,s2.seq (s1.seq hs),by rw[<- q.length];exact h⟩⟩;obtain ⟨v,e1,e2⟩:=q.get e;refine ⟨⟨vs,v,s2.seq (s1.seq hs),e1⟩,λx H' y=>?_⟩;obtain ⟨rfl,y⟩:=y;have:=y vs (s2.seq (s1.seq hs));rw[e1] at this;cases this;exact ⟨G1,.refl s2,e2.same s1⟩
theorem zcB(h:JE X C iter fa):JI X C tg iter (dIt fa):=PI.weak (PI.or (ztZ h) (zxq h)) λY H Q ⟨G,w,Z,r,p⟩=>by
 unfold dIt at p;cases e:fa Z with
 |ok x =>
  obtain ⟨d,Z1⟩:=x;cases d with
  |lst l =>
   rw[e] at p;refine .inl ⟨G,w,Z,r,?_⟩;rw[e];intro v G' H' w' s' r' q;obtain ⟨a,vs,rfl,h1,h2⟩:=zaR q;exact ⟨a,rfl,⟨vs,SqL.of (r'.gh _ _ h1)⟩,p _ G' H' w' s' r' (zuZ (SqL.of h1) h2)⟩
  |tup l =>
   rw[e] at p;refine .inr ⟨G,w,Z,r,?_⟩;rw[e];intro v G' H' w' s' r' q;obtain ⟨a,vs,rfl,h1,h2⟩:=zb4 q;exact ⟨a,rfl,⟨vs,zaK r'.gh h1⟩,p _ G' H' w' s' r' (zxp h1 h2)⟩
  |_=>rw[e] at p;exact p.elim
 |er n=>rw[e] at p;exact .inl ⟨G,w,Z,r,by rw[e];exact p⟩
 |no=>rw[e] at p;exact p.elim
def zdK(lo:Int)(n:Nat):List Dt:=(List.range n).map λk=>.int (lo+(k:Nat))
theorem ztD{K:W.Frag}{G:Hp}{lo:Int}{n:Nat}:zoC K (Itr lo n) G (zdK lo n):=λi G1 H s1 s2=>by
 refine ⟨λd e=>?_,λh=>show n<=i by simpa [zdK] using h⟩;unfold zdK at e;rw[List.getElem?_map] at e;by_cases hi:i<n
 ·rw[List.getElem?_range hi] at e;cases e;refine ⟨hi,λx H' y=>?_⟩;obtain ⟨rfl,rfl⟩:=y;exact ⟨G1,.refl s2,by unfold Rep;rfl⟩
 ·rw[List.getElem?_eq_none (by simpa using hi)] at e;cases e
def zdB(j:Int):Bool:=decide (-4611686018427387904<=j) && decide (j<4611686018427387904)
theorem zdz{j:Int}(h:zdB j=true):-(2 ^ 62)<=j/\j<2 ^ 62:=by unfold zdB at h;rw[Bool.and_eq_true] at h;have h1:=of_decide_eq_true h.1;have h2:=of_decide_eq_true h.2;lia
def zdM(fa:De):DA:=λZ=>(fa Z).bind λa=>match a.1 with
 |.int j=>if zdB j=true then .ok (zdK 0 j.toNat,a.2) else .no
 |_=>.no
def zuE(fa fb:De):DA:=λZ=>(fa Z).bind λa=>(fb a.2).bind λb=>match a.1,b.1 with
 |.int i,.int j=>if (zdB i && zdB j)=true then .ok (zdK i (j-i).toNat,b.2) else .no
 |_,_=>.no
theorem zde{e:Expr}{p ps:Pos}(hg:Gl X "range")(hm:X.mg "range"=none)(he:JE X C e fa)(hs:starEach [e] X.env=[(false,eval e X.env)]:=by rfl):JI X C tg (.Call (.Name "range" p) [e] [] ps) (zdM fa) :=
 PI.weak (zqm hg hm (zao he za2 (by rw[hs];rfl)) hs) λY H Q ⟨G,w,Z,r,p⟩=>by
  unfold zdM at p;refine ⟨G,w,Z,r,?_⟩;unfold dA dA0;cases e:fa Z with
  |ok x =>
   obtain ⟨d,Z1⟩:=x;rw[e] at p;intro vs G' H' w' s' r' q;obtain ⟨v,t,rfl,q1,q2⟩:=q.cons_inv;rw[q2.nil_inv];cases d with
   |int j =>
    simp only[R.bind_ok] at p;by_cases hj:zdB j=true
    ·simp only[hj,if_true] at p;exact ⟨j,by rw[zaz q1],(zdz hj).1,(zdz hj).2,p _ G' H' w' s' r' ztD⟩
    ·simp only[hj] at p;exact p.elim
   |_=>exact p.elim
  |er n=>rw[e] at p;exact p
  |no=>rw[e] at p;exact p
theorem zpc{e e':Expr}{fb:De}{p ps:Pos}(hg:Gl X "range")(hm:X.mg "range"=none)(he:JE X C e fa)(he':JE X C e' fb)(hs:starEach [e,e'] X.env=[(false,eval e X.env),(false,eval e' X.env)]:=by rfl)(hs2:starEach [e'] X.env=[(false,eval e' X.env)]:=by rfl) :
  JI X C tg (.Call (.Name "range" p) [e,e'] [] ps) (zuE fa fb) :=
 PI.weak (zpj hg hm (zao he (zao he' za2 (by rw[hs2];rfl)) (by rw[hs,hs2])) hs hs2) λY H Q ⟨G,w,Z,r,p⟩=>by
  unfold zuE at p;refine ⟨G,w,Z,r,?_⟩;unfold dA dA0;cases e:fa Z with
  |ok x =>
   obtain ⟨d,Z1⟩:=x;rw[e] at p;simp only[R.bind_ok] at p ⊢;cases e2:fb Z1 with
   |ok y =>
    obtain ⟨d2,Z2⟩:=y;rw[e2] at p;intro vs G' H' w' s' r' q;obtain ⟨v,t,rfl,q1,q2⟩:=q.cons_inv;obtain ⟨v2,t2,rfl,q3,q4⟩:=q2.cons_inv;rw[q4.nil_inv];simp only[R.bind_ok] at p;cases d with
    |int i =>
     cases d2 with
     |int j =>
      simp only at p;by_cases hj:(zdB i && zdB j)=true
      ·simp only[hj,if_true] at p;rw[Bool.and_eq_true] at hj;exact ⟨i,j,by rw[zaz q1,zaz q3],⟨(zdz hj.1).1,(zdz hj.1).2,(zdz hj.2).1,(zdz hj.2).2⟩,p _ G' H' w' s' r' ztD⟩
      ·simp only[hj] at p;exact p.elim
     |_=>exact p.elim
    |_=>exact p.elim
   |er n=>rw[e2] at p;exact p
   |no=>rw[e2] at p;exact p
  |er n=>rw[e] at p;exact p
  |no=>rw[e] at p;exact p
abbrev DG:=Dt->Ev->R Ev
def kG(K:W.Frag)(C:Cn)(Q:L2.St->Hp->Prop)(G H:Hp)(w:Wn)(Z:Ev):Prop :=
 ∀ Y' G' H' w',zbA G H w G' H' w'->Rel K C G' w' Z Y' H'->Q Y' H'
def tG(K:W.Frag)(C:Cn)(g:DG):TG:=λv Y H Q=>∃ G w Z d,Rel K C G w Z Y H/\Rep K G d v/\zcD C.ex (kG K C Q G H w) (g d Z)
abbrev JG(X:Cx)(C:Cn)(tg:Expr)(g:DG):Prop:=PG X tg (tG X.K C g)
theorem PG.weak{t t':TG}(h:PG X tg t)(k:∀ v Y H Q,t' v Y H Q->t v Y H Q):PG X tg t':=λpS s Y H v u Q I r q=>h pS s Y H v u Q I r (k v Y H Q q)
def zb7(i:Nat):DG:=λd Z=>if i < Z.length then .ok (Z.set i (some (.val d))) else .no
theorem zaV{i:Nat}{x:Str}(hN:X.N.Nodup)(hi:X.N[i]? = some x)(hx:Loc X.env.scope x)(hp:i∉C.pp)(hf:X.fn x=true\/X.env.scope.names.lookup x=some .local:=by exact xwA):JG X C (.Name x pos) (zb7 i) :=
 PG.weak (zmF hN hi hx hf) λv Y H Q ⟨G,w,Z,d,r,q,p⟩=>by
  unfold zb7 at p;by_cases hl:i < Z.length
  ·simp only[hl,if_true] at p;exact p _ G H w (.refl _ _ _) (r.setVal hl hp q)
  ·simp only[hl,if_false] at p;exact p.elim
def zgo(i j:Nat):DG:=λd Z=>match d with
 |.tup [a,b]=>if i < Z.length/\j < Z.length then .ok ((Z.set i (some (.val a))).set j (some (.val b))) else .no
 |_=>.no
theorem zqN{i j k:Nat}{x y:Str}{p1 p2:Pos}(hc:X.calm=true)(hN:X.N.Nodup)(hi:X.N[i]? = some x)(hj:X.N[j]? = some y)(hx:Loc X.env.scope x)(hy:Loc X.env.scope y)(hp:i∉C.pp)(hq:j∉C.pp)
  (hf:X.fn x=true\/X.env.scope.names.lookup x=some .local:=by exact xwA) (hf2:X.fn y=true\/X.env.scope.names.lookup y=some .local:=by exact xwA)
  (hs1:(assignEach [.Name x p1,.Name y p2] X.env).map (·.2)=assign (.Name x p1) X.env::(assignEach [.Name y p2] X.env).map (·.2):=by rfl) (hs2:(assignEach [.Name y p2] X.env).map (·.2)=assign (.Name y p2) X.env::(assignEach [] X.env).map (·.2):=by rfl)
  (hn:(assignEach [.Name x p1,.Name y p2] X.env).length=2:=by rfl) (hst:(assignEach [.Name x p1,.Name y p2] X.env).findIdx? (·.1)=none:=by rfl):JG X C (.Tuple [.Name x p1,.Name y p2] k pos) (zgo i j) :=
 PG.weak (zw6 hc (zna (zmF hN hi hx hf) (zna (zmF hN hj hy hf2) zuT hs2) hs1) hn hst) λv Y H Q ⟨G,w,Z,d,r,q,p⟩=>by
  unfold zgo at p;split at p
  ·rename_i a b;obtain ⟨ad,vs,rfl,h1,h2⟩:=zb4 q;obtain ⟨v1,t,rfl,q1,q2⟩:=h2.cons_inv;obtain ⟨v2,t2,rfl,q3,q4⟩:=q2.cons_inv;rw[q4.nil_inv] at h1;by_cases hl:i < Z.length/\j < Z.length
   ·simp only[hl,and_self,if_true] at p;have r1:=r.setVal hl.1 hp q1;have r2:=r1.setVal (i:=j) (by simpa using hl.2) hq q3;exact ⟨ad,_,rfl,zaK r.gh h1,rfl,v1,_,rfl,v2,_,rfl,rfl,p _ G H w (.refl _ _ _) r2⟩
   ·simp only[hl,if_false] at p;exact p.elim
  ·exact p.elim
def zo5(g:DG)(body:DS):List Dt->DS
 |[],Z=>.ok (.nx,Z)
 |d::r,Z=>(g d Z).bind λZ1=>(body Z1).bind λa=>match a.1 with
  |.nx=>zo5 g body r a.2
  |.ct=>zo5 g body r a.2
  |.bk=>.ok (.nx,a.2)
  |.rt v=>.ok (.rt v,a.2)
def zgE(fi:DA)(g:DG)(body:DS):DS:=λZ=>(fi Z).bind λa=>zo5 g body a.1 a.2
theorem zev{body:List Stmt}{fi:DA}{g:DG}{fb:DS}(hp:PassesOwn (model X.prog X.w) X.A X.env X.xe)(hc:X.calm=true)(hi:JI X C tg iter fi)(hg:JG X C tg g)(hb:JSs X C body fb)
  (hs:∀ x,foldedSetIterable iter X.env x=pure x:=by intro _;rfl):JS X C (.For tg iter body [] pos) (zgE fi g fb) :=
 PS.weak (zvD hp hc hi hg hb hs) λD Y H ⟨G,w,Z,r,p⟩=>by
  refine zx6 (κ:=λG H w=>kS X.K C D G H w) zeJ r p λds Z1 J G1 H1 w1 r1 s1 it p1=>?_;refine ⟨λi m Y' H'=>m=ds.length-i/\i<=ds.length/\∃ G' w' Z',zd8 G1 G'/\Rel X.K C G' w' Z' Y' H'/\zcD C.ex (kS X.K C D G' H' w') (zo5 g fb (ds.drop i) Z'),
   ⟨ds.length,xws,Nat.zero_le _,G1,w1,Z1,.refl _,r1,by simpa using p1⟩,?_⟩
  rintro i m Y2 H2 ⟨rfl,hi,G2,w2,Z2,s2,r2,p2⟩;obtain ⟨it1,it2⟩:=it i G2 H2 s2 r2.gh;by_cases hlt:i<ds.length
  ·have ed:ds.drop i=ds[i]::ds.drop (i+1):=List.drop_eq_getElem_cons hlt;obtain ⟨go,yl⟩:=it1 ds[i] (by simp[hlt]);rw[ed] at p2;refine .inr ⟨go,λY' H'=>(ds.length-(i+1))=ds.length-(i+1)/\i+1<=ds.length/\∃ G' w' Z',zd8 G1 G'/\Rel X.K C G' w' Z' Y' H'/\zcD C.ex (kS X.K C D G' H' w') (zo5 g fb (ds.drop (i+1)) Z'),
    λY' H' h=>⟨ds.length-(i+1),xwl,h⟩,λx H' y=>?_⟩
   obtain ⟨G3,gr,q3⟩:=yl x H' y;have r3:=r2.grow gr;have p3:=zcD.step (κ:=λG H w=>kS X.K C D G H w) zeJ gr.step (w1:=w2) p2;refine ⟨G3,w2,Z2,ds[i],r3,q3,?_⟩;unfold zo5 at p3;cases eg:g ds[i] Z2 with
   |ok Z3 =>
    rw[eg] at p3;intro Y4 G4 H4 w4 s4 r4;have p4:=zcD.step (κ:=λG H w=>kS X.K C D G H w) zeJ s4 p3;refine ⟨G4,w4,Z3,r4,?_⟩;cases eb:fb Z3 with
    |ok z =>
     obtain ⟨fl,Z5⟩:=z;rw[R.bind_ok,eb] at p4;have sG:zd8 G1 G4:=(s2.trans gr.g).trans s4.g;cases fl with
     |nx=>exact λY6 G6 H6 w6 s6 r6=>⟨rfl,hlt,G6,w6,Z5,sG.trans s6.g,r6,zcD.step (κ:=λG H w=>kS X.K C D G H w) zeJ s6 p4⟩
     |ct=>exact λY6 G6 H6 w6 s6 r6=>⟨rfl,hlt,G6,w6,Z5,sG.trans s6.g,r6,zcD.step (κ:=λG H w=>kS X.K C D G H w) zeJ s6 p4⟩
     |bk=>exact p4
     |rt v=>exact p4
    |er n=>rw[R.bind_ok,eb] at p4;exact p4
    |no=>rw[R.bind_ok,eb] at p4;exact p4
   |er n=>rw[eg] at p3;exact p3
   |no=>rw[eg] at p3;exact p3
  ·have e:i=ds.length:=by lia
   subst e;simp only[List.drop_length] at p2;exact .inl ⟨it2 (wal _),p2 Y2 G2 H2 w2 (.refl _ _ _) r2⟩
def zb2(c:DT)(body:DS):Nat->DS
 |0,_=>.no
 |n+1,Z=>(c Z).bind λt=>if t.1=true then (body t.2).bind λa=>match a.1 with
   |.nx=>zb2 c body n a.2
   |.ct=>zb2 c body n a.2
   |.bk=>.ok (.nx,a.2)
   |.rt v=>.ok (.rt v,a.2)
  else .ok (.nx,t.2)
theorem znv(n:Nat){c:Expr}{body:List Stmt}{tc:DT}{fb:DS}(hp:PassesOwn (model X.prog X.w) X.A X.env X.xe)(hc:JT X C c tc)(hb:JSs X C body fb):JS X C (.While c body [] pos) (zb2 tc fb n) :=
 PS.weak (zsf hp hc hb) λD Y H ⟨G,w,Z,r,p⟩=>by
  refine ⟨λm Y' H'=>∃ G' w' Z',Rel X.K C G' w' Z' Y' H'/\zcD C.ex (kS X.K C D G' H' w') (zb2 tc fb m Z'),⟨n,G,w,Z,r,p⟩,?_⟩;rintro m Y1 H1 ⟨G1,w1,Z1,r1,p1⟩;cases m with
  |zero=>exact p1.elim
  |succ m =>
   unfold zb2 at p1;refine zv6 (κ:=λG H w=>kS X.K C D G H w) zeJ r1 p1 λb Z2 G2 H2 w2 r2 s2 p2=>?_;cases b with
   |false=>exact p2 Y1 G2 H2 w2 (.refl _ _ _) r2
   |true =>
    refine ⟨λY' H'=>∃ G' w' Z',Rel X.K C G' w' Z' Y' H'/\zcD C.ex (kS X.K C D G' H' w') (zb2 tc fb m Z'),λY' H' h=>⟨m,Nat.lt_succ_self _,h⟩,G2,w2,Z2,r2,?_⟩;have p2:zcD C.ex (kS X.K C D G2 H2 w2) ((fb Z2).bind λa=>match a.1 with
     |.nx=>zb2 tc fb m a.2
     |.ct=>zb2 tc fb m a.2
     |.bk=>.ok (.nx,a.2)
     |.rt v=>.ok (.rt v,a.2)):=p2
    cases eb:fb Z2 with
    |ok z =>
     obtain ⟨fl,Z5⟩:=z;rw[eb] at p2;cases fl with
     |nx=>exact λY6 G6 H6 w6 s6 r6=>⟨G6,w6,Z5,r6,zcD.step (κ:=λG H w=>kS X.K C D G H w) zeJ s6 p2⟩
     |ct=>exact λY6 G6 H6 w6 s6 r6=>⟨G6,w6,Z5,r6,zcD.step (κ:=λG H w=>kS X.K C D G H w) zeJ s6 p2⟩
     |bk=>exact p2
     |rt v=>exact p2
    |er n=>rw[eb] at p2;exact p2
    |no=>rw[eb] at p2;exact p2
end
abbrev FD:=List B->R (Dt×List B)
def zt8:B->Bool
 |.val _=>false
 |_=>true
def zdo(bs:List B):List Bool:=bs.map zt8
structure PRel(K:W.Frag)(G H:Hp)(w:Wn)(bs:List B)(vs:List V):Prop where
 gh:zd8 G H
 wg:∀ b,w b≠none->G b=none
 wh:∀ b,w b≠none->H b≠none
 len:bs.length=vs.length
 sl:∀(j:Nat)(b:B)(v:V),bs[j]? = some b->vs[j]? = some v->RB K G H w j v b
structure zs9(K:W.Frag)(G H:Hp)(w:Wn)(ks:List Bool)(bs:List B)(vs:List V):Prop where
 gh:zd8 G H
 wg:∀ b,w b≠none->G b=none
 wh:∀ b,w b≠none->H b≠none
 sl:∀(j:Nat)(v:V),ks[j]? = some true->vs[j]? = some v->∃ b,bs[j]? = some b/\RB K G H w j v b
def zqR(nw:Bool)(K:W.Frag)(xv:Nat->Value)(ks:List Bool)(F:FD):Sp:=λvs H Q E=>∃ G w bs,vs.length=ks.length/\zdo bs=ks/\PRel K G H w bs vs /\
 match F bs with
 |.ok a=>∀ v G' H' w',zbA G H w G' H' w'->zs9 K G' H' w' ks a.2 vs->RtG nw K H G' H' w' a.1 v->Q v H'
 |.er n=>∀ G' H' w',zbA G H w G' H' w'->E (xv n) none H'
 |.no=>False
def EXc(C:Cn):XK:=λu a H'=>a=none/\∃ n,u=C.xv n/\C.ex n/\∃ G' w',zbA C.G₀ C.H₀ C.w₀ G' H' w'
inductive Arg where
 |d (x:Dt)|s (i:Nat)
def zdI(K:W.Frag)(G:Hp)(Y:L2.St):List Arg->List V->Prop
 |[],vs=>vs=[]
 |.d x::r,vs=>∃ v t,vs=v::t/\Rep K G x v/\zdI K G Y r t
 |.s i::r,vs=>∃ v t,vs=v::t/\Y[i]? = some (some v)/\zdI K G Y r t
theorem zdI.same{K:W.Frag}{G G':Hp}{Y:L2.St}(e:zd8 G G'):∀{as:List Arg}{vs:List V},zdI K G Y as vs->zdI K G' Y as vs
 |[],_,h=>h
 |.d _::_,_,⟨v,t,h1,h2,h3⟩=>⟨v,t,h1,h2.same e,zdI.same e h3⟩
 |.s _::_,_,⟨v,t,h1,h2,h3⟩=>⟨v,t,h1,h2,zdI.same e h3⟩
abbrev DAr:=Ev->R (List Arg×Ev)
def kAr(K:W.Frag)(C:Cn)(Y:L2.St)(Q:List V->Hp->Prop)(G H:Hp)(w:Wn)(a:List Arg×Ev):Prop :=
 ∀ vs G' H' w',zbA G H w G' H' w'->Rel K C G' w' a.2 Y H'->zdI K G' Y a.1 vs->Q vs H'
def tAr(K:W.Frag)(C:Cn)(f:DAr):TA:=λY H Q=>∃ G w Z,Rel K C G w Z Y H/\zcD C.ex (kAr K C Y Q G H w) (f Z)
abbrev JAr(X:Cx)(C:Cn)(es:List Expr)(f:DAr):Prop:=PA X es (tAr X.K C f)
theorem zpX{K:W.Frag}{C:Cn}{Y:L2.St}{Q:List V->Hp->Prop}:Stp (λG H w=>kAr K C Y Q G H w):=λ_ _ _ _ _ _ _ s k v G' H' w' s'=>k v G' H' w' (s.trans s')
theorem zs1{K:W.Frag}{C:Cn}{Y:L2.St}{α:Type}{κ:zr8 α}(st:Stp κ){G H:Hp}{w:Wn}{Z:Ev}{fa:DAr}{g:List Arg×Ev->R α}{Q:List V->Hp->Prop}(r:Rel K C G w Z Y H)(p:zcD C.ex (κ G H w) ((fa Z).bind g))
  (k:∀ as Z1 vs G1 H1 w1,Rel K C G1 w1 Z1 Y H1->zbA G H w G1 H1 w1->zdI K G1 Y as vs->zcD C.ex (κ G1 H1 w1) (g (as,Z1))->Q vs H1):tAr K C fa Y H Q:=by
 refine ⟨G,w,Z,r,?_⟩;cases e:fa Z with
 |ok a =>
  rw[e] at p;intro v G' H' w' s' r' q;exact k a.1 a.2 v G' H' w' r' s' q (zcD.step st s' p)
 |er n=>rw[e] at p;exact p
 |no=>rw[e] at p;exact p
def dR0:DAr:=λZ=>.ok ([],Z)
def dR(fa:De)(fr:DAr):DAr:=λZ=>(fa Z).bind λa=>(fr a.2).bind λb=>.ok (.d a.1::b.1,b.2)
def dRO(i:Nat)(fr:DAr):DAr:=λZ=>match Z[i]? with
 |some (some _)=>(fr Z).bind λb=>.ok (.s i::b.1,b.2)
 |_=>.no
section
variable{X:Cx}{C:Cn}{fa:De}{fr:DAr}{pos:Pos}
theorem zaq:JAr X C [] dR0:=PA.weak zcY λY H Q ⟨G,w,Z,r,p⟩=>p _ G H w (.refl _ _ _) r rfl
theorem zae{e:Expr}{es:List Expr}(ha:JE X C e fa)(hr:JAr X C es fr)(hs:starEach (e::es) X.env=(false,eval e X.env)::starEach es X.env:=by rfl):JAr X C (e::es) (dR fa fr) :=
 PA.weak (zbj ha hr hs) λY H Q ⟨G,w,Z,r,p⟩=>by refine ze4 (κ:=λG H w=>kAr X.K C Y Q G H w) zpX r p λd Z1 v G1 H1 w1 r1 s1 q1 p1=>?_;refine zs1 (κ:=λG H w=>kAr X.K C Y Q G H w) zpX r1 p1 λas Z2 vs G2 H2 w2 r2 s2 q2 p2=>?_;exact p2 _ G2 H2 w2 (.refl _ _ _) r2 ⟨v,vs,rfl,q1.same s2.g,q2⟩
theorem zgA(i:Nat){x:Str}{ps:Pos}{es:List Expr}(hr:JAr X C es fr)(hN:X.N[i]? = some x:=by rfl)(hv:Vis X.env.scope x:=by exact xwV)(hd:(x == ("__debug__" : Str))=false:=by decide)
  (hcd:(x == ("__classdict__" : Str))=false:=by decide) (hs:starEach (.Name x ps::es) X.env=(false,eval (.Name x ps) X.env)::starEach es X.env:=by rfl):JAr X C (.Name x ps::es) (dRO i fr) :=
 PA.weak (zbj (zdk hN hv hd hcd) hr hs) λY H Q ⟨G,w,Z,r,p⟩=>by
  unfold dRO at p;split at p
  ·rename_i b e;obtain ⟨v,h1,_⟩:=r.sl i b e;refine ⟨v,h1,?_⟩;refine zs1 (κ:=λG H w=>kAr X.K C Y Q G H w) zpX r p λas Z2 vs G2 H2 w2 r2 s2 q2 p2=>?_;exact p2 _ G2 H2 w2 (.refl _ _ _) r2 ⟨v,vs,rfl,h1,q2⟩
  ·exact p.elim
end
def zsZ(as:List Arg)(j:Nat):Option Nat:=match as[j]? with
 |some (.s i)=>some i
 |_=>none
def zeO(i:Nat):Nat->List Arg->Option Nat
 |_,[]=>none
 |j,.s i'::r=>if i'=i then some j else zeO i (j+1) r
 |j,.d _::r=>zeO i (j+1) r
def zeB(as:List Arg)(i:Nat):Option Nat:=zeO i 0 as
def zb1(as:List Arg):Nat->List Arg->Bool
 |_,[]=>true
 |j,.s i::r=>(zeB as i == some j) && zb1 as (j+1) r
 |j,.d _::r=>zb1 as (j+1) r
def zoy(as:List Arg):Bool:=zb1 as 0 as
theorem zf2{as:List Arg}:∀{l:List Arg}{j k:Nat}{i:Nat},zb1 as j l=true->l[k]? = some (.s i)->zeB as i=some (j+k)
 |[],_,_,_,_,e=>by simp at e
 |.s i'::r,j,0,i,h,e=>by simp at e;subst e;unfold zb1 at h;rw[Bool.and_eq_true] at h;simpa using h.1
 |.s i'::r,j,k+1,i,h,e=>by unfold zb1 at h;rw[Bool.and_eq_true] at h;have:=zf2 (k:=k) h.2 (by simpa using e);rw[this];congr 1;lia
 |.d x::r,j,0,i,h,e=>by simp at e
 |.d x::r,j,k+1,i,h,e=>by unfold zb1 at h;have:=zf2 (k:=k) h (by simpa using e);rw[this];congr 1;lia
theorem zg5{i:Nat}:∀{l:List Arg}{j m:Nat},zeO i j l=some m->∃ k,m=j+k/\l[k]? = some (.s i)
 |[],_,_,h=>by simp[zeO] at h
 |.s i'::r,j,m,h=>by
  unfold zeO at h;split at h
  ·rename_i e;subst e;cases h;exact ⟨0,rfl,rfl⟩
  ·obtain ⟨k,h1,h2⟩:=zg5 h;exact ⟨k+1,xwl,by simpa using h2⟩
 |.d x::r,j,m,h=>by unfold zeO at h;obtain ⟨k,h1,h2⟩:=zg5 h;exact ⟨k+1,xwl,by simpa using h2⟩
theorem zr3{as:List Arg}{i j:Nat}(h:zeB as i=some j):as[j]? = some (.s i):=by
 obtain ⟨k,h1,h2⟩:=zg5 h;have:j=k:=by lia
 subst this;exact h2
theorem znx{as:List Arg}{i j:Nat}(u:zoy as=true)(h:as[j]? = some (.s i)):zeB as i=some j:=by have:=zf2 (j:=0) u h;simpa using this
def zaD(Z:Ev):List Arg->R (List B)
 |[]=>.ok []
 |.d x::r=>(zaD Z r).bind λbs=>.ok (.val x::bs)
 |.s i::r=>match Z[i]? with
  |some (some b)=>if zt8 b=true then (zaD Z r).bind λbs=>.ok (b::bs) else .no
  |_=>.no
def zix(as:List Arg)(bs:List B):Nat->Ev->Ev
 |_,[]=>[]
 |i,o::r=>(match zeB as i with|some j=>bs[j]?|none=>o)::zix as bs (i+1) r
theorem znf{as:List Arg}{bs:List B}:∀{Z:Ev}{k i:Nat},(zix as bs k Z)[i]? = Z[i]?.map λo=>match zeB as (k+i) with|some j=>bs[j]?|none=>o
 |[],_,_=>by simp[zix]
 |o::r,k,0=>by simp[zix]
 |o::r,k,i+1=>by
  have:=znf (as:=as) (bs:=bs) (Z:=r) (k:=k+1) (i:=i);simp only[zix,List.getElem?_cons_succ];rw[this];have e:k+1+i=k+(i+1):=by lia
  rw[e]
theorem znk{as:List Arg}{bs:List B}:∀{Z:Ev}{k:Nat},(zix as bs k Z).length = Z.length
 |[],_=>rfl
 |o::r,k=>by simp[zix,znk (Z:=r)]
def zai(F:FD)(fa:DAr):De:=λZ=>(fa Z).bind λa=>if zoy a.1=true then (zaD a.2 a.1).bind λbs=>(F bs).bind λz=>.ok (z.1,zix a.1 z.2 0 a.2) else .no
theorem zeM{Z:Ev}:∀{as:List Arg}{bs:List B}{j i:Nat},zaD Z as=.ok bs->as[j]? = some (.s i)->∃ b,Z[i]? = some (some b)/\bs[j]? = some b/\zt8 b=true
 |[],bs,j,i,h,e=>by simp at e
 |.d x::r,bs,j,i,h,e=>by
  unfold zaD at h;cases q:zaD Z r with
  |ok l =>
   rw[q] at h;simp only[R.bind_ok,R.ok.injEq] at h;subst h;cases j with
   |zero=>simp at e
   |succ j =>
    obtain ⟨b,h1,h2,h3⟩:=zeM (j:=j) q (by simpa using e);exact ⟨b,h1,by simpa using h2,h3⟩
  |er n=>rw[q] at h;simp at h
  |no=>rw[q] at h;simp at h
 |.s i'::r,bs,j,i,h,e=>by
  unfold zaD at h;split at h
  ·rename_i b eb;split at h
   ·rename_i ob;cases q:zaD Z r with
    |ok l =>
     rw[q] at h;simp only[R.bind_ok,R.ok.injEq] at h;subst h;cases j with
     |zero=>simp at e;subst e;exact ⟨b,eb,rfl,ob⟩
     |succ j =>
      obtain ⟨b,h1,h2,h3⟩:=zeM (j:=j) q (by simpa using e);exact ⟨b,h1,by simpa using h2,h3⟩
    |er n=>rw[q] at h;simp at h
    |no=>rw[q] at h;simp at h
   ·cases h
  ·cases h
theorem zeY{Z:Ev}:∀{as:List Arg}{n:Nat},zaD Z as≠.er n
 |[],n,h=>by simp[zaD] at h
 |.d x::r,n,h=>by
  unfold zaD at h;cases q:zaD Z r with
  |ok l=>rw[q] at h;simp at h
  |er m=>exact zeY q
  |no=>rw[q] at h;simp at h
 |.s i::r,n,h=>by
  unfold zaD at h;split at h
  ·split at h
   ·cases q:zaD Z r with
    |ok l=>rw[q] at h;simp at h
    |er m=>exact zeY q
    |no=>rw[q] at h;simp at h
   ·cases h
  ·cases h
def wIn(w:Wn)(as:List Arg):Wn:=λb=>(w b).bind (zeB as)
def zrp(w w':Wn)(as:List Arg):Wn:=λb=>match w' b with
 |some j=>zsZ as j
 |none=>if (w b).bind (zeB as)=none then w b else none
section
variable{K:W.Frag}{C:Cn}{Y:L2.St}{G H:Hp}{w:Wn}{Z:Ev}
theorem zjV(r:Rel K C G w Z Y H):∀{as l:List Arg}{vs:List V}{bs:List B}{k j:Nat}{b:B}{v:V},(∀ m i,l[m]? = some (.s i)->zeB as i=some (k+m))->zdI K G Y l vs->zaD Z l=.ok bs->bs[j]? = some b->vs[j]? = some v->RB K G H (wIn w as) (k+j) v b
 |as,[],vs,bs,k,j,b,v,hu,ha,hr,hb,hv=>by simp[zaD] at hr;subst hr;simp at hb
 |as,.d x::l,vs,bs,k,j,b,v,hu,ha,hr,hb,hv=>by
  obtain ⟨v0,t,rfl,h2,h3⟩:=ha;unfold zaD at hr;cases q:zaD Z l with
  |ok l' =>
   rw[q] at hr;simp only[R.bind_ok,R.ok.injEq] at hr;subst hr;cases j with
   |zero=>simp at hb hv;subst hb;subst hv;exact h2
   |succ j =>
    have:=zjV r (as:=as) (k:=k+1) (j:=j) (λm i e=>by rw[hu (m+1) i (by simpa using e)];congr 1;lia) h3 q (by simpa using hb) (by simpa using hv);have e:k+1+j=k+(j+1):=by lia
    rw[e] at this;exact this
  |er n=>rw[q] at hr;simp at hr
  |no=>rw[q] at hr;simp at hr
 |as,.s i::l,vs,bs,k,j,b,v,hu,ha,hr,hb,hv=>by
  obtain ⟨v0,t,rfl,h2,h3⟩:=ha;unfold zaD at hr;split at hr
  ·rename_i b0 eb;split at hr
   ·rename_i ob;cases q:zaD Z l with
    |ok l' =>
     rw[q] at hr;simp only[R.bind_ok,R.ok.injEq] at hr;subst hr;cases j with
     |zero =>
      simp at hb hv;subst hb;subst hv;obtain ⟨v1,h4,h5⟩:=r.sl i _ eb;rw[h2] at h4;cases h4;exact h5.grow (.refl _) λa o e1 e2=>⟨e2,by unfold wIn;rw[e1];exact hu 0 i rfl⟩
     |succ j =>
      have:=zjV r (as:=as) (k:=k+1) (j:=j) (λm i e=>by rw[hu (m+1) i (by simpa using e)];congr 1;lia) h3 q (by simpa using hb) (by simpa using hv);have e:k+1+j=k+(j+1):=by lia
      rw[e] at this;exact this
    |er n=>rw[q] at hr;simp at hr
    |no=>rw[q] at hr;simp at hr
   ·cases hr
  ·cases hr
theorem zgW:∀{as:List Arg}{vs:List V}{bs:List B},zdI K G Y as vs->zaD Z as=.ok bs->bs.length=vs.length
 |[],vs,bs,ha,hr=>by simp[zaD] at hr;subst hr;cases ha;rfl
 |.d x::l,vs,bs,ha,hr=>by
  obtain ⟨v0,t,rfl,h2,h3⟩:=ha;unfold zaD at hr;cases q:zaD Z l with
  |ok l'=>rw[q] at hr;simp only[R.bind_ok,R.ok.injEq] at hr;subst hr;simp[zgW h3 q]
  |er n=>rw[q] at hr;simp at hr
  |no=>rw[q] at hr;simp at hr
 |.s i::l,vs,bs,ha,hr=>by
  obtain ⟨v0,t,rfl,h2,h3⟩:=ha;unfold zaD at hr;split at hr
  ·split at hr
   ·cases q:zaD Z l with
    |ok l'=>rw[q] at hr;simp only[R.bind_ok,R.ok.injEq] at hr;subst hr;simp[zgW h3 q]
    |er n=>rw[q] at hr;simp at hr
    |no=>rw[q] at hr;simp at hr
   ·cases hr
  ·cases hr
theorem zhL:∀{as:List Arg}{vs:List V}{j i:Nat},zdI K G Y as vs->as[j]? = some (.s i)->∃ v,vs[j]? = some v/\Y[i]? = some (some v)
 |[],_,_,_,_,e=>by simp at e
 |.d x::l,vs,j,i,ha,e=>by
  obtain ⟨v0,t,rfl,h2,h3⟩:=ha;cases j with
  |zero=>simp at e
  |succ j=>obtain ⟨v,e1,e2⟩:=zhL (j:=j) h3 (by simpa using e);exact ⟨v,by simpa using e1,e2⟩
 |.s i'::l,vs,j,i,ha,e=>by
  obtain ⟨v0,t,rfl,h2,h3⟩:=ha;cases j with
  |zero=>simp at e;subst e;exact ⟨v0,rfl,h2⟩
  |succ j=>obtain ⟨v,e1,e2⟩:=zhL (j:=j) h3 (by simpa using e);exact ⟨v,by simpa using e1,e2⟩
theorem Rel.back{as:List Arg}{vs:List V}{bs bs':List B}{ks:List Bool}{G' H':Hp}{w':Wn}(r:Rel K C G w Z Y H)(u:zoy as=true)(ha:zdI K G Y as vs)(hr:zaD Z as=.ok bs)(hk:zdo bs=ks)
  (s:zbA G H (wIn w as) G' H' w') (pb:zs9 K G' H' w' ks bs' vs):Rel K C G' (zrp w w' as) (zix as bs' 0 Z) Y H'/\zbA G H w G' H' (zrp w w' as):=by
 have wi:∀ b,wIn w as b≠none->w b≠none:=λb e z=>e (by unfold wIn;rw[z];rfl);have wi2:∀ b,w b=none->wIn w as b=none:=λb z=>by unfold wIn;rw[z];rfl
 have st:zbA G H w G' H' (zrp w w' as):=by
  refine ⟨s.g,λb o e=>?_,λb o e z=>s.h b o e (wi2 b z),λb e=>?_,s.k⟩
  ·rcases s.fr b o e with q|q|q
   ·exact .inl q
   ·exact .inr (.inl q)
   ·exact .inr (.inr (wi b q))
  ·unfold zrp at e;split at e
   ·rename_i j ej;rcases s.w b (by rw[ej];simp) with q|q
    ·exact .inl (wi b q)
    ·exact .inr q
   ·split at e
    ·exact .inl e
    ·exact absurd rfl e
 have keep:∀ a o,w a≠none->(w a).bind (zeB as)=none->H a=some o->H' a=some o/\w' a=none/\G' a=none:=λa o e1 e2 e3=>by
  have e4:wIn w as a=none:=e2;have e5:=s.h a o e3 e4;have e6:w' a=none:=by
   cases q:w' a with
   |none=>rfl
   |some j =>
    rcases s.w a (by rw[q];simp) with z|z
    ·exact absurd e4 z
    ·rw[e3] at z;cases z
  refine ⟨e5,e6,?_⟩;cases q:G' a with
  |none=>rfl
  |some o' =>
   rcases s.fr a o' q with z|z|z
   ·exact absurd (r.wg a e1) z
   ·rw[e3] at z;cases z
   ·exact absurd e4 z
 refine ⟨⟨pb.gh,λb e=>?_,λb e=>?_,by rw[znk];exact r.len,λi b e=>?_,r.en.trans st,r.pin⟩,st⟩
 ·unfold zrp at e;split at e
  ·rename_i j ej;exact pb.wg b (by rw[ej];simp)
  ·split at e
   ·rename_i e2;cases q:H b with
    |none=>exact absurd q (r.wh b e)
    |some o=>exact (keep b o e e2 q).2.2
   ·exact absurd rfl e
 ·unfold zrp at e;split at e
  ·rename_i j ej;exact pb.wh b (by rw[ej];simp)
  ·split at e
   ·rename_i e2;cases q:H b with
    |none=>exact absurd q (r.wh b e)
    |some o=>rw[(keep b o e e2 q).1];simp
   ·exact absurd rfl e
 ·rw[znf,Nat.zero_add] at e;cases q:zeB as i with
  |some j =>
   have ej:=zr3 q;obtain ⟨v,e1,e2⟩:=zhL ha ej;obtain ⟨b0,h1,h2,h3⟩:=zeM hr ej;have hkj:ks[j]? = some true:=by rw[<- hk];unfold zdo;rw[List.getElem?_map,h2];simp[h3]
   obtain ⟨b',h4,h5⟩:=pb.sl j v hkj e1;rw[h1] at e;simp only[q,Option.map_some] at e;rw[h4] at e;have e':b'=b:=by simpa using e
   subst e';refine ⟨v,e2,h5.grow (.refl _) λa o q1 q2=>⟨q2,?_⟩⟩;unfold zrp zsZ;rw[q1];simp only;rw[ej]
  |none =>
   cases e1:Z[i]? with
   |none=>rw[e1] at e;simp at e
   |some o0 =>
    rw[e1] at e;simp only[q,Option.map_some,Option.some.injEq] at e;subst e;obtain ⟨v,h1,h2⟩:=r.sl i b e1;refine ⟨v,h1,h2.grow s.g λa o q1 q2=>?_⟩;have z:(w a).bind (zeB as)=none:=by rw[q1];exact q
    obtain ⟨k1,k2,_⟩:=keep a o (by rw[q1];simp) z q2;refine ⟨k1,?_⟩;unfold zrp;rw[k2];simp only;rw[if_pos z];exact q1
end
section
variable{X:Cx}{C:Cn}{CX:CXT}{k:Nat}{f:Addr}{fd:FuncData}{ps:List Str}{ks:List Bool}{Fd:FD}{x:Str}{p pos:Pos}{e:Expr}{es:List Expr}{far:DAr}
theorem zoO{Y:L2.St}{H:Hp}{Q:VK}(h:tE X.K C (zai Fd far) Y H Q)(hks:∀ bs,Fd bs≠.no->zdo bs=ks):zvt (zqR false X.K C.xv ks Fd) [] (EXc C) (tAr X.K C far) Y H Q:=by
 obtain ⟨G,w,Z,r,p⟩:=h;refine zs1 (κ:=λG H w=>kE X.K C Y Q G H w) zcr r p λas Z1 vs G1 H1 w1 r1 s1 q1 p1=>?_;rw[List.append_nil];by_cases hu:zoy as=true
 ·simp only[hu,if_true] at p1;cases er:zaD Z1 as with
  |ok bs =>
   rw[er,R.bind_ok] at p1;have hk:zdo bs=ks:=by refine hks bs λz=>?_;rw[z] at p1;exact p1
   have hl:bs.length=vs.length:=zgW q1 er;refine ⟨G1,wIn w1 as,bs,by rw[<- hk,<- hl];simp[zdo],hk,⟨r1.gh,λb e=>r1.wg b λz=>e (by unfold wIn;rw[z];rfl),λb e=>r1.wh b λz=>e (by unfold wIn;rw[z];rfl),hl,λj b v e1 e2=>?_⟩,?_⟩
   ·have:=zjV r1 (as:=as) (k:=0) (j:=j) (λm i e=>by rw[Nat.zero_add];exact znx hu e) q1 er e1 e2;rw[Nat.zero_add] at this;exact this
   ·cases ef:Fd bs with
    |ok z =>
     rw[ef,R.bind_ok] at p1;intro v G' H' w' s' pb q;obtain ⟨r',st⟩:=r1.back hu q1 er hk s' pb;exact p1 v G' H' _ st r' q
    |er n =>
     rw[ef] at p1;intro G' H' w' s';refine ⟨rfl,n,rfl,p1,G',λ_=>none,r1.en.trans ⟨s'.g,λb o e=>?_,λb o e z=>s'.h b o e (by unfold wIn;rw[z];rfl),λb e=>absurd rfl e,s'.k⟩⟩;rcases s'.fr b o e with q|q|q
     ·exact .inl q
     ·exact .inr (.inl q)
     ·exact .inr (.inr λz=>q (by unfold wIn;rw[z];rfl))
    |no=>rw[ef] at p1;exact p1.elim
  |er n=>exact absurd er zeY
  |no=>rw[er] at p1;exact p1.elim
 ·simp only[hu] at p1;exact p1.elim
theorem zun(F:zgt X.prog X.w X.K X.mg X.base CX k f fd ps (zqR false X.K C.xv ks Fd))(hr:zfK k X.A)(hg:Gl X x)(hm:X.mg x=some (.ref f))(hk:W.keepIn X.K (.ref f)=true)(hb:zkd X.K fd ps [])(hx:ze1 CX X (EXc C))(hks:∀ bs,Fd bs≠.no->zdo bs=ks)
  (ha:JAr X C (e::es) far) (hdb:(x == ("__debug__" : Str))=false:=by decide) (he:starEach (e::es) X.env=(false,eval e X.env)::starEach es X.env:=by rfl) (hpl:(backTo pos (starEach es X.env)).any (·.1)=false:=by rfl) :
  JE X C (.Call (.Name x p) (e::es) [] pos) (zai Fd far) :=
 PE.weak (zjn F hr hg hm hk hb .nil hx ha hdb he hpl) λY H Q h=>zoO h hks
def zbn(F:FD)(fa:DAr):DN:=λZ=>(fa Z).bind λa=>if zoy a.1=true then (zaD a.2 a.1).bind λbs=>(F bs).bind λz=>match z.1 with
  |.lst l=>.ok (l,zix a.1 z.2 0 a.2)
  |_=>.no
 else .no
theorem zo0{Y:L2.St}{H:Hp}{Q:VK}(h:tN X.K C (zbn Fd far) Y H Q)(hks:∀ bs,Fd bs≠.no->zdo bs=ks):zvt (zqR true X.K C.xv ks Fd) [] (EXc C) (tAr X.K C far) Y H Q:=by
 obtain ⟨G,w,Z,r,p⟩:=h;refine zs1 (κ:=λG H w=>kN X.K C Y Q G H w) zfk r p λas Z1 vs G1 H1 w1 r1 s1 q1 p1=>?_;rw[List.append_nil];by_cases hu:zoy as=true
 ·simp only[hu,if_true] at p1;cases er:zaD Z1 as with
  |ok bs =>
   rw[er,R.bind_ok] at p1;have hk:zdo bs=ks:=by refine hks bs λz=>?_;rw[z] at p1;exact p1
   have hl:bs.length=vs.length:=zgW q1 er;refine ⟨G1,wIn w1 as,bs,by rw[<- hk,<- hl];simp[zdo],hk,⟨r1.gh,λb e=>r1.wg b λz=>e (by unfold wIn;rw[z];rfl),λb e=>r1.wh b λz=>e (by unfold wIn;rw[z];rfl),hl,λj b v e1 e2=>?_⟩,?_⟩
   ·have:=zjV r1 (as:=as) (k:=0) (j:=j) (λm i e=>by rw[Nat.zero_add];exact znx hu e) q1 er e1 e2;rw[Nat.zero_add] at this;exact this
   ·cases ef:Fd bs with
    |ok z =>
     rw[ef,R.bind_ok] at p1;intro v G' H' w' s' pb q;obtain ⟨r',st⟩:=r1.back hu q1 er hk s' pb;obtain ⟨l,pp,us,e1,e2,e3,e4,e5,e6,e7⟩:=q;subst e2;rw[e1] at p1;refine p1 pp us G' H' _ st r' e3 e4 e5 ?_ e7;have w1p:w1 pp=none:=by
      cases zz:w1 pp with
      |none=>rfl
      |some k=>exact absurd e3 (r1.wh pp (by rw[zz];simp))
     unfold zrp;rw[e6,w1p];rfl
    |er n =>
     rw[ef] at p1;intro G' H' w' s';refine ⟨rfl,n,rfl,p1,G',λ_=>none,r1.en.trans ⟨s'.g,λb o e=>?_,λb o e z=>s'.h b o e (by unfold wIn;rw[z];rfl),λb e=>absurd rfl e,s'.k⟩⟩;rcases s'.fr b o e with q|q|q
     ·exact .inl q
     ·exact .inr (.inl q)
     ·exact .inr (.inr λz=>q (by unfold wIn;rw[z];rfl))
    |no=>rw[ef] at p1;exact p1.elim
  |er n=>exact absurd er zeY
  |no=>rw[er] at p1;exact p1.elim
 ·simp only[hu] at p1;exact p1.elim
theorem zuI(F:zgt X.prog X.w X.K X.mg X.base CX k f fd ps (zqR true X.K C.xv ks Fd))(hr:zfK k X.A)(hg:Gl X x)(hm:X.mg x=some (.ref f))(hk:W.keepIn X.K (.ref f)=true)(hb:zkd X.K fd ps [])(hx:ze1 CX X (EXc C))(hks:∀ bs,Fd bs≠.no->zdo bs=ks)
  (ha:JAr X C (e::es) far) (hdb:(x == ("__debug__" : Str))=false:=by decide) (he:starEach (e::es) X.env=(false,eval e X.env)::starEach es X.env:=by rfl) (hpl:(backTo pos (starEach es X.env)).any (·.1)=false:=by rfl) :
  JN X C (.Call (.Name x p) (e::es) [] pos) (zbn Fd far) :=
 PE.weak (zjn F hr hg hm hk hb .nil hx ha hdb he hpl) λY H Q h=>zo0 h hks
def zaJ:List Bool->Ev->R (List B)
 |[],_=>.ok []
 |false::ks,_::Z=>(zaJ ks Z).bind λl=>.ok (.val .non::l)
 |true::ks,some b::Z=>(zaJ ks Z).bind λl=>.ok (b::l)
 |_,_=>.no
def za1(nw:Bool)(ks:List Bool)(m:Nat)(body:DS):FD:=λbs=>if zdo bs=ks then (body (bs.map some++List.replicate m none)).bind λa=>match a.1 with
  |.nx=>if nw=true then .no else (zaJ ks a.2).bind λl=>.ok (.non,l)
  |.rt d=>(zaJ ks a.2).bind λl=>.ok (d,l)
  |_=>.no
 else .no
theorem zap{nw:Bool}{ks:List Bool}{m:Nat}{body:DS}:∀ bs,za1 nw ks m body bs≠.no->zdo bs=ks:=λbs h=>by
 unfold za1 at h;by_cases e:zdo bs=ks
 ·exact e
 ·rw[if_neg e] at h;exact absurd rfl h
theorem zft:∀{ks:List Bool}{Z:Ev}{l:List B}{j:Nat},zaJ ks Z=.ok l->ks[j]? = some true->∃ b,l[j]? = some b/\Z[j]? = some (some b)
 |[],_,_,_,_,e=>by simp at e
 |false::ks,[],l,j,h,e=>by simp[zaJ] at h
 |true::ks,[],l,j,h,e=>by simp[zaJ] at h
 |false::ks,o::Z,l,j,h,e=>by
  unfold zaJ at h;cases q:zaJ ks Z with
  |ok l' =>
   rw[q] at h;simp only[R.bind_ok,R.ok.injEq] at h;subst h;cases j with
   |zero=>simp at e
   |succ j=>obtain ⟨b,h1,h2⟩:=zft (j:=j) q (by simpa using e);exact ⟨b,by simpa using h1,by simpa using h2⟩
  |er n=>rw[q] at h;simp at h
  |no=>rw[q] at h;simp at h
 |true::ks,none::Z,l,j,h,e=>by simp[zaJ] at h
 |true::ks,some b::Z,l,j,h,e=>by
  unfold zaJ at h;cases q:zaJ ks Z with
  |ok l' =>
   rw[q] at h;simp only[R.bind_ok,R.ok.injEq] at h;subst h;cases j with
   |zero=>exact ⟨b,rfl,rfl⟩
   |succ j=>obtain ⟨b,h1,h2⟩:=zft (j:=j) q (by simpa using e);exact ⟨b,by simpa using h1,by simpa using h2⟩
  |er n=>rw[q] at h;simp at h
  |no=>rw[q] at h;simp at h
theorem zeZ:∀{ks:List Bool}{Z:Ev}{n:Nat},zaJ ks Z≠.er n
 |[],_,_,h=>by simp[zaJ] at h
 |false::ks,[],n,h=>by simp[zaJ] at h
 |true::ks,[],n,h=>by simp[zaJ] at h
 |false::ks,o::Z,n,h=>by
  unfold zaJ at h;cases q:zaJ ks Z with
  |ok l'=>rw[q] at h;simp at h
  |er m=>exact zeZ q
  |no=>rw[q] at h;simp at h
 |true::ks,none::Z,n,h=>by simp[zaJ] at h
 |true::ks,some b::Z,n,h=>by
  unfold zaJ at h;cases q:zaJ ks Z with
  |ok l'=>rw[q] at h;simp at h
  |er m=>exact zeZ q
  |no=>rw[q] at h;simp at h
def zsm(ks:List Bool):List Nat:=(List.range ks.length).filter λj=>ks[j]? == some true
def zsU(CX:CXT)(P:Program)(w:World)(K:W.Frag)(mg:Str->Option Value)(base:Heap):Prop :=
 ∀(N:List Str)(qual:Str)(scope:Scope)(f:Addr)(cdv:Value)(A:Around)(outer:List Env)(s:Shared)(H:Hp)(E E':XK),scope.kind=.function->(∀ u a H',E' u a H'->E u a H') ->
  ze1 CX (zrZ CX P w K mg base N qual scope f cdv A outer s H E) E'
theorem zaB{P:Program}{w:World}{K:W.Frag}{mg:Str->Option Value}{base:Heap}:zsU CX0 P w K mg base:=λ_ _ _ _ _ _ _ _ _ _ _ _ _ _ _ _ _ _ _ _ h=>h.elim
theorem zaC{P:Program}{w:World}{K:W.Frag}{mg:Str->Option Value}{base:Heap}{xq qual:Str}{st:Stmt}{N:List Str}{xv:Nat->Value}{m:Nat}{fb:DS}(nw:Bool)(lv:zsU CX P w K mg base)(F:Fun K xq qual st f fd)(S:za6 N ps (zak st))(hl:ps.length=ks.length)(hm:N.length=ks.length+m)
  (hbody:∀(X:Cx)(C:Cn),(∃ cdv A outer s H E,X=zrZ CX P w K mg base N qual (zak st) f cdv A outer s H E)->C.pp=zsm ks->C.xv=xv->C.nw=nw->zfK k X.A->ze1 CX X (EXc C)->PassesOwn (model X.prog X.w) X.A X.env X.xe->JSs X C (zdS st) fb) :
  zgt P w K mg base CX (k+1) f fd ps (zqR nw K xv ks (za1 nw ks m fb)):=by
 obtain ⟨oc,od,kV,doc,pm,an,cdv,ct,osl,rfl,lk,hcd⟩:=F.ex;refine zvE lk hcd S (λvs H Q E ⟨_,_,_,h,_⟩=>h.trans hl.symm) λA outer s H vs Q E hr hsp=>?_;obtain ⟨G,w0,bs,hv,hk,pr,hF⟩:=hsp;let X:=zrZ CX P w K mg base N qual (zak st) f cdv A outer s H E;let C:Cn:=⟨G,H,w0,zsm ks,L2.start N vs,λn=>za1 nw ks m fb bs=.er n,xv,nw⟩
 have hE:∀ u a H',EXc C u a H'->E u a H':=λu a H' ⟨ea,n,eu,en,G',w',s'⟩=>by subst ea;subst eu;have en':za1 nw ks m fb bs=.er n:=en;rw[en'] at hF;exact hF G' H' w' s'
 have hb:=hbody X C ⟨cdv,A,outer,s,H,E,rfl⟩ rfl rfl rfl hr (lv N qual (zak st) f cdv A outer s H E (EXc C) S.kind hE) PassesOwn.leaving;refine ⟨_,hb,G,w0,bs.map some++List.replicate m none,?_,?_⟩
 ·refine ⟨pr.gh,pr.wg,pr.wh,?_,λi b e=>?_,.refl _ _ _,λi _=>rfl⟩
  ·unfold L2.start;simp only[wav,wag,List.length_replicate];have:=pr.len;lia
  ·have hi:i<bs.length:=by
    by_cases hi:i<bs.length
    ·exact hi
    ·rw[List.getElem?_append_right (by simpa using hi),List.getElem?_replicate] at e;split at e <;> cases e
   rw[List.getElem?_append_left (by simpa using hi),List.getElem?_map] at e;have eb:bs[i]? = some b:=by
    cases q:bs[i]? with
    |none=>rw[q] at e;cases e
    |some z=>rw[q] at e;cases e;rfl
   have hiv:i<vs.length:=by rw[<- pr.len];exact hi
   refine ⟨vs[i],?_,pr.sl i b vs[i] eb (by simp[hiv])⟩;unfold L2.start;rw[List.getElem?_append_left (by simpa using hiv),List.getElem?_map];simp[hiv]
 ·have hF':match za1 nw ks m fb bs with
   |.ok a=>∀ v G' H' w',zbA G H w0 G' H' w'->zs9 K G' H' w' ks a.2 vs->RtG nw K H G' H' w' a.1 v->Q v H'
   |.er n=>∀ G' H' w',zbA G H w0 G' H' w'->E (xv n) none H'
   |.no=>False:=hF
  have er:za1 nw ks m fb bs=(fb (bs.map some++List.replicate m none)).bind λa=>match a.1 with
   |.nx=>if nw=true then .no else (zaJ ks a.2).bind λl=>.ok (.non,l)
   |.rt d=>(zaJ ks a.2).bind λl=>.ok (d,l)
   |_=>.no:=by unfold za1;rw[if_pos hk]
  have back:∀{Z':Ev}{l:List B}{Y':L2.St}{G' H':Hp}{w':Wn},zaJ ks Z'=.ok l->Rel K C G' w' Z' Y' H'->zs9 K G' H' w' ks l vs:=λ{Z' l Y' G' H' w'} eb r'=>by
   refine ⟨r'.gh,r'.wg,r'.wh,λj v e1 e2=>?_⟩;obtain ⟨b,h1,h2⟩:=zft eb e1;obtain ⟨v',h3,h4⟩:=r'.sl j b h2;have hj:j<ks.length:=(wam.mp e1).1;have hp:Y'[j]? = (L2.start N vs)[j]? := r'.pin j (by show j∈zsm ks;unfold zsm;rw[List.mem_filter];exact ⟨List.mem_range.mpr hj,by simp[e1]⟩)
   have hs:(L2.start N vs)[j]? = some (some v):=by unfold L2.start;rw[List.getElem?_append_left (by simpa using (List.getElem?_eq_some_iff.mp e2).1),List.getElem?_map,e2];rfl
   rw[hp,hs] at h3;cases h3;exact ⟨b,h1,h4⟩
  cases ef:fb (bs.map some++List.replicate m none) with
  |ok z =>
   obtain ⟨fl,Z'⟩:=z;rw[ef,R.bind_ok] at er;cases fl with
   |nx =>
    cases nw with
    |true=>rw[er] at hF';exact hF'.elim
    |false =>
     intro Y' G' H' w' s' r';have er:za1 false ks m fb bs=(zaJ ks Z').bind λl=>.ok (.non,l):=er;cases eb:zaJ ks Z' with
     |ok l =>
      rw[er] at hF';simp only[eb,R.bind_ok] at hF';exact hF' _ G' H' w' s' (back eb r') (by unfold RtG Rep;rfl)
     |er n=>exact absurd eb zeZ
     |no=>rw[er] at hF';simp only[eb,R.bind_no] at hF'
   |rt d =>
    intro v Y' G' H' w' s' r' q;cases eb:zaJ ks Z' with
    |ok l =>
     rw[er] at hF';simp only[eb,R.bind_ok] at hF';exact hF' _ G' H' w' s' (back eb r') q
    |er n=>exact absurd eb zeZ
    |no=>rw[er] at hF';simp only[eb,R.bind_no] at hF'
   |bk=>rw[er] at hF';exact hF'.elim
   |ct=>rw[er] at hF';exact hF'.elim
  |er n =>
   show za1 nw ks m fb bs=.er n;rw[er,ef];rfl
  |no=>rw[er,ef] at hF';exact hF'.elim
theorem xwQ{P:Program}{w:World}{K:W.Frag}{mg:Str->Option Value}{base:Heap}{xq qual:Str}{st:Stmt}{N:List Str}{xv:Nat->Value}{m:Nat}{fb:DS}(nw:Bool)(lv:zsU CX P w K mg base)(F:Fun K xq qual st f fd)(S:za6 N ps (zak st))(hl:ps.length=ks.length)(hm:N.length=ks.length+m)
  (hbody:∀ cdv A outer s H E cG cH cw cσ cex,nw=nw->zfK k (zrZ CX P w K mg base N qual (zak st) f cdv A outer s H E).A->ze1 CX (zrZ CX P w K mg base N qual (zak st) f cdv A outer s H E) (EXc (⟨cG,cH,cw,zsm ks,cσ,cex,xv,nw⟩:Cn))->PassesOwn (model (zrZ CX P w K mg base N qual (zak st) f cdv A outer s H E).prog (zrZ CX P w K mg base N qual (zak st) f cdv A outer s H E).w) (zrZ CX P w K mg base N qual (zak st) f cdv A outer s H E).A (zrZ CX P w K mg base N qual (zak st) f cdv A outer s H E).env (zrZ CX P w K mg base N qual (zak st) f cdv A outer s H E).xe->JSs (zrZ CX P w K mg base N qual (zak st) f cdv A outer s H E) (⟨cG,cH,cw,zsm ks,cσ,cex,xv,nw⟩:Cn) (zdS st) fb) :
  zgt P w K mg base CX (k+1) f fd ps (zqR nw K xv ks (za1 nw ks m fb)):=zaC nw lv F S hl hm λX ⟨cG,cH,cw,_,cσ,cex,_,_⟩ ⟨cdv,A,outer,s,H,E,e⟩ h1 h2 h3=>by subst e;dsimp only at h1 h2 h3;subst h1 h2 h3;exact hbody cdv A outer s H E cG cH cw cσ cex rfl
end
mutual
def zf8:Dt->PyData
 |.non=>.none
 |.bl b=>.bool b
 |.int i=>.int i
 |.str x=>.str x
 |.tup l=>.tuple (zfj l)
 |.lst l=>.list (zfj l)
 |.dct _=>.dict []
 |.scr ns=>.list (ns.map .int)
def zfj:List Dt->List PyData
 |[]=>[]
 |d::ds=>zf8 d::zfj ds
end
def okN:Nat->Dt->Bool
 |_,.non=>true
 |_,.bl _=>true
 |_,.int _=>true
 |_,.str x=>PySem.PyData.strOk x
 |0,.tup _=>false
 |0,.lst _=>false
 |n+1,.tup l=>l.all (okN n)
 |n+1,.lst l=>l.all (okN n)
 |_,.dct _=>false
 |_,.scr _=>false
mutual
def eqD:Dt->Dt->Bool
 |.non,.non=>true
 |.bl a,.bl b=>a == b
 |.bl a,.int j=>(if a then 1 else 0) == j
 |.int i,.bl b=>i == (if b then 1 else 0)
 |.int i,.int j=>i == j
 |.str x,.str y=>x == y
 |.lst xs,.lst ys=>zgD xs ys
 |.tup xs,.tup ys=>zgD xs ys
 |_,_=>false
def zgD:List Dt->List Dt->Bool
 |[],[]=>true
 |x::xs,y::ys=>eqD x y && zgD xs ys
 |_,_=>false
end
theorem zjY{n:Nat}(ih:∀ d,okN n d=true->(zf8 d).canLay0=true/\(zf8 d).depth<=n):∀ l:List Dt,l.all (okN n)=true->PyData.canLayAll0 (zfj l)=true/\PyData.depthAll (zfj l)<=n
 |[],_=>by simp[zfj,PyData.canLayAll0,PyData.depthAll]
 |d::ds,h=>by simp only[List.all_cons,wae] at h;obtain ⟨h1,h2⟩:=ih d h.1;obtain ⟨h3,h4⟩:=zjY ih ds h.2;simp only[zfj,PyData.canLayAll0,PyData.depthAll,h1,h3,Bool.and_self,true_and];lia
theorem zlq:∀(n:Nat)(d:Dt),okN n d=true->(zf8 d).canLay0=true/\(zf8 d).depth<=n
 |n,.non,_=>by simp[zf8,PyData.canLay0,PyData.depth]
 |n,.bl _,_=>by simp[zf8,PyData.canLay0,PyData.depth]
 |n,.int _,_=>by simp[zf8,PyData.canLay0,PyData.depth]
 |n,.str x,h=>by
  have h:PySem.PyData.strOk x=true:=by cases n <;> simpa [okN] using h
  simp[zf8,PyData.canLay0,PyData.depth,h]
 |0,.tup _,h=>by simp[okN] at h
 |0,.lst _,h=>by simp[okN] at h
 |n+1,.tup l,h=>by obtain ⟨h1,h2⟩:=zjY (zlq n) l (by simpa [okN] using h);simp only[zf8,PyData.canLay0,PyData.depth,h1,true_and];lia
 |n+1,.lst l,h=>by obtain ⟨h1,h2⟩:=zjY (zlq n) l (by simpa [okN] using h);simp only[zf8,PyData.canLay0,PyData.depth,h1,true_and];lia
 |n,.dct _,h=>by cases n <;> simp[okN] at h
 |n,.scr _,h=>by cases n <;> simp[okN] at h
mutual
theorem znb:∀(n:Nat)(x y:Dt),okN n x=true->okN n y=true->PyData.eqv (zf8 x) (zf8 y)=eqD x y
 |n,.non,y,h,h'=>by cases y <;> first|(cases n <;> simp[okN] at h';done)|simp[zf8,PyData.eqv,eqD]
 |n,.bl _,y,h,h'=>by cases y <;> first|(cases n <;> simp[okN] at h';done)|simp[zf8,PyData.eqv,eqD]
 |n,.int _,y,h,h'=>by cases y <;> first|(cases n <;> simp[okN] at h';done)|simp[zf8,PyData.eqv,eqD]
 |n,.str _,y,h,h'=>by cases y <;> first|(cases n <;> simp[okN] at h';done)|simp[zf8,PyData.eqv,eqD]
 |0,.tup _,y,h,h'=>by simp[okN] at h
 |0,.lst _,y,h,h'=>by simp[okN] at h
 |n+1,.tup l,y,h,h'=>by
  cases y with
  |tup l'=>simp only[zf8,PyData.eqv,eqD];exact zmd n l l' (by simpa [okN] using h) (by simpa [okN] using h')
  |dct _=>simp[okN] at h'
  |scr _=>simp[okN] at h'
  |_=>simp[zf8,PyData.eqv,eqD]
 |n+1,.lst l,y,h,h'=>by
  cases y with
  |lst l'=>simp only[zf8,PyData.eqv,eqD];exact zmd n l l' (by simpa [okN] using h) (by simpa [okN] using h')
  |dct _=>simp[okN] at h'
  |scr _=>simp[okN] at h'
  |_=>simp[zf8,PyData.eqv,eqD]
 |n,.dct _,y,h,h'=>by cases n <;> simp[okN] at h
 |n,.scr _,y,h,h'=>by cases n <;> simp[okN] at h
theorem zmd:∀(n:Nat)(x y:List Dt),x.all (okN n)=true->y.all (okN n)=true->PyData.eqvAll (zfj x) (zfj y)=zgD x y
 |n,[],[],_,_=>by simp[zfj,PyData.eqvAll,zgD]
 |n,[],_::_,_,_=>by simp[zfj,PyData.eqvAll,zgD]
 |n,_::_,[],_,_=>by simp[zfj,PyData.eqvAll,zgD]
 |n,a::as,b::bs,h,h'=>by simp only[List.all_cons,wae] at h h';simp only[zfj,PyData.eqvAll,zgD];rw[znb n a b h.1 h'.1,zmd n as bs h.2 h'.2]
end
section
variable{X:Cx}{pS:List (Addr×Obj)}{Y:L2.St}{H:Hp}{s:Shared}
mutual
theorem zdT(I:L2.Inv X pS Y H s):∀(n:Nat)(d:Dt)(v:V)(u:Value),okN n d=true->Rep X.K H d v->zch v u->∃ as,Reads s.heap u (zf8 d) as
 |n,.non,v,u,_,h,r=>by rw[zh3 h] at r;cases r;exact ⟨[],by simp only[zf8];exact .none⟩
 |n,.bl b,v,u,_,h,r=>by rw[zet h] at r;cases r;exact ⟨[],by simp only[zf8];exact .bool _⟩
 |n,.int b,v,u,_,h,r=>by rw[zaz h] at r;obtain ⟨t,rfl⟩:=r;exact ⟨[],by simp only[zf8];exact .int _ _⟩
 |n,.str b,v,u,_,h,r=>by rw[zgx h] at r;obtain ⟨t,rfl⟩:=r;exact ⟨[],by simp only[zf8];exact .str _ _⟩
 |0,.tup l,v,u,hk,h,r=>by simp[okN] at hk
 |0,.lst l,v,u,hk,h,r=>by simp[okN] at hk
 |n+1,.tup l,v,u,hk,h,r=>by obtain ⟨a,vs,rfl,h1,h2⟩:=zb4 h;cases r;obtain ⟨its,rv,⟨o,e,c,k,dd⟩,_⟩:=I.tuple h1;obtain ⟨as,q⟩:=zfC I n l vs its (by simpa [okN] using hk) h2 rv;exact ⟨as,by simp only[zf8];exact .tuple e c dd (by simpa using q)⟩
 |n+1,.lst l,v,u,hk,h,r=>by obtain ⟨a,vs,rfl,h1,h2⟩:=zaR h;cases r;obtain ⟨its,rv,⟨o,k,e,c,_,dd⟩,_⟩:=I.list (SqL.of h1);obtain ⟨as,q⟩:=zfC I n l vs its (by simpa [okN] using hk) h2 rv;exact ⟨a::as,by simp only[zf8];exact .list e c dd (by simpa using q)⟩
 |n,.dct _,v,u,hk,h,r=>by cases n <;> simp[okN] at hk
 |n,.scr _,v,u,hk,h,r=>by cases n <;> simp[okN] at hk
theorem zfC(I:L2.Inv X pS Y H s):∀(n:Nat)(ds:List Dt)(vs:List V)(us:List Value),ds.all (okN n)=true->za4 X.K H ds vs->zaY vs us->∃ as,ReadsAll s.heap us (zfj ds) as
 |n,[],vs,us,_,h,r=>by rw[h.nil_inv] at r;cases r;exact ⟨[],by simp only[zfj];exact .nil⟩
 |n,d::ds,vs,us,hk,h,r=>by
  obtain ⟨v,t,rfl,h1,h2⟩:=h.cons_inv;cases r with
  |cons r1 r2 =>
   simp only[List.all_cons,wae] at hk;obtain ⟨as,q1⟩:=zdT I n d v _ hk.1 h1 r1;obtain ⟨bs,q2⟩:=zfC I n ds t _ hk.2 h2 r2;exact ⟨as++bs,by simp only[zfj];exact .cons q1 q2⟩
end
mutual
theorem zpe(I:L2.Inv X pS Y H s):∀(n:Nat)(d d':Dt)(v:V),okN n d=true->okN n d'=true->Rep X.K H d v->Rep X.K H d' v->d=d'
 |n,.non,d',v,hk,hk',h,h'=>by rw[zh3 h] at h';cases d' <;> unfold Rep at h' <;> first|(obtain ⟨a,vs,z,_⟩:=h';cases z;done)|(obtain ⟨a,z,_⟩:=h';cases z;done)|(cases h';rfl)|(cases h';done)|rfl
 |n,.bl b,d',v,hk,hk',h,h'=>by rw[zet h] at h';cases d' <;> unfold Rep at h' <;> first|(obtain ⟨a,vs,z,_⟩:=h';cases z;done)|(obtain ⟨a,z,_⟩:=h';cases z;done)|(cases h';rfl)|(cases h';done)|rfl
 |n,.int b,d',v,hk,hk',h,h'=>by rw[zaz h] at h';cases d' <;> unfold Rep at h' <;> first|(obtain ⟨a,vs,z,_⟩:=h';cases z;done)|(obtain ⟨a,z,_⟩:=h';cases z;done)|(cases h';rfl)|(cases h';done)|rfl
 |n,.str b,d',v,hk,hk',h,h'=>by rw[zgx h] at h';cases d' <;> unfold Rep at h' <;> first|(obtain ⟨a,vs,z,_⟩:=h';cases z;done)|(obtain ⟨a,z,_⟩:=h';cases z;done)|(cases h';rfl)|(cases h';done)|rfl
 |0,.tup l,d',v,hk,_,h,h'=>by simp[okN] at hk
 |0,.lst l,d',v,hk,_,h,h'=>by simp[okN] at hk
 |n+1,.tup l,d',v,hk,hk',h,h'=>by
  obtain ⟨a,vs,rfl,h1,h2⟩:=zb4 h;cases d' with
  |tup l' =>
   obtain ⟨a',vs',e,h3,h4⟩:=zb4 h';cases e;rw[I.tuple_inj h3 h1] at h4;rw[zj2 I n l l' vs (by simpa [okN] using hk) (by simpa [okN] using hk') h2 h4]
  |lst l' =>
   obtain ⟨a',vs',e,h3,h4⟩:=zaR h';cases e;obtain ⟨its,rv,⟨o,e,c,k,dd⟩,_⟩:=I.tuple h1;obtain ⟨its',rv',⟨o',k',e',c',_,dd'⟩,_⟩:=I.list (SqL.of h3);rw[e] at e';cases e';rw[c] at c';exact absurd c' xwd
  |dct _=>simp[okN] at hk'
  |scr _=>simp[okN] at hk'
  |non=>cases zh3 h'
  |bl _=>cases zet h'
  |int _=>cases zaz h'
  |str _=>cases zgx h'
 |n+1,.lst l,d',v,hk,hk',h,h'=>by
  obtain ⟨a,vs,rfl,h1,h2⟩:=zaR h;cases d' with
  |lst l' =>
   obtain ⟨a',vs',e,h3,h4⟩:=zaR h';cases e;rw[h1] at h3;cases h3;rw[zj2 I n l l' vs (by simpa [okN] using hk) (by simpa [okN] using hk') h2 h4]
  |tup l' =>
   obtain ⟨a',vs',e,h3,h4⟩:=zb4 h';cases e;obtain ⟨its,rv,⟨o,e,c,k,dd⟩,_⟩:=I.tuple h3;obtain ⟨its',rv',⟨o',k',e',c',_,dd'⟩,_⟩:=I.list (SqL.of h1);rw[e] at e';cases e';rw[c] at c';exact absurd c' xwd
  |dct _=>simp[okN] at hk'
  |scr _=>simp[okN] at hk'
  |non=>cases zh3 h'
  |bl _=>cases zet h'
  |int _=>cases zaz h'
  |str _=>cases zgx h'
 |n,.dct _,d',v,hk,_,h,h'=>by cases n <;> simp[okN] at hk
 |n,.scr _,d',v,hk,_,h,h'=>by cases n <;> simp[okN] at hk
theorem zj2(I:L2.Inv X pS Y H s):∀(n:Nat)(ds ds':List Dt)(vs:List V),ds.all (okN n)=true->ds'.all (okN n)=true->za4 X.K H ds vs->za4 X.K H ds' vs->ds=ds'
 |n,[],ds',vs,_,_,h,h'=>by
  rw[h.nil_inv] at h';cases ds' with
  |nil=>rfl
  |cons d t=>obtain ⟨v,r,z,_⟩:=h'.cons_inv;cases z
 |n,d::ds,ds',vs,hk,hk',h,h'=>by
  obtain ⟨v,t,rfl,h1,h2⟩:=h.cons_inv;cases ds' with
  |nil=>cases h'.nil_inv
  |cons d' t' =>
   obtain ⟨v',r',z,h3,h4⟩:=h'.cons_inv;cases z;simp only[List.all_cons,wae] at hk hk';rw[zpe I n d d' v hk.1 hk'.1 h1 h3,zj2 I n ds t' t hk.2 hk'.2 h2 h4]
end
end
def zx5(K:W.Frag)(neg:Bool):R2:=λx y H Q=>∃ dx dy,Rep K H dx x/\Rep K H dy y/\okN 60 dx=true/\okN 60 dy=true/\Q (.bl (if neg then !eqD dx dy else eqD dx dy)) H
theorem zfR{d:Dt}(h:okN 60 d=true):SeqAt.shaped (zf8 d)=true:=by obtain ⟨h1,h2⟩:=zlq 60 d h;unfold SeqAt.shaped;rw[h1,Bool.true_and];exact wat xwl
section
variable{X:Cx}
theorem zsP(hu:X.A.units+64<cLine):OpR X (compareOp .Eq) (zx5 X.K false):=by intro pS s Y H x y v u Q I rx ry h;obtain ⟨dx,dy,h1,h2,h3,h4,q⟩:=h;obtain ⟨as,ra⟩:=zdT I 60 dx x v h3 h1 rx;obtain ⟨bs,rb⟩:=zdT I 60 dy y u h4 h2 ry;exact PyProof.Rows.eq_dataH ra rb (zfR h3) (zfR h4) hu ⟨.bl (eqD dx dy),H,I,(by rw[znb 60 dx dy h3 h4];rfl),q⟩
theorem zsO(hu:X.A.units+64<cLine):OpR X (compareOp .NotEq) (zx5 X.K true):=by intro pS s Y H x y v u Q I rx ry h;obtain ⟨dx,dy,h1,h2,h3,h4,q⟩:=h;obtain ⟨as,ra⟩:=zdT I 60 dx x v h3 h1 rx;obtain ⟨bs,rb⟩:=zdT I 60 dy y u h4 h2 ry;exact PyProof.Rows.ne_dataH ra rb (zfR h3) (zfR h4) hu ⟨.bl (!eqD dx dy),H,I,(by rw[znb 60 dx dy h3 h4];rfl),q⟩
def gEq(neg:Bool):Dt->Dt->R Dt:=λx y=>if (okN 60 x && okN 60 y)=true then .ok (.bl (if neg then !eqD x y else eqD x y)) else .no
theorem zlQ(neg:Bool):zmw (gEq neg):=λx y n h=>by unfold gEq at h;split at h <;> cases h
theorem zpT{K:W.Frag}(neg:Bool):Op2 K (zx5 K neg) (gEq neg):=λG H x y dx dy z Q gh hx hy e k=>by
 unfold gEq at e;split at e
 ·rename_i h;rw[Bool.and_eq_true] at h;cases e;exact ⟨dx,dy,hx.same gh,hy.same gh,h.1,h.2,k _ G H (.refl gh) (by unfold Rep;rfl)⟩
 ·cases e
theorem zuR{pS:List (Addr×Obj)}{Y:L2.St}{H:Hp}{s:Shared}(I:L2.Inv X pS Y H s){A:Around}(hu:A.units+64<cLine){dx dy:Dt}{x y:V}{v u:Value}(h3:okN 60 dx=true)(h4:okN 60 dy=true)(h1:Rep X.K H dx x)(h2:Rep X.K H dy y)(rx:zch x v)(ry:zch y u) :
  SeqAt.EqAt A s v u (eqD dx dy):=by
 obtain ⟨as,ra⟩:=zdT I 60 dx x v h3 h1 rx;obtain ⟨bs,rb⟩:=zdT I 60 dy y u h4 h2 ry;obtain ⟨k1,k2⟩:=zlq 60 dx h3;obtain ⟨k3,k4⟩:=zlq 60 dy h4;have:=SeqAt.eqAt_reads (zf8 dx) (zf8 dy) A s v u as bs ra rb k1 k3 xwl;rw[znb 60 dx dy h3 h4] at this;exact this
open Classical in
noncomputable def zkp(K:W.Frag)(H:Hp)(dx:Dt)(u:Value):Bool:=if ∃ d v,okN 60 d=true/\Rep K H d v/\zch v u/\eqD d dx=true then true else false
theorem zmc{pS:List (Addr×Obj)}{Y:L2.St}{H:Hp}{s:Shared}(I:L2.Inv X pS Y H s){d dx:Dt}{v:V}{u:Value}(hk:okN 60 d=true)(h:Rep X.K H d v)(r:zch v u):zkp X.K H dx u=eqD d dx:=by
 unfold zkp;split
 ·rename_i q;obtain ⟨d',v',k',h',r',e'⟩:=q;have ev:v'=v:=r'.inj r;subst ev;rw[zpe I 60 d d' v' hk k' h h'];exact e'.symm
 ·rename_i q;cases e:eqD d dx with
  |false=>rfl
  |true=>exact absurd ⟨d,v,hk,h,r,e⟩ q
theorem zfX{pS:List (Addr×Obj)}{Y:L2.St}{H:Hp}{s:Shared}(I:L2.Inv X pS Y H s){dx:Dt}:∀{ds:List Dt}{vs:List V}{us:List Value},ds.all (okN 60)=true->za4 X.K H ds vs->zaY vs us->us.any (zkp X.K H dx)=ds.any λd=>eqD d dx
 |[],vs,us,_,h,r=>by rw[h.nil_inv] at r;cases r;rfl
 |d::ds,vs,us,hk,h,r=>by
  obtain ⟨v,t,rfl,h1,h2⟩:=h.cons_inv;cases r with
  |cons r1 r2 =>
   simp only[List.all_cons,wae] at hk;simp only[List.any_cons];rw[zmc I hk.1 h1 r1,zfX I hk.2 h2 r2]
theorem zdO{pS:List (Addr×Obj)}{Y:L2.St}{H:Hp}{s:Shared}(I:L2.Inv X pS Y H s){A:Around}(hu:A.units+64<cLine){dx:Dt}{x:V}{v:Value}(hk:okN 60 dx=true)(hx:Rep X.K H dx x)(rx:zch x v):∀{ds:List Dt}{vs:List V}{us:List Value},ds.all (okN 60)=true->za4 X.K H ds vs->zaY vs us->∀ u∈us,SeqAt.EqAt A s u v (zkp X.K H dx u)
 |[],vs,us,_,h,r,u,hu=>by rw[h.nil_inv] at r;cases r;cases hu
 |d::ds,vs,us,hks,h,r,u,hm=>by
  obtain ⟨v,t,rfl,h1,h2⟩:=h.cons_inv;cases r with
  |cons r1 r2 =>
   simp only[List.all_cons,wae] at hks;rcases wap.mp hm with rfl|hm
   ·rw[zmc I hks.1 h1 r1];exact zuR I hu hks.1 hk h1 hx r1 rx
   ·exact zdO I hu hk hx rx hks.2 h2 r2 u hm
def inD(x:Dt)(l:List Dt):Bool:=l.any λd=>eqD d x
def zxG(K:W.Frag)(neg:Bool):R2:=λx y H Q=>∃ dx ds,Rep K H dx x/\(Rep K H (.lst ds) y\/Rep K H (.tup ds) y)/\okN 60 dx=true/\ds.all (okN 60)=true/\Q (.bl (if neg then !inD dx ds else inD dx ds)) H
theorem zhH(A:Around):A.in1.units=A.units+1:=rfl
theorem zqp(hu:X.A.units+65<cLine):OpR X (compareOp .In) (zxG X.K false):=by
 intro pS s Y H x y v u Q I rx ry h;obtain ⟨dx,ds,h1,h2,h3,h4,q⟩:=h;have hu1:X.A.in1.units+64<cLine:=by rw[zhH];lia
 rcases h2 with h2|h2
 ·obtain ⟨a,vs,rfl,k1,k2⟩:=zaR h2;cases ry;obtain ⟨its,r,pl,hz⟩:=I.list (SqL.of k1);refine SeqAt.in_listAt (zkp X.K H dx) pl.isList (λw hw=>zdO I hu1 h3 h1 rx h4 k2 r w (by simpa using hw)) ⟨.bl _,H,I,rfl,?_⟩;rw[show its.toArray.any (zkp X.K H dx)=its.any (zkp X.K H dx) by simp,zfX I h4 k2 r];exact q
 ·obtain ⟨a,vs,rfl,k1,k2⟩:=zb4 h2;cases ry;obtain ⟨its,r,pl,hz⟩:=I.tuple k1;refine SeqAt.in_tupleAt (zkp X.K H dx) pl (λw hw=>zdO I hu1 h3 h1 rx h4 k2 r w (by simpa using hw)) ⟨.bl _,H,I,rfl,?_⟩;rw[show its.toArray.any (zkp X.K H dx)=its.any (zkp X.K H dx) by simp,zfX I h4 k2 r];exact q
theorem zq1(hu:X.A.units+65<cLine):OpR X (compareOp .NotIn) (zxG X.K true):=by
 intro pS s Y H x y v u Q I rx ry h;obtain ⟨dx,ds,h1,h2,h3,h4,q⟩:=h;have hu1:X.A.in1.units+64<cLine:=by rw[zhH];lia
 rcases h2 with h2|h2
 ·obtain ⟨a,vs,rfl,k1,k2⟩:=zaR h2;cases ry;obtain ⟨its,r,pl,hz⟩:=I.list (SqL.of k1);refine SeqAt.notIn_listAt (zkp X.K H dx) pl.isList (λw hw=>zdO I hu1 h3 h1 rx h4 k2 r w (by simpa using hw)) ⟨.bl _,H,I,rfl,?_⟩;rw[show its.toArray.any (zkp X.K H dx)=its.any (zkp X.K H dx) by simp,zfX I h4 k2 r];exact q
 ·obtain ⟨a,vs,rfl,k1,k2⟩:=zb4 h2;cases ry;obtain ⟨its,r,pl,hz⟩:=I.tuple k1;refine SeqAt.notIn_tupleAt (zkp X.K H dx) pl (λw hw=>zdO I hu1 h3 h1 rx h4 k2 r w (by simpa using hw)) ⟨.bl _,H,I,rfl,?_⟩;rw[show its.toArray.any (zkp X.K H dx)=its.any (zkp X.K H dx) by simp,zfX I h4 k2 r];exact q
def gIn(neg:Bool):Dt->Dt->R Dt:=λx y=>match y with
 |.lst ds=>if (okN 60 x && ds.all (okN 60))=true then .ok (.bl (if neg then !inD x ds else inD x ds)) else .no
 |.tup ds=>if (okN 60 x && ds.all (okN 60))=true then .ok (.bl (if neg then !inD x ds else inD x ds)) else .no
 |_=>.no
theorem zlL(neg:Bool):zmw (gIn neg):=λx y n h=>by
 unfold gIn at h;split at h
 ·split at h <;> cases h
 ·split at h <;> cases h
 ·cases h
theorem zqD{K:W.Frag}(neg:Bool):Op2 K (zxG K neg) (gIn neg):=λG H x y dx dy z Q gh hx hy e k=>by
 unfold gIn at e;split at e
 ·split at e
  ·rename_i h;rw[Bool.and_eq_true] at h;cases e;exact ⟨dx,_,hx.same gh,.inl (hy.same gh),h.1,h.2,k _ G H (.refl gh) (by unfold Rep;rfl)⟩
  ·cases e
 ·split at e
  ·rename_i h;rw[Bool.and_eq_true] at h;cases e;exact ⟨dx,_,hx.same gh,.inr (hy.same gh),h.1,h.2,k _ G H (.refl gh) (by unfold Rep;rfl)⟩
  ·cases e
 ·cases e
end
def zdb(i:Int):Bool:=decide (-18446744073709551616<i) && decide (i<18446744073709551616)
theorem ziF{i:Int}(h:zdb i=true):-(2 ^ 64)<i/\i<2 ^ 64:=by unfold zdb at h;rw[Bool.and_eq_true] at h;have h1:=of_decide_eq_true h.1;have h2:=of_decide_eq_true h.2;lia
def zeK:Dt->Dt->R Dt
 |.int i,.int j=>.ok (.int (i+j))
 |_,_=>.no
def zk4:Dt->Dt->R Dt
 |.int i,.int j=>.ok (.int (i-j))
 |_,_=>.no
def zqq:Dt->Dt->R Dt
 |.int i,.int j=>if (zdb i || zdb j)=true then .ok (.int (i * j)) else .no
 |_,_=>.no
def zss:Dt->Dt->R Dt
 |.int i,.int j=>if 0<j/\j<1073741824 then .ok (.int (i / j)) else .no
 |_,_=>.no
def zow:Dt->Dt->R Dt
 |.int i,.int j=>if 0<j then .ok (.int (i % j)) else .no
 |_,_=>.no
def zst:Dt->Dt->R Dt
 |.int i,.int j=>if 0<=j/\j<=1000/\i.natAbs<18446744073709551616 then .ok (.int (i ^ j.toNat)) else .no
 |_,_=>.no
def zra(f:Int->Int->Bool):Dt->Dt->R Dt
 |.int i,.int j=>.ok (.bl (f i j))
 |_,_=>.no
section
variable{K:W.Frag}
theorem za7{G:Hp}(i:Int):Rep K G (.int i) (.int i):=by unfold Rep;rfl
theorem zdJ{G:Hp}(b:Bool):Rep K G (.bl b) (.bl b):=by unfold Rep;rfl
theorem zrn:Op2 K (rI0 λi j=>.int (i+j)) zeK:=λG H x y dx dy z Q gh hx hy e k=>by
 unfold zeK at e;split at e
 ·cases e;exact ⟨_,_,zaz hx,zaz hy,k _ G H (.refl gh) (za7 _)⟩
 ·cases e
theorem zuB:Op2 K (rI0 λi j=>.int (i-j)) zk4:=λG H x y dx dy z Q gh hx hy e k=>by
 unfold zk4 at e;split at e
 ·cases e;exact ⟨_,_,zaz hx,zaz hy,k _ G H (.refl gh) (za7 _)⟩
 ·cases e
theorem zuO:Op2 K (rI zx8 λi j=>.int (i * j)) zqq:=λG H x y dx dy z Q gh hx hy e k=>by
 unfold zqq at e;split at e
 ·split at e
  ·rename_i h;cases e;rw[Bool.or_eq_true] at h;exact ⟨_,_,zaz hx,zaz hy,h.elim (λz=>.inl (ziF z)) (λz=>.inr (ziF z)),k _ G H (.refl gh) (za7 _)⟩
  ·cases e
 ·cases e
theorem zu0:Op2 K (rI CDiv λi j=>.int (i / j)) zss:=λG H x y dx dy z Q gh hx hy e k=>by
 unfold zss at e;split at e
 ·split at e
  ·rename_i h;cases e;exact ⟨_,_,zaz hx,zaz hy,h,k _ G H (.refl gh) (za7 _)⟩
  ·cases e
 ·cases e
theorem ztX:Op2 K (rI (λ_ j=>0<j) λi j=>.int (i % j)) zow:=λG H x y dx dy z Q gh hx hy e k=>by
 unfold zow at e;split at e
 ·split at e
  ·rename_i h;cases e;exact ⟨_,_,zaz hx,zaz hy,h,k _ G H (.refl gh) (za7 _)⟩
  ·cases e
 ·cases e
theorem zuF:Op2 K (rI zx9 λi j=>.int (i ^ j.toNat)) zst:=λG H x y dx dy z Q gh hx hy e k=>by
 unfold zst at e;split at e
 ·split at e
  ·rename_i h;cases e;exact ⟨_,_,zaz hx,zaz hy,⟨h.1,xwl,by have:=h.2.2;lia⟩,k _ G H (.refl gh) (za7 _)⟩
  ·cases e
 ·cases e
theorem zmr{f:Int->Int->Bool}:Op2 K (rI0 λi j=>.bl (f i j)) (zra f):=λG H x y dx dy z Q gh hx hy e k=>by
 unfold zra at e;split at e
 ·cases e;exact ⟨_,_,zaz hx,zaz hy,k _ G H (.refl gh) (zdJ _)⟩
 ·cases e
theorem zpF:zmw zeK:=λx y n h=>by unfold zeK at h;split at h <;> cases h
theorem zsq:zmw zk4:=λx y n h=>by unfold zk4 at h;split at h <;> cases h
theorem zrI:zmw zqq:=λx y n h=>by unfold zqq at h;split at h <;> first|cases h|(split at h <;> cases h)
theorem zsF:zmw zss:=λx y n h=>by unfold zss at h;split at h <;> first|cases h|(split at h <;> cases h)
theorem zsn:zmw zow:=λx y n h=>by unfold zow at h;split at h <;> first|cases h|(split at h <;> cases h)
theorem zrM:zmw zst:=λx y n h=>by unfold zst at h;split at h <;> first|cases h|(split at h <;> cases h)
theorem zj8{f:Int->Int->Bool}:zmw (zra f):=λx y n h=>by unfold zra at h;split at h <;> cases h
end
section
variable{X:Cx}{C:Cn}{a b:Expr}{fa fb:De}{pos:Pos}
theorem zfA(ha:JE X C a fa)(hb:JE X C b fb):JE X C (.BinOp a .Add b pos) (dOp zeK fa fb):=zin zvQ zrn zpF ha hb
theorem zkD(ha:JE X C a fa)(hb:JE X C b fb):JE X C (.BinOp a .Sub b pos) (dOp zk4 fa fb):=zin zwP zuB zsq ha hb
theorem zlg(ha:JE X C a fa)(hb:JE X C b fb):JE X C (.BinOp a .Mult b pos) (dOp zqq fa fb):=zin zvK zuO zrI ha hb
theorem ztg(ha:JE X C a fa)(hb:JE X C b fb):JE X C (.BinOp a .FloorDiv b pos) (dOp zss fa fb):=zin zvb zu0 zsF ha hb
theorem ziJ(ha:JE X C a fa)(hb:JE X C b fb):JE X C (.BinOp a .Mod b pos) (dOp zow fa fb):=zin zxb ztX zsn ha hb
theorem ztz(ha:JE X C a fa)(hb:JE X C b fb):JE X C (.BinOp a .Pow b pos) (dOp zst fa fb):=zin zvY zuF zrM ha hb
abbrev gLt:=zra λi j=>decide (i<j)
abbrev gGt:=zra λi j=>decide (j<i)
abbrev gGe:=zra λi j=>decide (j<=i)
theorem zon(hu:X.A.units+64<cLine)(ha:JE X C a fa)(hb:JE X C b fb):JE X C (.Compare a [.Eq] [b] pos) (dOp (gEq false) fa fb):=zsJ (zsP hu) (zpT false) (zlQ false) ha hb (zhI _)
theorem zwW(hu:X.A.units+65<cLine)(ha:JE X C a fa)(hb:JE X C b fb)(hm:behindInMarks .In b=false:=by rfl):JE X C (.Compare a [.In] [b] pos) (dOp (gIn false) fa fb):=zsJ (zqp hu) (zqD false) (zlL false) ha hb hm
theorem zvc(ha:JE X C a fa)(hb:JE X C b fb):JT X C (.Compare a [.Lt] [b] pos) (dTB (dOp gLt fa fb)):=zhA zxZ zmr zj8 ha hb (zhI _)
theorem zp8(ha:JE X C a fa)(hb:JE X C b fb):JT X C (.Compare a [.Gt] [b] pos) (dTB (dOp gGt fa fb)):=zhA zxW zmr zj8 ha hb (zhI _)
theorem zxL(ha:JE X C a fa)(hb:JE X C b fb):JT X C (.Compare a [.GtE] [b] pos) (dTB (dOp gGe fa fb)):=zhA zyp zmr zj8 ha hb (zhI _)
theorem zfi(hu:X.A.units+64<cLine)(ha:JE X C a fa)(hb:JE X C b fb):JT X C (.Compare a [.Eq] [b] pos) (dTB (dOp (gEq false) fa fb)):=zhA (zsP hu) (zpT false) (zlQ false) ha hb (zhI _)
theorem znR(hu:X.A.units+64<cLine)(ha:JE X C a fa)(hb:JE X C b fb):JT X C (.Compare a [.NotEq] [b] pos) (dTB (dOp (gEq true) fa fb)):=zhA (zsO hu) (zpT true) (zlQ true) ha hb (zhI _)
theorem zwa(hu:X.A.units+65<cLine)(ha:JE X C a fa)(hb:JE X C b fb)(hm:behindInMarks .In b=false:=by rfl):JT X C (.Compare a [.In] [b] pos) (dTB (dOp (gIn false) fa fb)):=zhA (zqp hu) (zqD false) (zlL false) ha hb hm
theorem zsg(hu:X.A.units+65<cLine)(ha:JE X C a fa)(hb:JE X C b fb)(hm:behindInMarks .NotIn b=false:=by rfl):JT X C (.Compare a [.NotIn] [b] pos) (dTB (dOp (gIn true) fa fb)):=zhA (zq1 hu) (zqD true) (zlL true) ha hb hm
def zqZ(fa:De):De:=λZ=>(fa Z).bind λa=>match a.1 with
 |.int i=>.ok (.int (-i),a.2)
 |_=>.no
theorem zpv(ha:JE X C a fa):JE X C (.UnaryOp .USub a pos) (zqZ fa):=PE.weak (zx0 ztr ha) λY H Q ⟨G,w,Z,r,p⟩=>by
 refine ze4 (κ:=λG H w=>kE X.K C Y Q G H w) zcr r p λd Z1 v G1 H1 w1 r1 s1 q1 p1=>?_;cases d with
 |int i=>exact ⟨i,zaz q1,p1 _ G1 H1 w1 (.refl _ _ _) r1 (za7 _)⟩
 |_=>exact p1.elim
end
def FnR(K:W.Frag)(r:List V->Hp->VK->Prop)(g:List Dt->R Dt):Prop:=∀(G H:Hp)(vs:List V)(ds:List Dt)(z:Dt)(Q:VK),zd8 G H->za4 K G ds vs->g ds=.ok z ->
 (∀ v G' H',ze6 G H G' H'->Rep K G' z v->Q v H')->r vs H Q
def FnN(K:W.Frag)(r:List V->Hp->VK->Prop)(g:List Dt->R (List Dt)):Prop:=∀(G H:Hp)(vs:List V)(ds:List Dt)(z:List Dt)(Q:VK),zd8 G H->za4 K G ds vs->g ds=.ok z ->
 (∀ p zs,H p=none->za4 K G z zs->Q (.ref p) (upd H p (.lst zs)))->r vs H Q
def zlY{α:Type}(g:List Dt->R α):Prop:=∀ x n,g x≠.er n
def dFn(g:List Dt->R Dt)(fa:DA):De:=λZ=>(fa Z).bind λa=>(g a.1).bind λz=>.ok (z,a.2)
def ze3(g:List Dt->R (List Dt))(fa:DA):DN:=λZ=>(fa Z).bind λa=>(g a.1).bind λz=>.ok (z,a.2)
section
variable{X:Cx}{C:Cn}{e:Expr}{es:List Expr}{fa:DA}{p pos:Pos}{x:Str}{id T:String}{r:List V->Hp->VK->Prop}
theorem zpJ{g:List Dt->R Dt}{Y:L2.St}{H:Hp}{Q:VK}(h:FnR X.K r g)(he:zlY g)(t:tE X.K C (dFn g fa) Y H Q):tCB r (tAd X.K C fa) Y H Q:=by
 obtain ⟨G,w,Z,rr,p⟩:=t;refine zvW (κ:=λG H w=>kE X.K C Y Q G H w) zcr rr p λds Z1 vs G1 H1 w1 r1 s1 q1 p1=>?_;cases e:g ds with
 |ok z =>
  simp only[e,R.bind_ok] at p1;exact h G1 H1 vs ds z Q r1.gh q1 e λv G' H' gr q=>p1 v G' H' w1 gr.step (r1.grow gr) q
 |er n=>exact absurd e (he _ _)
 |no=>simp only[e,R.bind_no] at p1;exact p1.elim
theorem znj{g:List Dt->R (List Dt)}{Y:L2.St}{H:Hp}{Q:VK}(h:FnN X.K r g)(he:zlY g)(t:tN X.K C (ze3 g fa) Y H Q):tCB r (tAd X.K C fa) Y H Q:=by
 obtain ⟨G,w,Z,rr,p⟩:=t;refine zvW (κ:=λG H w=>kN X.K C Y Q G H w) zfk rr p λds Z1 vs G1 H1 w1 r1 s1 q1 p1=>?_;cases e:g ds with
 |ok z =>
  simp only[e,R.bind_ok] at p1;refine h G1 H1 vs ds z Q r1.gh q1 e λa zs ha q=>?_;have gr:ze6 G1 H1 G1 (upd H1 a (.lst zs)):=.newH r1.gh ha;exact p1 a zs G1 _ w1 gr.step (r1.grow gr) ha zar (r1.gh.free ha) (by
   cases z:w1 a with
   |none=>rfl
   |some k=>exact absurd ha (r1.wh a (by rw[z];simp))) q
 |er n=>exact absurd e (he _ _)
 |no=>simp only[e,R.bind_no] at p1;exact p1.elim
theorem zgZ{g:List Dt->R Dt}(h:FnR X.K r g)(he:zlY g)(hc:zdl X (.builtin id) r)(hg:Gl X x)(hm:X.mg x=none)(hv:bootBuiltins x=some (.builtin id))(ha:JA X C (e::es) fa)(hn:x≠"__name__":=by decide)(hdb:(x == ("__debug__" : Str))=false:=by decide)
  (hs:starEach (e::es) X.env=(false,eval e X.env)::starEach es X.env:=by rfl) (hpl:(backTo pos (starEach es X.env)).any (·.1)=false:=by rfl):JE X C (.Call (.Name x p) (e::es) [] pos) (dFn g fa) :=
 PE.weak (zeW hc hg hm hv ha hn hdb hs hpl) λY H Q t=>zpJ h he t
theorem zpl{g:List Dt->R Dt}(h:FnR X.K r g)(he:zlY g)(hc:zdl X (.type T) r)(hg:Gl X x)(hm:X.mg x=none)(hv:bootBuiltins x=some (.type T))(ha:JA X C (e::es) fa)(hn:x≠"__name__":=by decide)(hdb:(x == ("__debug__" : Str))=false:=by decide)
  (hs:starEach (e::es) X.env=(false,eval e X.env)::starEach es X.env:=by rfl) (hpl:(backTo pos (starEach es X.env)).any (·.1)=false:=by rfl):JE X C (.Call (.Name x p) (e::es) [] pos) (dFn g fa) :=
 PE.weak (zie hc hg hm hv ha hn hdb hs hpl) λY H Q t=>zpJ h he t
theorem zjv{g:List Dt->R (List Dt)}(h:FnN X.K r g)(he:zlY g)(hc:zdl X (.builtin id) r)(hg:Gl X x)(hm:X.mg x=none)(hv:bootBuiltins x=some (.builtin id))(ha:JA X C (e::es) fa)(hn:x≠"__name__":=by decide)(hdb:(x == ("__debug__" : Str))=false:=by decide)
  (hs:starEach (e::es) X.env=(false,eval e X.env)::starEach es X.env:=by rfl) (hpl:(backTo pos (starEach es X.env)).any (·.1)=false:=by rfl):JN X C (.Call (.Name x p) (e::es) [] pos) (ze3 g fa) :=
 PE.weak (zeW hc hg hm hv ha hn hdb hs hpl) λY H Q t=>znj h he t
theorem zqu{g:List Dt->R (List Dt)}(h:FnN X.K r g)(he:zlY g)(hc:zdl X (.type T) r)(hg:Gl X x)(hm:X.mg x=none)(hv:bootBuiltins x=some (.type T))(ha:JA X C (e::es) fa)(hn:x≠"__name__":=by decide)(hdb:(x == ("__debug__" : Str))=false:=by decide)
  (hs:starEach (e::es) X.env=(false,eval e X.env)::starEach es X.env:=by rfl) (hpl:(backTo pos (starEach es X.env)).any (·.1)=false:=by rfl):JN X C (.Call (.Name x p) (e::es) [] pos) (ze3 g fa) :=
 PE.weak (zie hc hg hm hv ha hn hdb hs hpl) λY H Q t=>znj h he t
end
def zc3:List Dt->R Dt
 |[.lst l]=>.ok (.int l.length)
 |[.tup l]=>.ok (.int l.length)
 |[.scr l]=>.ok (.int l.length)
 |[.str x]=>if x.length<=16777216 then .ok (.int x.length) else .no
 |_=>.no
def rLen(K:W.Frag):List V->Hp->VK->Prop:=λxs H Q=>(∃ p ys,xs=[.ref p]/\(SqL K H p ys\/SqT K H p ys)/\Q (.int ys.length) H)\/∃ z,xs=[.str z]/\z.length<=sizeLine/\Q (.int z.length) H
theorem zfM{K:W.Frag}{G:Hp}{d:Dt}{vs:List V}(h:za4 K G [d] vs):∃ v,vs=[v]/\Rep K G d v:=by obtain ⟨v,r,rfl,h1,h2⟩:=h.cons_inv;rw[h2.nil_inv];exact ⟨v,rfl,h1⟩
theorem zuX{K:W.Frag}{G:Hp}{d e:Dt}{vs:List V}(h:za4 K G [d,e] vs):∃ v u,vs=[v,u]/\Rep K G d v/\Rep K G e u:=by obtain ⟨v,r,rfl,h1,h2⟩:=h.cons_inv;obtain ⟨u,rfl,h3⟩:=zfM h2;exact ⟨v,u,rfl,h1,h3⟩
theorem zms{K:W.Frag}{G:Hp}{l:List Int}{v:V}(h:Rep K G (.scr l) v):∃ a,v=.ref a/\SqL K G a (l.map V.int):=by unfold Rep at h;exact h
section
variable{K:W.Frag}
theorem zwu:FnR K (rLen K) zc3:=λG H vs ds z Q gh hr e k=>by
 unfold zc3 at e;split at e
 ·obtain ⟨v,rfl,h1⟩:=zfM hr;obtain ⟨a,us,rfl,h2,h3⟩:=zaR h1;cases e;exact .inl ⟨a,us,rfl,.inl (SqL.of (gh _ _ h2)),by rw[<- h3.length];exact k _ G H (.refl gh) (za7 _)⟩
 ·obtain ⟨v,rfl,h1⟩:=zfM hr;obtain ⟨a,us,rfl,h2,h3⟩:=zb4 h1;cases e;exact .inl ⟨a,us,rfl,.inr (zaK gh h2),by rw[<- h3.length];exact k _ G H (.refl gh) (za7 _)⟩
 ·obtain ⟨v,rfl,h1⟩:=zfM hr;obtain ⟨a,rfl,h2⟩:=zms h1;cases e;exact .inl ⟨a,_,rfl,.inl (gh.seq h2),by rw[List.length_map];exact k _ G H (.refl gh) (za7 _)⟩
 ·split at e
  ·rename_i hx;obtain ⟨v,rfl,h1⟩:=zfM hr;cases e;exact .inr ⟨_,by rw[zgx h1],by rw[show sizeLine=16777216 from by decide];exact hx,k _ G H (.refl gh) (za7 _)⟩
  ·cases e
 ·cases e
theorem zwx:zlY zc3:=λx n h=>by unfold zc3 at h;split at h <;> first|cases h|(split at h <;> cases h)
def ziq:List Dt->R (List Dt)
 |[.lst l]=>.ok l
 |[.tup l]=>.ok l
 |_=>.no
theorem zur:FnN K (λxs H Q=>∃ p ys,xs=[.ref p]/\(SqL K H p ys\/SqT K H p ys)/\∀ l,H l=none->Q (.ref l) (upd H l (.lst ys))) ziq:=λG H vs ds z Q gh hr e k=>by
 unfold ziq at e;split at e
 ·obtain ⟨v,rfl,h1⟩:=zfM hr;obtain ⟨a,us,rfl,h2,h3⟩:=zaR h1;cases e;exact ⟨a,us,rfl,.inl (SqL.of (gh _ _ h2)),λl hl=>k l us hl h3⟩
 ·obtain ⟨v,rfl,h1⟩:=zfM hr;obtain ⟨a,us,rfl,h2,h3⟩:=zb4 h1;cases e;exact ⟨a,us,rfl,.inr (zaK gh h2),λl hl=>k l us hl h3⟩
 ·cases e
theorem zue:zlY ziq:=λx n h=>by unfold ziq at h;split at h <;> cases h
def zdd:List Dt->R Dt
 |[.lst l]=>.ok (.tup l)
 |[.tup l]=>.ok (.tup l)
 |_=>.no
theorem zsD:FnR K (λxs H Q=>∃ p ys,xs=[.ref p]/\((SqL K H p ys/\∀ l,H l=none->Q (.ref l) (upd H l (.tup ys)))\/(SqT K H p ys/\Q (.ref p) H))) zdd:=λG H vs ds z Q gh hr e k=>by
 unfold zdd at e;split at e
 ·obtain ⟨v,rfl,h1⟩:=zfM hr;obtain ⟨a,us,rfl,h2,h3⟩:=zaR h1;cases e;refine ⟨a,us,rfl,.inl ⟨SqL.of (gh _ _ h2),λl hl=>?_⟩⟩;have gr:ze6 G H (upd G l (.tup us)) (upd H l (.tup us)):=.new gh hl;exact k _ _ _ gr (by unfold Rep;exact ⟨l,us,rfl,zjo.of zar,h3.same gr.g⟩)
 ·obtain ⟨v,rfl,h1⟩:=zfM hr;obtain ⟨a,us,rfl,h2,h3⟩:=zeX h1;cases e;exact ⟨a,us,rfl,.inr ⟨zaK gh h2.sq,k _ G H (.refl gh) (by unfold Rep;exact ⟨a,us,rfl,h2,h3⟩)⟩⟩
 ·cases e
theorem zrC:zlY zdd:=λx n h=>by unfold zdd at h;split at h <;> cases h
def zki:List Dt->R Dt
 |[.int i,.int j]=>.ok (.int (if j > i then j else i))
 |_=>.no
def zjs:List Dt->R Dt
 |[.int i,.int j]=>.ok (.int (if j<i then j else i))
 |_=>.no
theorem zuG:FnR K (λxs H Q=>∃ i j,xs=[.int i,.int j]/\Q (.int (if j > i then j else i)) H) zki:=λG H vs ds z Q gh hr e k=>by
 unfold zki at e;split at e
 ·obtain ⟨v,u,rfl,h1,h2⟩:=zuX hr;cases e;exact ⟨_,_,by rw[zaz h1,zaz h2],k _ G H (.refl gh) (za7 _)⟩
 ·cases e
theorem zuy:FnR K (λxs H Q=>∃ i j,xs=[.int i,.int j]/\Q (.int (if j<i then j else i)) H) zjs:=λG H vs ds z Q gh hr e k=>by
 unfold zjs at e;split at e
 ·obtain ⟨v,u,rfl,h1,h2⟩:=zuX hr;cases e;exact ⟨_,_,by rw[zaz h1,zaz h2],k _ G H (.refl gh) (za7 _)⟩
 ·cases e
theorem ztR:zlY zki:=λx n h=>by unfold zki at h;split at h <;> cases h
theorem ztH:zlY zjs:=λx n h=>by unfold zjs at h;split at h <;> cases h
end
section
variable{X:Cx}
theorem znm{α:Type}{f:α->V}{g:α->Value->Prop}(h:∀ a u,zch (f a) u->g a u):∀{as:List α}{us:List Value}{i:Nat}{u:Value},zaY (as.map f) us->us[i]? = some u->∃ a,as[i]? = some a/\g a u
 |[],_,_,_,r,e=>by cases r;simp at e
 |a::as,_,0,u,.cons r t,e=>by simp at e;subst e;exact ⟨a,rfl,h a _ r⟩
 |a::as,_,i+1,u,.cons r t,e=>by obtain ⟨b,h1,h2⟩:=znm h (i:=i) t (by simpa using e);exact ⟨b,by simpa using h1,h2⟩
theorem zkk:∀(bs:List Bool),((List.range bs.length).all λi=>(bs[i]?).getD true)=bs.all id:=λbs=>by
 rw[Bool.eq_iff_iff,List.all_eq_true,List.all_eq_true];constructor
 ·intro h b hb;obtain ⟨i,hi,rfl⟩:=List.mem_iff_getElem.mp hb;have:=h i (List.mem_range.mpr hi);simpa [hi] using this
 ·intro h i hi;have hi':=List.mem_range.mp hi;simpa [hi'] using h bs[i] (List.getElem_mem hi')
theorem zp6(hc:X.calm=true):zdl X (.builtin "all") (λxs H Q=>∃(p:Addr)(bs:List Bool),xs=[.ref p]/\SqL X.K H p (bs.map V.bl)/\Q (.bl (bs.all id)) H):=by
 intro pS s Y H xs us Q I r h;obtain ⟨p,bs,rfl,hq,q⟩:=h;obtain ⟨u,rfl,ru⟩:=zfv r;cases ru;obtain ⟨its,rv,pl,hz⟩:=I.list hq;have hlt:p≠s.heap.objs.size:=by obtain ⟨o,n,e,_⟩:=id pl;exact waM (wai e)
 have hlen:its.length=bs.length:=by rw[<- rv.length];simp
 refine call_all_walk (wpAny_pyIter_list pl.isList ?_);refine ⟨s.heap.objs.size,_,_,_,_,_,λi=>(bs[i]?).getD true,rfl,Walks.list (A:=X.A.in1) (I.ok.hd hc) s.heap.objs.size p hlt its.toArray,⟨⟨_,waj _ rfl,rfl,rfl⟩,?_⟩,?_,λh' tk hk=>?_⟩
 ·obtain ⟨o,ho,hc',n,hd⟩:=pl.isList;exact ⟨o,waa _ ho,hc',n,hd⟩
 ·intro i v s' Q' E' hP hQ;obtain ⟨b,h1,h2⟩:=znm (f:=V.bl) (g:=λb u=>u=Value.bool b) (λa u z=>z) rv (i:=i) (u:=v) (by simpa using hP);subst h2;simp only[h1,Option.getD_some] at hQ;exact wpAny_truthy_bool hQ
 ·refine ⟨.bl (bs.all id),H,I.kept (t':=tk) λb o e=>hk b o (λz=>?_) (waa _ e),?_,q⟩
  ·simp at z;exact absurd (z ▸ wai e) (waL _)
  ·show Value.bool _=_;rw[List.size_toArray,hlen,zkk]
def zfL:List Dt->Option (List Bool)
 |[]=>some []
 |.bl b::r=>(zfL r).map (b::·)
 |_=>none
theorem ziD{K:W.Frag}{G:Hp}:∀{ds:List Dt}{vs:List V}{bs:List Bool},za4 K G ds vs->zfL ds=some bs->vs=bs.map V.bl
 |[],_,_,h,e=>by rw[h.nil_inv];simp[zfL] at e;subst e;rfl
 |.bl b::r,_,bs,h,e=>by obtain ⟨v,t,rfl,h1,h2⟩:=h.cons_inv;simp only[zfL,Option.map_eq_some_iff] at e;obtain ⟨bs',e1,rfl⟩:=e;rw[zet h1,ziD h2 e1];rfl
 |.non::_,_,_,_,e=>by simp[zfL] at e
 |.int _::_,_,_,_,e=>by simp[zfL] at e
 |.str _::_,_,_,_,e=>by simp[zfL] at e
 |.tup _::_,_,_,_,e=>by simp[zfL] at e
 |.lst _::_,_,_,_,e=>by simp[zfL] at e
 |.dct _::_,_,_,_,e=>by simp[zfL] at e
 |.scr _::_,_,_,_,e=>by simp[zfL] at e
def ztp:List Dt->R Dt
 |[.lst l]=>match zfL l with
  |some bs=>.ok (.bl (bs.all id))
  |none=>.no
 |_=>.no
theorem zw3{K:W.Frag}:FnR K (λxs H Q=>∃(p:Addr)(bs:List Bool),xs=[.ref p]/\SqL K H p (bs.map V.bl)/\Q (.bl (bs.all id)) H) ztp:=λG H vs ds z Q gh hr e k=>by
 unfold ztp at e;split at e
 ·split at e
  ·rename_i bs eb;obtain ⟨v,rfl,h1⟩:=zfM hr;obtain ⟨a,us,rfl,h2,h3⟩:=zaR h1;cases e;rw[ziD h3 eb] at h2;exact ⟨a,bs,rfl,SqL.of (gh _ _ h2),k _ G H (.refl gh) (zdJ _)⟩
  ·cases e
 ·cases e
theorem zxz:zlY ztp:=λx n h=>by unfold ztp at h;split at h <;> first|cases h|(split at h <;> cases h)
def zii:List Dt->Option (List Int)
 |[]=>some []
 |.int b::r=>(zii r).map (b::·)
 |_=>none
theorem zkh{K:W.Frag}{G:Hp}:∀{ds:List Dt}{vs:List V}{bs:List Int},za4 K G ds vs->zii ds=some bs->vs=bs.map V.int
 |[],_,_,h,e=>by rw[h.nil_inv];simp[zii] at e;subst e;rfl
 |.int b::r,_,bs,h,e=>by obtain ⟨v,t,rfl,h1,h2⟩:=h.cons_inv;simp only[zii,Option.map_eq_some_iff] at e;obtain ⟨bs',e1,rfl⟩:=e;rw[zaz h1,zkh h2 e1];rfl
 |.non::_,_,_,_,e=>by simp[zii] at e
 |.bl _::_,_,_,_,e=>by simp[zii] at e
 |.str _::_,_,_,_,e=>by simp[zii] at e
 |.tup _::_,_,_,_,e=>by simp[zii] at e
 |.lst _::_,_,_,_,e=>by simp[zii] at e
 |.dct _::_,_,_,_,e=>by simp[zii] at e
 |.scr _::_,_,_,_,e=>by simp[zii] at e
theorem zx4(ns:List Int):zii (ns.map .int)=some ns:=by
 induction ns with
 |nil=>rfl
 |cons n r ih=>simp[zii,ih]
end
section
variable{X:Cx}
end
def tyD:Dt->String
 |.non=>"NoneType"
 |.bl _=>"bool"
 |.int _=>"int"
 |.str _=>"str"
 |.tup _=>"tuple"
 |.lst _=>"list"
 |.dct _=>"dict"
 |.scr _=>"list"
def zlG(t T:String):Bool:=(t == T) || (t == "bool" && T == "int")
section
variable{X:Cx}{pS:List (Addr×Obj)}{Y:L2.St}{H:Hp}{s:Shared}
theorem zsQ(I:L2.Inv X pS Y H s):∀{d:Dt}{v:V}{u:Value},Rep X.K H d v->zch v u->∃ P:Heap->Prop,W.KitX X.K u (.type (tyD d)) P/\P s.heap/\u≠.builtin "__main__.__loader__#opaque"
 |.non,v,u,h,r=>by rw[zh3 h] at r;cases r;exact ⟨_,W.kitx_none,True.intro,xws⟩
 |.bl b,v,u,h,r=>by rw[zet h] at r;cases r;exact ⟨_,W.kitx_bool,True.intro,xws⟩
 |.int b,v,u,h,r=>by rw[zaz h] at r;obtain ⟨t,rfl⟩:=r;exact ⟨_,W.kitx_int,True.intro,xws⟩
 |.str b,v,u,h,r=>by rw[zgx h] at r;obtain ⟨t,rfl⟩:=r;exact ⟨_,W.kitx_str,True.intro,xws⟩
 |.tup l,v,u,h,r=>by obtain ⟨a,vs,rfl,h1,h2⟩:=zb4 h;cases r;obtain ⟨its,rv,⟨o,e,c,k,dd⟩,_⟩:=I.tuple h1;exact ⟨_,W.kitx_tuple,⟨o,e,c⟩,xws⟩
 |.lst l,v,u,h,r=>by obtain ⟨a,vs,rfl,h1,h2⟩:=zaR h;cases r;obtain ⟨its,rv,⟨o,k,e,c,_,dd⟩,_⟩:=I.list (SqL.of h1);exact ⟨_,W.kitx_list,⟨o,e,c⟩,xws⟩
 |.dct _,v,u,h,r=>by
  unfold Rep at h;obtain ⟨a,rfl,h1⟩:=h;cases r;obtain ⟨_,_,vs,_,o,es,ep,e1,e2,_⟩:=(show zeh X.prog X.w H s.heap a (.dK _) from I.hok a _ h1)
  exact ⟨_,W.kitx_dict,⟨o,e1,e2.1⟩,xws⟩
 |.scr l,v,u,h,r=>by obtain ⟨a,rfl,h1⟩:=zms h;cases r;obtain ⟨its,rv,⟨o,k,e,c,_,dd⟩,_⟩:=I.list h1;exact ⟨_,W.kitx_list,⟨o,e,c⟩,xws⟩
end
def ziz(T:String):Prop:=∀(K:W.Frag)(t:String),t∈["NoneType","bool","int","str","tuple","list","dict"]->W.kitOne K (.type t) (.type T)=some (zlG t T)
theorem zm5(d:Dt):tyD d∈["NoneType","bool","int","str","tuple","list","dict"]:=by cases d <;> simp[tyD]
theorem zmo:ziz "int":=λK t h=>by simp only[wap,wak,or_false] at h;rcases h with rfl|rfl|rfl|rfl|rfl|rfl|rfl <;> rfl
theorem zjH:ziz "bool":=λK t h=>by simp only[wap,wak,or_false] at h;rcases h with rfl|rfl|rfl|rfl|rfl|rfl|rfl <;> rfl
theorem zfQ:ziz "tuple":=λK t h=>by simp only[wap,wak,or_false] at h;rcases h with rfl|rfl|rfl|rfl|rfl|rfl|rfl <;> rfl
theorem zkb:ziz "list":=λK t h=>by simp only[wap,wak,or_false] at h;rcases h with rfl|rfl|rfl|rfl|rfl|rfl|rfl <;> rfl
def zg0(T:String)(fa:De):De:=λZ=>(fa Z).bind λa=>.ok (.bl (zlG (tyD a.1) T),a.2)
def zuQ(T U:String)(fa:De):De:=λZ=>(fa Z).bind λa=>.ok (.bl (zlG (tyD a.1) T || zlG (tyD a.1) U),a.2)
section
variable{X:Cx}{C:Cn}{e:Expr}{fa:De}{p p2 pos:Pos}
theorem zs0{T:String}(ok:ziz T):zdl X (.builtin "isinstance") (λxs H Q=>∃ d v,xs=[v,.ty T]/\Rep X.K H d v/\Q (.bl (zlG (tyD d) T)) H):=by intro pS s Y H xs us Q I r h;obtain ⟨d,v,rfl,h1,q⟩:=h;obtain ⟨u,w',rfl,r1,r2⟩:=zou r;cases r2;obtain ⟨P,Zq,hp,hx⟩:=zsQ I h1 r1;exact W.kia_one Zq I.kIn hp (ok X.K (tyD d) (zm5 d)) hx λtk=>⟨.bl _,H,I.tok tk,rfl,q⟩
theorem zpD{T U:String}(ok:ziz T)(ok2:ziz U):zdl X (.builtin "isinstance") (λxs H Q=>∃ d v a,xs=[v,.ref a]/\Rep X.K H d v/\SqT X.K H a [.ty T,.ty U]/\Q (.bl (zlG (tyD d) T || zlG (tyD d) U)) H):=by
 intro pS s Y H xs us Q I r h;obtain ⟨d,v,a,rfl,h1,ha,q⟩:=h;obtain ⟨u,w',rfl,r1,r2⟩:=zou r;cases r2;obtain ⟨P,Zq,hp,hx⟩:=zsQ I h1 r1;obtain ⟨its,rv,⟨o,e,c,k,dd⟩,_⟩:=I.tuple ha;obtain ⟨x1,x2,rfl,q1,q2⟩:=zou rv;cases q1;cases q2;obtain ⟨oc,od,odt,osl⟩:=o;simp only at c dd;subst c dd;refine W.kia_tup (its:=[Value.type T,Value.type U]) (b:=zlG (tyD d) T || zlG (tyD d) U) Zq I.kIn hp e ?_ hx λtk=>⟨.bl _,H,I.tok tk,rfl,q⟩
 unfold W.kitAny;rw[ok X.K (tyD d) (zm5 d)];cases zlG (tyD d) T with
 |true=>rfl
 |false =>
  simp only[W.kitAny,ok2 X.K (tyD d) (zm5 d)];cases zlG (tyD d) U <;> rfl
theorem zeC{T:String}{x2:Str}(ok:ziz T)(hg:Gl X "isinstance")(hm:X.mg "isinstance"=none)(hv:bootBuiltins "isinstance"=some (.builtin "isinstance"))(hg2:Gl X x2)(hm2:X.mg x2=none)(hv2:bootBuiltins x2=some (.type T))(ha:JE X C e fa)
  (hn:("isinstance" : Str)≠"__name__":=by decide) (hdb:(("isinstance" : Str) == ("__debug__" : Str))=false:=by decide) (hn2:x2≠"__name__":=by decide) (hdb2:(x2 == ("__debug__" : Str))=false:=by decide)
  (hs:starEach [e,.Name x2 p2] X.env=(false,eval e X.env)::starEach [.Name x2 p2] X.env:=by rfl) (hs2:starEach [.Name x2 p2] X.env=(false,eval (.Name x2 p2) X.env)::starEach [] X.env:=by rfl) (hpl:(backTo pos (starEach [.Name x2 p2] X.env)).any (·.1)=false:=by rfl) :
  JE X C (.Call (.Name "isinstance" p) [e,.Name x2 p2] [] pos) (zg0 T fa) :=
 PE.weak (zeW (zs0 ok) hg hm hv (zbj ha (zbj (zmm (v:=.ty T) hg2 hm2 hv2 rfl hn2 hdb2) zcY hs2) hs) hn hdb hs hpl) λY H Q ⟨G,w,Z,r,p⟩=>by refine ze4 (κ:=λG H w=>kE X.K C Y Q G H w) zcr r p λd Z1 v G1 H1 w1 r1 s1 q1 p1=>?_;exact ⟨d,v,rfl,q1.same r1.gh,p1 _ G1 H1 w1 (.refl _ _ _) r1 (zdJ _)⟩
theorem zuM{T U:String}{x2 x3:Str}{p3 pt:Pos}{kt}(ok:ziz T)(ok2:ziz U)(hg:Gl X "isinstance")(hm:X.mg "isinstance"=none)(hv:bootBuiltins "isinstance"=some (.builtin "isinstance"))(hg2:Gl X x2)(hm2:X.mg x2=none)(hv2:bootBuiltins x2=some (.type T))(hg3:Gl X x3)(hm3:X.mg x3=none)(hv3:bootBuiltins x3=some (.type U))(ha:JE X C e fa)
  (hn:("isinstance" : Str)≠"__name__":=by decide) (hdb:(("isinstance" : Str) == ("__debug__" : Str))=false:=by decide) (hn2:x2≠"__name__":=by decide) (hdb2:(x2 == ("__debug__" : Str))=false:=by decide) (hn3:x3≠"__name__":=by decide) (hdb3:(x3 == ("__debug__" : Str))=false:=by decide)
  (hs:starEach [e,.Tuple [.Name x2 p2,.Name x3 p3] kt pt] X.env=(false,eval e X.env)::starEach [.Tuple [.Name x2 p2,.Name x3 p3] kt pt] X.env:=by rfl) (hs2:starEach [.Tuple [.Name x2 p2,.Name x3 p3] kt pt] X.env=(false,eval (.Tuple [.Name x2 p2,.Name x3 p3] kt pt) X.env)::starEach [] X.env:=by rfl) (hpl:(backTo pos (starEach [.Tuple [.Name x2 p2,.Name x3 p3] kt pt] X.env)).any (·.1)=false:=by rfl)
  (hs3:starEach [.Name x2 p2,.Name x3 p3] X.env=(false,eval (.Name x2 p2) X.env)::starEach [.Name x3 p3] X.env:=by rfl) (hs4:starEach [.Name x3 p3] X.env=(false,eval (.Name x3 p3) X.env)::starEach [] X.env:=by rfl) :
  JE X C (.Call (.Name "isinstance" p) [e,.Tuple [.Name x2 p2,.Name x3 p3] kt pt] [] pos) (zuQ T U fa) :=
 PE.weak (zeW (zpD ok ok2) hg hm hv (zbj ha (zbj (ztx (zbj (zmm (v:=.ty T) hg2 hm2 hv2 rfl hn2 hdb2) (zbj (zmm (v:=.ty U) hg3 hm3 hv3 rfl hn3 hdb3) zcY hs4) hs3)) zcY hs2) hs) hn hdb hs hpl) λY H Q ⟨G,w,Z,r,p⟩=>by refine ze4 (κ:=λG H w=>kE X.K C Y Q G H w) zcr r p λd Z1 v G1 H1 w1 r1 s1 q1 p1=>?_;refine ⟨by show 2<=sizeLine;decide,λa ha=>?_⟩;have gr:ze6 G1 H1 G1 (upd H1 a (.tup [.ty T,.ty U])):=.newH r1.gh ha;exact ⟨d,v,a,rfl,(q1.same r1.gh).same gr.h,SqT.of zar,p1 _ G1 _ w1 gr.step (r1.grow gr) (zdJ _)⟩
def gIx:Dt->Dt->R Dt
 |.lst l,.int i=>match atI l i with
  |some d=>.ok d
  |none=>.no
 |.tup l,.int i=>match atI l i with
  |some d=>.ok d
  |none=>.no
 |.scr l,.int i=>match atI l i with
  |some d=>.ok (.int d)
  |none=>.no
 |_,_=>.no
theorem zuc{α β:Type}{f:α->β}{l:List α}{i:Int}{d:α}(ed:atI l i=some d):atI (l.map f) i=some (f d):=by
 unfold atI at ed ⊢;rw[List.length_map];cases q:ixN l.length i with
 |none=>rw[q] at ed;cases ed
 |some j =>
  rw[q] at ed;simp only[Option.bind_some] at ed ⊢;rw[List.getElem?_map,ed];rfl
theorem zxv{K:W.Frag}:Op2 K (λx y H Q=>rIxL K x y H Q\/rIxT K x y H Q) gIx:=λG H x y dx dy z Q gh hx hy e k=>by
 unfold gIx at e;split at e
 ·split at e
  ·rename_i d ed;cases e;obtain ⟨a,vs,rfl,h1,h2⟩:=zaR hx;obtain ⟨v,e1,e2⟩:=zjB h2 ed;exact .inl ⟨a,vs,_,v,rfl,zaz hy,SqL.of (gh _ _ h1),e1,k v G H (.refl gh) e2⟩
  ·cases e
 ·split at e
  ·rename_i d ed;cases e;obtain ⟨a,vs,rfl,h1,h2⟩:=zb4 hx;obtain ⟨v,e1,e2⟩:=zjB h2 ed;exact .inr ⟨a,vs,_,v,rfl,zaz hy,zaK gh h1,e1,k v G H (.refl gh) e2⟩
  ·cases e
 ·split at e
  ·rename_i d ed;cases e;obtain ⟨a,rfl,h1⟩:=zms hx;exact .inl ⟨a,_,_,.int d,rfl,zaz hy,gh.seq h1,zuc ed,k _ G H (.refl gh) (za7 _)⟩
  ·cases e
 ·cases e
theorem zvy:zmw gIx:=λx y n h=>by unfold gIx at h;split at h <;> first|cases h|(split at h <;> cases h)
theorem zby{a b:Expr}{fa fb:De}(ha:JE X C a fa)(hb:JE X C b fb)(hs:zjC b:=by exact λ_ _=>rfl):JE X C (.Subscript a b pos) (dOp gIx fa fb) :=
 PE.weak (zuP (zlP.or zwl) ha hb hs) λY H Q h=>zjQ zxv zvy h
end
theorem Rel.mutate{K:W.Frag}{C:Cn}{Y:L2.St}{G H:Hp}{w:Wn}{Z:Ev}{i:Nat}{ds ds':List Dt}{a:Addr}{vs':List V}(r:Rel K C G w Z Y H)(hi:Z[i]? = some (some (.own ds)))(hv:Y[i]? = some (some (.ref a)))(hw:w a=some i)(h':za4 K G ds' vs') :
  Rel K C G w (Z.set i (some (.own ds'))) Y (upd H a (.lst vs'))/\zbA G H w G (upd H a (.lst vs')) w:=by
 have ga:G a=none:=r.wg a (by rw[hw];simp);have st:zbA G H w G (upd H a (.lst vs')) w:=by
  refine ⟨.refl _,λb o e=>.inl (by rw[e];simp),λb o e z=>?_,λ_ e=>.inl e,λb e=>?_⟩
  ·have:b≠a:=λq=>by subst q;rw[hw] at z;cases z
   rw[zat this];exact e
  ·by_cases hb:b=a
   ·subst hb;rw[zar] at e;cases e
   ·rw[zat hb] at e;exact e
 refine ⟨⟨λb o e=>?_,r.wg,λb e=>?_,by simpa using r.len,λj b e=>?_,r.en.trans st,r.pin⟩,st⟩
 ·rw[zat (zas e ga)];exact r.gh b o e
 ·by_cases hb:b=a
  ·subst hb;rw[zar];simp
  ·rw[zat hb];exact r.wh b e
 ·by_cases hj:j=i
  ·subst hj;rw[List.getElem?_set_self (List.getElem?_eq_some_iff.mp hi).1] at e;cases e;exact ⟨_,hv,a,vs',rfl,hw,zar,h'⟩
  ·rw[List.getElem?_set_ne (Ne.symm hj)] at e;obtain ⟨v',h1,h2⟩:=r.sl j b e;refine ⟨v',h1,h2.grow (.refl _) λb' o e1 e2=>⟨?_,e1⟩⟩;have:b'≠a:=λz=>by subst z;rw[hw] at e1;exact hj (waA e1).symm
   rw[zat this];exact e2
section
variable{X:Cx}{C:Cn}{e:Expr}{fa:De}{pos ps apos:Pos}{x:Str}
theorem zcK{K:W.Frag}{Y:L2.St}{G H:Hp}{w:Wn}{Z:Ev}{i:Nat}{ds:List Dt}(r:Rel K C G w Z Y H)(e:Z[i]? = some (some (.own ds))):∃ a vs,Y[i]? = some (some (.ref a))/\w a=some i/\H a=some (.lst vs)/\za4 K G ds vs:=by obtain ⟨v,h1,a,vs,rfl,h2,h3,h4⟩:=r.sl i _ e;exact ⟨a,vs,h1,h2,h3,h4⟩
def zcQ(i:Nat)(fa:De):De:=λZ=>match Z[i]? with
 |some (some (.own _))=>(fa Z).bind λa=>match a.2[i]? with
  |some (some (.own ds))=>if ds.length<16777216 then .ok (.non,a.2.set i (some (.own (ds++[a.1])))) else .no
  |_=>.no
 |_=>.no
theorem zdD:sizeLine=16777216:=by decide
theorem zf1(i:Nat)(ha:JE X C e fa)(hN:X.N[i]? = some x:=by rfl)(hv:Vis X.env.scope x:=by exact xwV)(hd:(x == ("__debug__" : Str))=false:=by decide)(hcd:(x == ("__classdict__" : Str))=false:=by decide)
  (hbase:attributeBase (.Name x ps) "append" X.env (eval (.Name x ps) X.env)=eval (.Name x ps) X.env:=by rfl)
  (hfew:((backTo pos (starEach [e] X.env)).all (λx=>!x.1) && (backToKw pos (keywordEach [] X.env)).all (λx=>x.1.isSome) && decide ([e].length+([]:List Keyword).length+(if ([]:List Keyword).isEmpty then 0 else 1)<30))=true:=by rfl)
  (hline:(apos.endLine == pos.line)=true:=by rfl) (hs:starEach [e] X.env=(false,eval e X.env)::starEach [] X.env:=by rfl) (hplain:(backTo pos (starEach [] X.env)).any (·.1)=false:=by rfl) :
  JE X C (.Call (.Attribute (.Name x ps) "append" apos) [e] [] pos) (zcQ i fa) :=
 PE.weak (zqX PySem.F.plainAttrs_list PySem.F.slot_list_append PySem.F.type_list_append zhp (zdk hN hv hd hcd) (zbj ha zcY hs) hbase hfew hline hs hplain) λY H Q ⟨G,w,Z,r,p⟩=>by
  unfold zcQ at p;split at p
  ·rename_i ds0 e0;obtain ⟨a,vs,h1,h2,h3,h4⟩:=zcK r e0;refine ⟨.ref a,h1,.inl ⟨rfl,vs,SqL.of h3⟩,?_⟩;refine ze4 (κ:=λG H w=>kE X.K C Y Q G H w) zcr r p λd Z1 v G1 H1 w1 r1 s1 q1 p1=>?_;dsimp only at p1;split at p1
   ·rename_i ds e1;obtain ⟨a',vs',k1,k2,k3,k4⟩:=zcK r1 e1;rw[h1] at k1;cases k1;split at p1
    ·rename_i hl;obtain ⟨r',s'⟩:=r1.mutate e1 h1 k2 (k4.append (za4.cons q1 za4.nil));exact ⟨a,vs',v,rfl,rfl,k3,by rw[<- k4.length,zdD];exact hl,p1 _ _ _ _ s' r' (by unfold Rep;rfl)⟩
    ·exact p1.elim
   ·exact p1.elim
  ·exact p.elim
def zsv(ds:List Dt)(k:Int):Option (Dt×List Dt):=if zdB k=true then match ixN ds.length k with
  |some j=>match ds[j]? with
   |some d=>some (d,ds.eraseIdx j)
   |none=>none
  |none=>none
 else none
def ziB(i:Nat)(fa:De):De:=λZ=>match Z[i]? with
 |some (some (.own _))=>(fa Z).bind λa=>match a.2[i]?,a.1 with
  |some (some (.own ds)),.int k=>match zsv ds k with
   |some z=>.ok (z.1,a.2.set i (some (.own z.2)))
   |none=>.no
  |_,_=>.no
 |_=>.no
theorem zrT(i:Nat)(ha:JE X C e fa)(hN:X.N[i]? = some x:=by rfl)(hv:Vis X.env.scope x:=by exact xwV)(hd:(x == ("__debug__" : Str))=false:=by decide)(hcd:(x == ("__classdict__" : Str))=false:=by decide)
  (hbase:attributeBase (.Name x ps) "pop" X.env (eval (.Name x ps) X.env)=eval (.Name x ps) X.env:=by rfl)
  (hfew:((backTo pos (starEach [e] X.env)).all (λx=>!x.1) && (backToKw pos (keywordEach [] X.env)).all (λx=>x.1.isSome) && decide ([e].length+([]:List Keyword).length+(if ([]:List Keyword).isEmpty then 0 else 1)<30))=true:=by rfl)
  (hline:(apos.endLine == pos.line)=true:=by rfl) (hs:starEach [e] X.env=(false,eval e X.env)::starEach [] X.env:=by rfl) (hplain:(backTo pos (starEach [] X.env)).any (·.1)=false:=by rfl) :
  JE X C (.Call (.Attribute (.Name x ps) "pop" apos) [e] [] pos) (ziB i fa) :=
 PE.weak (zqX PySem.F.plainAttrs_list PySem.F.slot_list_pop PySem.F.type_list_pop zsC (zdk hN hv hd hcd) (zbj ha zcY hs) hbase hfew hline hs hplain) λY H Q ⟨G,w,Z,r,p⟩=>by
  unfold ziB at p;split at p
  ·rename_i ds0 e0;obtain ⟨a,vs,h1,h2,h3,h4⟩:=zcK r e0;refine ⟨.ref a,h1,.inl ⟨rfl,vs,SqL.of h3⟩,?_⟩;refine ze4 (κ:=λG H w=>kE X.K C Y Q G H w) zcr r p λd Z1 v G1 H1 w1 r1 s1 q1 p1=>?_;dsimp only at p1;split at p1
   ·rename_i ds k e1;obtain ⟨a',vs',k1,k2,k3,k4⟩:=zcK r1 e1;rw[h1] at k1;cases k1;split at p1
    ·rename_i z ez;unfold zsv at ez;split at ez
     ·rename_i hb;split at ez
      ·rename_i j ej;split at ez
       ·rename_i d ed;cases ez;obtain ⟨j1,j2,j3,j4⟩:=zml ej;obtain ⟨y,y1,y2⟩:=k4.get ed;obtain ⟨r',s'⟩:=r1.mutate e1 h1 k2 (k4.eraseIdx j);have hl:=k4.length;obtain ⟨b1,b2⟩:=zdz hb;exact ⟨a,vs',k,j,y,rfl,by rw[zaz q1],k3,xwl,xwl,by rw[<- hl];exact j1,y1,p1 _ _ _ _ s' r' y2⟩
       ·cases ez
      ·cases ez
     ·cases ez
    ·exact p1.elim
   ·exact p1.elim
  ·exact p.elim
end
theorem zvl{X:Cx}{pS:List (Addr×Obj)}{Y:L2.St}{H:Hp}{s:Shared}{a:Addr}{xs:List V}(I:L2.Inv X pS Y H s)(h:zjo X.K H a xs):∃(its:List Value)(n:Nat),zaY xs its/\s.heap.get? a=some { cls:=.type "tuple",data:=.seq its.toArray n }/\xs.length<=sizeLine:=by
 rcases h with h|⟨its,n,h1,h2,h3⟩
 ·obtain ⟨z,its,r,n,e⟩:=(show zeh X.prog X.w H s.heap a (.tup xs) from I.hok a _ h)
  exact ⟨its,n,r,e,z⟩
 ·refine ⟨its.toList,n,h3,by simpa using I.kIn a _ h1,?_⟩;have:=h3.length;simp only[Array.length_toList] at this;lia
def zwo(K:W.Frag):V->List V->Hp->VK->Prop:=λx vs H Q=>∃ l b xs zs,x=.ref l/\vs=[.ref b]/\H l=some (.lst xs)/\zjo K H b zs/\xs.length+zs.length<=sizeLine/\Q .non (upd H l (.lst (xs++zs)))
section
variable{X:Cx}
theorem zoB:MtM X "list.extend" (zwo X.K):=by
 intro pS s Y H x vs v us Q I rx rv h;obtain ⟨l,b,xs,zs,rfl,rfl,hH,hB,hz,q⟩:=h;cases rx;obtain ⟨u,rfl,ru⟩:=zaY.one rv;cases ru;obtain ⟨z,its,n,r,hl,e⟩:=I.lstM hH;obtain ⟨its2,n2,r2,e2,z2⟩:=zvl I hB;have hl2:=r2.length;have hsz:its.toArray.size+its2.toArray.size<=sizeLine:=by rw[List.size_toArray,List.size_toArray];lia
 have hlong:¬ (!its.toArray.isEmpty && Builtin.List.listTooLong (its.toArray.size+its2.toArray.size))=true:=by rw[zj6 hsz,Bool.and_false];exact Bool.false_ne_true
 refine PySem.call_meets F.slot_list_extend ⟨_,e,rfl⟩ F.entry_list_extend (F.args_list_extend_2 _ _)
  (AutoSeq1.list_extend_list_tuple_0 l its.toArray n b its2.toArray n2 hlong (by rw[List.size_toArray];lia) xwl) ⟨e,e2,?_⟩
 refine ⟨.non,_,I.lset (its':=its++its2) hH e xws (r.append r2) ?_,rfl,q⟩;rw[List.length_append];lia
theorem MtM.or{id:String}{r r':V->List V->Hp->VK->Prop}(h:MtM X id r)(h':MtM X id r'):MtM X id (λx xs H Q=>r x xs H Q\/r' x xs H Q):=by
 intro pS s Y H x xs v us Q I rx rs q;rcases q with q|q
 ·exact h pS s Y H x xs v us Q I rx rs q
 ·exact h' pS s Y H x xs v us Q I rx rs q
variable{C:Cn}{e:Expr}{fa fb:De}{pos ps apos:Pos}{x:Str}
def zh0:Dt->Option (List Dt)
 |.lst l=>some l
 |.tup l=>some l
 |_=>none
def zgH(i:Nat)(fa:De):De:=λZ=>match Z[i]? with
 |some (some (.own _))=>(fa Z).bind λa=>match a.2[i]?,zh0 a.1 with
  |some (some (.own ds)),some l=>if ds.length+l.length<=16777216 then .ok (.non,a.2.set i (some (.own (ds++l)))) else .no
  |_,_=>.no
 |_=>.no
theorem zmG(i:Nat)(ha:JE X C e fa)(hN:X.N[i]? = some x:=by rfl)(hv:Vis X.env.scope x:=by exact xwV)(hd:(x == ("__debug__" : Str))=false:=by decide)(hcd:(x == ("__classdict__" : Str))=false:=by decide)
  (hbase:attributeBase (.Name x ps) "extend" X.env (eval (.Name x ps) X.env)=eval (.Name x ps) X.env:=by rfl)
  (hfew:((backTo pos (starEach [e] X.env)).all (λx=>!x.1) && (backToKw pos (keywordEach [] X.env)).all (λx=>x.1.isSome) && decide ([e].length+([]:List Keyword).length+(if ([]:List Keyword).isEmpty then 0 else 1)<30))=true:=by rfl)
  (hline:(apos.endLine == pos.line)=true:=by rfl) (hs:starEach [e] X.env=(false,eval e X.env)::starEach [] X.env:=by rfl) (hplain:(backTo pos (starEach [] X.env)).any (·.1)=false:=by rfl) :
  JE X C (.Call (.Attribute (.Name x ps) "extend" apos) [e] [] pos) (zgH i fa) :=
 PE.weak (zqX PySem.F.plainAttrs_list PySem.F.slot_list_extend PySem.F.type_list_extend (MtM.or zqJ zoB) (zdk hN hv hd hcd) (zbj ha zcY hs) hbase hfew hline hs hplain) λY H Q ⟨G,w,Z,r,p⟩=>by
  unfold zgH at p;split at p
  ·rename_i ds0 e0;obtain ⟨a,vs,h1,h2,h3,h4⟩:=zcK r e0;refine ⟨.ref a,h1,.inl ⟨rfl,vs,SqL.of h3⟩,?_⟩;refine ze4 (κ:=λG H w=>kE X.K C Y Q G H w) zcr r p λd Z1 v G1 H1 w1 r1 s1 q1 p1=>?_;dsimp only at p1;split at p1
   ·rename_i ds l e1 el;obtain ⟨a',vs',k1,k2,k3,k4⟩:=zcK r1 e1;rw[h1] at k1;cases k1;split at p1
    ·rename_i hl;cases d with
     |lst l' =>
      cases el;obtain ⟨b,us,rfl,b1,b2⟩:=zaR q1;obtain ⟨r',s'⟩:=r1.mutate e1 h1 k2 (k4.append b2);exact .inl ⟨a,b,vs',us,rfl,rfl,k3,r1.gh _ _ b1,by rw[<- k4.length,<- b2.length,zdD];exact hl,p1 _ _ _ _ s' r' (by unfold Rep;rfl)⟩
     |tup l' =>
      cases el;obtain ⟨b,us,rfl,b1,b2⟩:=zeX q1;obtain ⟨r',s'⟩:=r1.mutate e1 h1 k2 (k4.append b2);exact .inr ⟨a,b,vs',us,rfl,rfl,k3,b1.same r1.gh,by rw[<- k4.length,<- b2.length,zdD];exact hl,p1 _ _ _ _ s' r' (by unfold Rep;rfl)⟩
     |_=>cases el
    ·exact p1.elim
   ·exact p1.elim
  ·exact p.elim
def zoD(i:Nat):De:=λZ=>match Z[i]? with
 |some (some (.own ds))=>.ok (.int ds.length,Z)
 |_=>.no
theorem ztQ(i:Nat){p:Pos}(hg:Gl X "len")(hm:X.mg "len"=none)(hN:X.N[i]? = some x:=by rfl)(hv:Vis X.env.scope x:=by exact xwV)(hd:(x == ("__debug__" : Str))=false:=by decide)(hcd:(x == ("__classdict__" : Str))=false:=by decide)
  (hs:starEach [.Name x ps] X.env=(false,eval (.Name x ps) X.env)::starEach [] X.env:=by rfl) (hpl:(backTo pos (starEach [] X.env)).any (·.1)=false:=by rfl):JE X C (.Call (.Name "len" p) [.Name x ps] [] pos) (zoD i) :=
 PE.weak (zeW zeD hg hm PySem.boot_len (zbj (zdk hN hv hd hcd) zcY hs) xwd xwd hs hpl) λY H Q ⟨G,w,Z,r,p⟩=>by
  unfold zoD at p;split at p
  ·rename_i ds e0;obtain ⟨a,vs,h1,h2,h3,h4⟩:=zcK r e0;exact ⟨.ref a,h1,a,vs,rfl,.inl (SqL.of h3),by rw[<- h4.length];exact p _ G H w (.refl _ _ _) r (za7 _)⟩
  ·exact p.elim
def zv4(neg:Bool)(i:Nat)(fb:De):De:=λZ=>match Z[i]? with
 |some (some (.own _))=>(fb Z).bind λb=>match b.2[i]? with
  |some (some (.own ds))=>(gEq neg (.lst ds) b.1).bind λz=>.ok (z,b.2)
  |_=>.no
 |_=>.no
theorem zr4{neg:Bool}{i:Nat}{Y:L2.St}{H:Hp}{Q:VK}(h:tE X.K C (zv4 neg i fb) Y H Q):tOp (zx5 X.K neg) (zyv i) (tE X.K C fb) Y H Q:=by
 obtain ⟨G,w,Z,r,p⟩:=h;unfold zv4 at p;split at p
 ·rename_i ds0 e0;obtain ⟨a,vs,h1,h2,h3,h4⟩:=zcK r e0;refine ⟨.ref a,h1,?_⟩;refine ze4 (κ:=λG H w=>kE X.K C Y Q G H w) zcr r p λd Z1 v G1 H1 w1 r1 s1 q1 p1=>?_;dsimp only at p1;split at p1
  ·rename_i ds e1;obtain ⟨a',vs',k1,k2,k3,k4⟩:=zcK r1 e1;rw[h1] at k1;cases k1;unfold gEq at p1;split at p1
   ·rename_i hk;rw[Bool.and_eq_true] at hk;exact ⟨.lst ds,d,by unfold Rep;exact ⟨a,vs',rfl,k3,k4.same r1.gh⟩,q1.same r1.gh,hk.1,hk.2,p1 _ G1 H1 w1 (.refl _ _ _) r1 (zdJ _)⟩
   ·exact p1.elim
  ·exact p1.elim
 ·exact p.elim
variable{b:Expr}
theorem zwY(i:Nat)(hu:X.A.units+64<cLine)(hb:JE X C b fb)(hN:X.N[i]? = some x:=by rfl)(hv:Vis X.env.scope x:=by exact xwV)(hd:(x == ("__debug__" : Str))=false:=by decide)(hcd:(x == ("__classdict__" : Str))=false:=by decide) :
  JT X C (.Compare (.Name x ps) [.NotEq] [b] pos) (dTB (zv4 true i fb)):=PT.weak (zm8 (zsO hu) (zdk hN hv hd hcd) hb (zhI _)) λY H Q h=>zr4 (zj7 h)
def zoH(neg:Bool)(i:Nat)(fa:De):De:=λZ=>(fa Z).bind λa=>match a.2[i]? with
 |some (some (.own ds))=>(gIn neg a.1 (.lst ds)).bind λz=>.ok (z,a.2)
 |_=>.no
theorem zsw{neg:Bool}{i:Nat}{Y:L2.St}{H:Hp}{Q:VK}(h:tE X.K C (zoH neg i fa) Y H Q):tOp (zxG X.K neg) (tE X.K C fa) (zyv i) Y H Q:=by
 obtain ⟨G,w,Z,r,p⟩:=h;refine ze4 (κ:=λG H w=>kE X.K C Y Q G H w) zcr r p λd Z1 v G1 H1 w1 r1 s1 q1 p1=>?_;dsimp only at p1;split at p1
 ·rename_i ds e1;obtain ⟨a,vs,k1,k2,k3,k4⟩:=zcK r1 e1;refine ⟨.ref a,k1,?_⟩;unfold gIn at p1;dsimp only at p1;by_cases hk:(okN 60 d && ds.all (okN 60))=true
  ·rw[if_pos hk] at p1;rw[Bool.and_eq_true] at hk;exact ⟨d,ds,q1.same r1.gh,.inl (by unfold Rep;exact ⟨a,vs,rfl,k3,k4.same r1.gh⟩),hk.1,hk.2,p1 _ G1 H1 w1 (.refl _ _ _) r1 (zdJ _)⟩
  ·rw[if_neg hk] at p1;exact waO p1
 ·exact waO p1
theorem zsR(i:Nat)(hu:X.A.units+65<cLine)(ha:JE X C e fa)(hN:X.N[i]? = some x:=by rfl)(hv:Vis X.env.scope x:=by exact xwV)(hd:(x == ("__debug__" : Str))=false:=by decide)(hcd:(x == ("__classdict__" : Str))=false:=by decide)(hm:behindInMarks .In (.Name x ps)=false:=by rfl) :
  JT X C (.Compare e [.In] [.Name x ps] pos) (dTB (zoH false i fa)):=PT.weak (zm8 (zqp hu) ha (zdk hN hv hd hcd) hm) λY H Q h=>zsw (zj7 h)
def zpO(i:Nat)(fv fk:De):DS:=λZ=>(fv Z).bind λv=>match v.2[i]? with
 |some (some (.own _))=>(fk v.2).bind λk=>match k.2[i]?,k.1 with
  |some (some (.own ds)),.int n=>match ixN ds.length n with
   |some j=>.ok (.nx,k.2.set i (some (.own (ds.set j v.1))))
   |none=>.no
  |_,_=>.no
 |_=>.no
theorem zpH(i:Nat){k:Expr}{fk:De}{tp:Pos}(hv:JE X C e fa)(hk:JE X C k fk)(hN:X.N[i]? = some x:=by rfl)(hvi:Vis X.env.scope x:=by exact xwV)(hd:(x == ("__debug__" : Str))=false:=by decide)(hcd:(x == ("__classdict__" : Str))=false:=by decide)
  (ha:∀ v,assign (.Subscript (.Name x ps) k tp) X.env v=(do
   let ov <- holding [v] (eval (.Name x ps) X.env);let iv <- holding [v,ov] (eval k X.env)
   standAt tp
   holding [v,ov,iv] (setItem ov iv v)
   release [v,ov,iv] []):=by intro _;rfl)
  (hs:swapsWithSole [.Subscript (.Name x ps) k tp] e pos.line X.env=pure false:=by rfl) (hw:swappedStores [.Subscript (.Name x ps) k tp] e X.env=pure none:=by rfl)
  (h1:(assignEach [.Subscript (.Name x ps) k tp] X.env).map (·.2)=[assign (.Subscript (.Name x ps) k tp) X.env]:=by rfl):JS X C (.Assign [.Subscript (.Name x ps) k tp] e pos) (zpO i fa fk) :=
 PS.weak (zwO hv (zvT (zdk hN hvi hd hcd) hk zrW ha) hs hw h1) λD Y H ⟨G,w,Z,r,p⟩=>by
  refine ze4 (κ:=λG H w=>kS X.K C D G H w) zeJ r p λd Z1 v G1 H1 w1 r1 s1 q1 p1=>?_;dsimp only at p1;split at p1
  ·rename_i ds0 e0;obtain ⟨a,vs,k1,k2,k3,k4⟩:=zcK r1 e0;refine ⟨.ref a,k1,?_⟩;refine ze4 (κ:=λG H w=>kS X.K C D G H w) zeJ r1 p1 λd2 Z2 v2 G2 H2 w2 r2 s2 q2 p2=>?_;dsimp only at p2;split at p2
   ·rename_i ds n e2;obtain ⟨a',vs',m1,m2,m3,m4⟩:=zcK r2 e2;rw[k1] at m1;cases m1;split at p2
    ·rename_i j ej;obtain ⟨r',s'⟩:=r2.mutate e2 k1 m2 (za4.set (q1.same s2.g) j m4);exact ⟨a,vs',n,j,rfl,zaz q2,m3,by rw[<- m4.length];exact ej,p2 _ _ _ _ s' r'⟩
    ·exact waO p2
   ·exact waO p2
  ·exact waO p1
end
theorem zeV{env:Env}:∀(names:List (Str×NameKind))(cs:List (Str×Addr)),(∀ y∈names,y.2=.free->∃ c,env.cells.lookup y.1=some c)->(∀ x c,cs.lookup x=some c->env.cells.lookup x=some c) ->
  ∃ cl,(forIn names cs λ(y:Str×NameKind) (r:List (Str×Addr))=>(if (y.2 == NameKind.free)=true then do let a <- cellOf env y.1;pure (ForInStep.yield ((y.1,a)::r)) else pure (ForInStep.yield r):Sem (ForInStep (List (Str×Addr)))))=pure cl /\
   (∀ x c,cl.lookup x=some c->env.cells.lookup x=some c)/\(∀ x c,cs.lookup x=some c->∃ c',cl.lookup x=some c')/\∀ y∈names,y.2=.free->∃ c,cl.lookup y.1=some c
 |[],cs,_,h2=>⟨cs,rfl,h2,λx c e=>⟨c,e⟩,λy hy=>by cases hy⟩
 | (n,k)::r,cs,h1,h2=>by
  rw[List.forIn_cons];by_cases hk:k=.free
  ·subst hk;obtain ⟨c,hc⟩:=h1 (n,.free) wau rfl;obtain ⟨cl,e1,e2,e3,e4⟩:=zeV r ((n,c)::cs) (λy hy=>h1 y (wah _ hy)) (λx c' e=>by
    rw[List.lookup_cons] at e;cases hx:x == n with
    |true=>rw[hx] at e;simp only[Option.some.injEq] at e;subst e;rw[beq_iff_eq.mp hx];exact hc
    |false=>rw[hx] at e;exact h2 x c' e)
   refine ⟨cl,?_,e2,λx c' e=>?_,λy hy hf=>?_⟩
   ·simp only[beq_self_eq_true,if_true];have:cellOf env n=pure c:=by unfold cellOf;rw[hc]
    rw[this];exact e1
   ·refine (e3 x (if x == n then c else c') ?_);rw[List.lookup_cons];cases hx:x == n with
    |true=>rfl
    |false=>exact e
   ·rcases wap.mp hy with rfl|hy
    ·exact e3 n c (by simp[List.lookup_cons])
    ·exact e4 y hy hf
  ·obtain ⟨cl,e1,e2,e3,e4⟩:=zeV r cs (λy hy=>h1 y (wah _ hy)) h2;refine ⟨cl,?_,e2,e3,λy hy hf=>?_⟩
   ·have:(k == NameKind.free)=false:=by simpa using hk
    simp only[this,Bool.false_eq_true,if_false];exact e1
   ·rcases wap.mp hy with rfl|hy
    ·exact absurd hf hk
    ·exact e4 y hy hf
theorem zgm{scope:Scope}{env:Env}(h:∀ y∈scope.names,y.2=.free->∃ c,env.cells.lookup y.1=some c):∃ cl,closureFor scope env=pure cl/\(∀ x c,cl.lookup x=some c->env.cells.lookup x=some c)/\∀ y∈scope.names,y.2=.free->∃ c,cl.lookup y.1=some c:=by obtain ⟨cl,e1,e2,_,e4⟩:=zeV (env:=env) scope.names [] h (λx c e=>by simp at e);refine ⟨cl,?_,e2,e4⟩;unfold closureFor;exact (congrArg (λz:Sem (List (Str×Addr))=>z >>= λcs=>pure cs) e1).trans rfl
section
variable{prog:Program}{w:World}{A:Around}{R:Result->Shared->Prop}{s:Shared}
theorem zlo{elt target iter:Expr}{ifs:List Expr}{scope:Scope}{pos:Pos}{it acc:Value}{env:Env}(I:Nat->Shared->Prop)
  (turn:∀ n s,I n s->wpAny (model prog w) A (pyNext it) (λr s₁=>match r with
   |none=>R (.ok .next) s₁
   |some v=>wpAny (model prog w) A (letOwnedTupleGo target it v) (λ_ s₁'=>wpAny (model prog w) A (assign target env v) (λ_ s₂ =>
     wpAny (model prog w) A (forIn ifs true λc r=>if r=true then do let ok <- isTrue c env (eval c env);pure (ForInStep.yield ok) else pure (ForInStep.yield r)) (λok s₃ =>
      if ok=true then wpAny (model prog w) A (eval elt env) (λx s₄ =>
       wpAny (model prog w) A (call (.builtin "list.append") [acc,x]) (λ_ s₅=>∃ m,m<n/\I m s₅) (λ_ _=>False) s₄) (λ_ _=>False) s₃
      else ∃ m,m<n/\I m s₃) (λ_ _=>False) s₂) (λ_ _=>False) s₁') (λ_ _=>False) s₁) (λ_ _=>False) s)
  (n:Nat) (h:I n s) :
  codeAny (model prog w) A (.compLoop (.ListComp elt [⟨target,iter,ifs,0⟩] scope pos) 0 it acc env) R s:=by
 refine codeAny_loop rfl I (λn s hI=>?_) n h;show wpAny _ A ((compTurn (.ListComp elt [⟨target,iter,ifs,0⟩] scope pos) 0 it acc env).onRaise (λx=>do noteFrame x env;theTreesLotGoes x)) _ _ s;refine wpAny_noted ?_;rw[compTurn_list];refine wab (wpAny_standAt (wab (wpAny_mono (turn n s hI) (λr s₁ h₁=>?_) λ_ _ h'=>h'.elim)));cases r with
 |none=>exact wad h₁
 |some v =>
  refine wab (wpAny_mono h₁ (λ_ s₁' h₁'=>?_) λ_ _ h'=>h'.elim);refine wab (wpAny_mono h₁' (λ_ s₂ h₂=>wab (wpAny_mono h₂ (λok s₃ h₃=>?_) λ_ _ h'=>h'.elim)) λ_ _ h'=>h'.elim);cases ok with
  |false=>exact wad ⟨rfl,h₃⟩
  |true =>
   exact wab (wab (wpAny_mono h₃ (λx s₄ h₄=>wab (wpAny_mono h₄ (λ_ s₅ h₅=>wad (wad ⟨rfl,h₅⟩)) λ_ _ h'=>h'.elim)) λ_ _ h'=>h'.elim))
end
def zfh(X:Cx)(N':List Str)(scope:Scope)(cl:List (Str×Addr))(L:Addr)(s:Shared)(H:Hp)(fp:List Addr):Cx where
 prog:=X.prog
 w:=X.w
 K:=X.K
 mg:=X.mg
 base:=X.base
 A:=X.A
 N:=N'
 s₀:=s
 H₀:=H
 env:=compEnvC scope cl L X.env
 outer:=X.stack
 stack:=X.stack
 ex:=fp
 fn:=λx=>scope.names.lookup x == some .cell
 calm:=X.calm
 pn:=[]
 xe:=λ_ _=>False
def zgJ(C:Cn)(n:Nat)(G H:Hp)(w:Wn)(Y:L2.St):Cn:=⟨G,H,w,List.range n,Y,λ_=>False,C.xv,false⟩
def zgN(N N':List Str)(names:List (Str×NameKind))(m:Nat):Bool:=decide (N'.length=N.length+m) && (List.range N.length).all λi=>match N'[i]? with
 |some x=>match names.lookup x with
  |some .free=>N[i]? == some x
  |some .local=>false
  |some .cell=>false
  |_=>true
 |none=>false
theorem zc4{env:Env}{x:Str}:∀{names:List (Str×NameKind)},(names.map λ(n,k)=>if (k == NameKind.free && env.scope.kind == .function && env.kindOf n == some .cell) then (n,NameKind.cell) else (n,k)).lookup x=(names.lookup x).map λk=>if (k == NameKind.free && env.scope.kind == .function && env.kindOf x == some .cell)=true then .cell else k
 |[]=>rfl
 | (n,k)::r=>by
  have ih:=zc4 (env:=env) (x:=x) (names:=r);show List.lookup x ((if (k == NameKind.free && env.scope.kind == .function && env.kindOf n == some .cell)=true then (n,NameKind.cell) else (n,k))::_)=_;cases hx:x == n with
  |true =>
   have e:=beq_iff_eq.mp hx;subst e;simp only[List.lookup_cons,beq_self_eq_true,Option.map_some];split <;> simp[List.lookup_cons]
  |false =>
   simp only[List.lookup_cons,hx];split
   ·simp only[List.lookup_cons,hx];exact ih
   ·simp only[List.lookup_cons,hx];exact ih
theorem zcz{α β:Type} [BEq α] [LawfulBEq α] {x:α} {b:β}:∀{l:List (α×β)},l.lookup x=some b->(x,b)∈l
 |[],h=>by simp at h
 | (n,k)::r,h=>by
  rw[List.lookup_cons] at h;cases hx:x == n with
  |true=>rw[hx] at h;simp at h;subst h;rw[beq_iff_eq.mp hx];exact wau
  |false=>rw[hx] at h;exact wah _ (zcz h)
theorem zhz{scope:Scope}{env:Env}{x:Str}(h:Vis (relabel scope env) x):scope.names.lookup x=some .local\/scope.names.lookup x=some .cell\/scope.names.lookup x=some .free:=by
 have e:(relabel scope env).names.lookup x=_:=zc4 (env:=env) (x:=x) (names:=scope.names);unfold Vis at h;rw[e] at h;cases q:scope.names.lookup x with
 |none=>rw[q] at h;simp at h
 |some k =>
  rw[q] at h;cases k <;> simp_all
abbrev Hcu(scope:Scope):Prop:=∀ y∈scope.names,y.2=.cell->scope.names.lookup y.1=some .cell
theorem zkn{x:Str}{c:Addr}:∀(names:List (Str×NameKind))(n:Nat)(acc:List (Str×Addr)),(cellsFrom n names acc).lookup x=some c->(acc.lookup x=some c/\(x,NameKind.cell)∉names)\/((x,NameKind.cell)∈names/\n<=c)
 |[],n,acc,h=>.inl ⟨h,xws⟩
 | (y,k)::r,n,acc,h=>by
  unfold cellsFrom at h;by_cases hk:(k == NameKind.cell)=true
  ·rw[if_pos hk] at h;have hk':=eq_of_beq hk;subst hk';rcases zkn r (n+1) _ h with ⟨h1,h2⟩|⟨h1,h2⟩
   ·rw[List.lookup_cons] at h1;by_cases hx:(x == y)=true
    ·rw[hx] at h1;cases h1;rw[beq_iff_eq.mp hx];exact .inr ⟨wau,wal _⟩
    ·simp only[hx] at h1;refine .inl ⟨h1,λz=>?_⟩;rcases wap.mp z with z|z
     ·cases z;exact hx xws
     ·exact h2 z
   ·exact .inr ⟨wah _ h1,xwo⟩
  ·rw[if_neg hk] at h;rcases zkn r n _ h with ⟨h1,h2⟩|⟨h1,h2⟩
   ·refine .inl ⟨h1,λz=>?_⟩;rcases wap.mp z with z|z
    ·cases z;exact hk xws
    ·exact h2 z
   ·exact .inr ⟨wah _ h1,h2⟩
theorem zqK{x:Str}:∀(names:List (Str×NameKind))(n:Nat)(acc:List (Str×Addr)),(x,NameKind.cell)∉names->(cellsFrom n names acc).lookup x=acc.lookup x
 |[],n,acc,_=>rfl
 | (y,k)::r,n,acc,h=>by
  unfold cellsFrom;have hr:(x,NameKind.cell)∉r:=λz=>h (wah _ z);by_cases hk:(k == NameKind.cell)=true
  ·rw[if_pos hk,zqK r _ _ hr,List.lookup_cons];have hk':=eq_of_beq hk;subst hk';have:(x == y)=false:=by
    cases hx:x == y with
    |false=>rfl
    |true=>rw[beq_iff_eq.mp hx] at h;exact absurd wau h
   rw[this]
  ·rw[if_neg hk];exact zqK r _ _ hr
theorem zp5:∀(names:List (Str×NameKind))(n:Nat)(acc:List (Str×Addr)),(∀ x c,acc.lookup x=some c->c<n)->(∀ x y c,acc.lookup x=some c->acc.lookup y=some c->x=y)->∀ x y c,(cellsFrom n names acc).lookup x=some c->(cellsFrom n names acc).lookup y=some c->x=y
 |[],n,acc,_,h=>h
 | (z,k)::r,n,acc,hl,hi=>by
  unfold cellsFrom;by_cases hk:(k == NameKind.cell)=true
  ·rw[if_pos hk];have one:∀ x c,((z,n)::acc).lookup x=some c->(x=z/\c=n)\/(acc.lookup x=some c/\c<n):=λx c e=>by
    rw[List.lookup_cons] at e;by_cases hx:(x == z)=true
    ·rw[hx] at e;cases e;exact .inl ⟨beq_iff_eq.mp hx,rfl⟩
    ·simp only[hx] at e;exact .inr ⟨e,hl x c e⟩
   refine zp5 r (n+1) _ (λx c e=>?_) λx y c e1 e2=>?_
   ·rcases one x c e with ⟨_,h⟩|⟨_,h⟩
    ·rw[h];exact Nat.lt_succ_self _
    ·exact Nat.lt_succ_of_lt h
   ·rcases one x c e1 with ⟨rfl,h1⟩|⟨h1,h1'⟩ <;> rcases one y c e2 with ⟨rfl,h2⟩|⟨h2,h2'⟩
    ·rfl
    ·exact absurd h2' (by rw[h1];exact waL _)
    ·exact absurd h1' (by rw[h2];exact waL _)
    ·exact hi x y c h1 h2
  ·rw[if_neg hk];exact zp5 r n acc hl hi
theorem zlM{x:Str}{c:Addr}:∀(names:List (Str×NameKind))(h:Heap)(acc:List (Str×Addr)),(cellsFrom h.objs.size names acc).lookup x=some c->acc.lookup x=some c\/(pushCells h names).IsCell c none
 |[],h,acc,e=>.inl e
 | (y,k)::r,h,acc,e=>by
  unfold cellsFrom at e;unfold pushCells;by_cases hk:(k == NameKind.cell)=true
  ·rw[if_pos hk] at e ⊢;have ez:h.objs.size+1=(h.push { cls:=.type "cell",data:=.cell none }).objs.size:=(Heap.size_push ..).symm;rw[ez] at e;rcases zlM r _ _ e with z|z
   ·rw[List.lookup_cons] at z;by_cases hx:(x == y)=true
    ·rw[hx] at z;cases z;exact .inr ⟨_,pushCells_keeps _ _ _ _ (waj _ rfl),rfl⟩
    ·simp only[hx] at z;exact .inl z
   ·exact .inr z
  ·rw[if_neg hk] at e ⊢;exact zlM r h acc e
section
variable{X:Cx}{C:Cn}
theorem zp7{pS:List (Addr×Obj)}{Y:L2.St}{H:Hp}{s:Shared}{N':List Str}{scope:Scope}{cl:List (Str×Addr)}{m:Nat}{fp:List Addr}{h₁:Heap}{tk:Nat}{mm:Str->Option Value}(I:L2.Inv X pS Y H s)(hf:∀ b∈fp,zfm X pS H b)(ho:∀ b∈fp,∃ o,s.heap.get? b=some o)
  (hb:zgN X.N N' scope.names m=true) (hkind:scope.kind=.function) (hcell:Hcu scope) (hfr:∀ y∈scope.names,y.2=.free->X.env.kindOf y.1=some .cell\/X.env.kindOf y.1=some .free)
  (hcl:∀ x c,cl.lookup x=some c->X.env.cells.lookup x=some c) (hcf:∀ y∈scope.names,y.2=.free->∃ c,cl.lookup y.1=some c)
  (hce:∀ x c,(cellsFrom (s.heap.objs.size+1) scope.names cl).lookup x=some c->cl.lookup x=some c\/h₁.IsCell c none) (hns:h₁.Ns s.heap.objs.size mm) (hk:∀ b o,s.heap.get? b=some o->h₁.get? b=some o) :
  L2.Inv (zfh X N' scope (cellsFrom (s.heap.objs.size+1) scope.names cl) s.heap.objs.size s H fp) [] (Y++List.replicate m none) H { s with heap:=h₁,toks:=tk }:=by
 have hb1:N'.length=X.N.length+m:=by unfold zgN at hb;rw[Bool.and_eq_true] at hb;exact of_decide_eq_true hb.1
 have hb2:∀ i x,i<X.N.length->N'[i]? = some x->Vis (relabel scope X.env) x->X.N[i]? = some x/\scope.names.lookup x=some .free:=λi x hi e v=>by
  unfold zgN at hb;rw[Bool.and_eq_true,List.all_eq_true] at hb;have q:=hb.2 i (List.mem_range.mpr hi);simp only[e] at q;rcases zhz v with z|z|z
  ·simp[z] at q
  ·simp[z] at q
  ·simp[z] at q;exact ⟨q,z⟩
 have cellK:∀ c v,s.heap.IsCell c v->h₁.IsCell c v:=λc v ⟨o,e1,e2⟩=>⟨o,hk c o e1,e2⟩
 have lt:∀ x c,cl.lookup x=some c->c<s.heap.objs.size:=λx c e=>by obtain ⟨v,ic⟩:=I.cell x c (hcl x c e);exact ic.lt
 have inj:=zp5 scope.names (s.heap.objs.size+1) cl (λx c e=>Nat.lt_succ_of_lt (lt x c e)) λx y c h1 h2=>I.ok.inj x y c (hcl x c h1) (hcl y c h2);have look:∀ x c,(cellsFrom (s.heap.objs.size+1) scope.names cl).lookup x=some c->cl.lookup x=some c\/s.heap.objs.size+1<=c:=λx c e=>(zkn _ _ _ e).imp (λz=>z.1) λz=>z.2;refine ⟨⟨I.ok.mod,hkind,I.ok.glob,I.ok.blt,wal _,inj,λx hx=>?_,λx c h e=>?_,I.ok.hd,I.ok.frames,.inl rfl,λb hb=>⟨?_,λx c e=>?_⟩,I.bs,waN I.ok.bsz I.sz,λb o e hb=>?_,λb hb z=>?_,I.stack,I.stkFree⟩,
  rfl,I.bare,Un.kept hk,⟨mm,hns,λi x v e1 e2 e3=>?_⟩,λx c e=>?_,I.hok.fresh (wal _),λx c e=>?_,λp hp=>absurd hp (by simp[zfh]),I.hok.kept hk,?_⟩
 ·
  have e:(relabel scope X.env).names.lookup x=_:=zc4 (env:=X.env) (x:=x) (names:=scope.names);have hx':Vis (relabel scope X.env) x:=hx.elim (λz=>.inr (.inl z)) λz=>.inr (.inr z);rcases zhz hx' with z|z|z
  ·rw[z] at e;have hx2:(relabel scope X.env).names.lookup x=some .cell\/(relabel scope X.env).names.lookup x=some .free:=hx;rw[e] at hx2;simp at hx2
  ·exact Option.isSome_iff_exists.mp (W.cellsFrom_some _ _ _ (.inl z))
  ·exact Option.isSome_iff_exists.mp (W.cellsFrom_some _ _ _ (.inr (Option.isSome_iff_exists.mpr (hcf _ (zcz z) rfl))))
 ·have h':scope.names.lookup x=some .cell:=eq_of_beq h;rcases zkn _ _ _ e with z|z
  ·exact absurd (zcz h') z.2
  ·exact Nat.le_of_succ_le z.2
 ·intro z;obtain ⟨o,e⟩:=ho b hb;exact absurd (wai e) (by rw[z];exact waL _)
 ·rcases look x c e with z|z
  ·exact (hf b hb).2.2.2.2.1 x c (hcl x c z)
  ·intro q;obtain ⟨o,e'⟩:=ho b hb;have:=wai e';rw[<- q] at this;exact absurd this (Nat.not_lt.mpr (Nat.le_of_succ_le z))
 ·rcases (hf b hb).2.2.2.1 with z|z
  ·exact I.ok.noex b o e z
  ·exact absurd (was (wai e) (waN I.ok.bsz z)) (waL _)
 ·rcases wap.mp (I.stkSub b z) with z|z
  ·exact (hf b hb).2.1 z
  ·exact (hf b hb).2.2.1 z
 ·have hi:i<X.N.length:=by
   by_cases hi:i<X.N.length
   ·exact hi
   ·rw[List.getElem?_append_right (by rw[I.len];lia),List.getElem?_replicate] at e2;split at e2 <;> cases e2
  rw[List.getElem?_append_left (by rw[I.len];exact hi)] at e2;obtain ⟨q1,q2⟩:=hb2 i x hi e1 e3;have hm:=zcz q2;obtain ⟨m0,hn0,hl0⟩:=I.loc;have kc:=hfr _ hm rfl;obtain ⟨u,ru,lk⟩:=hl0 i x v q1 e2 (kc.elim (λz=>.inr (.inl z)) λz=>.inr (.inr z));refine ⟨u,ru,.inr ⟨?_,?_⟩⟩
  ·have e:(relabel scope X.env).names.lookup x=_:=zc4 (env:=X.env) (x:=x) (names:=scope.names);show (relabel scope X.env).names.lookup x=some .cell\/(relabel scope X.env).names.lookup x=some .free;rw[e,q2];simp only[Option.map_some];split
   ·exact .inl rfl
   ·exact .inr rfl
  ·obtain ⟨c,hc⟩:=hcf _ hm rfl;have hno:(x,NameKind.cell)∉scope.names:=λz=>by have:=hcell _ z rfl;rw[q2] at this;cases this
   refine ⟨c,(zqK _ _ _ hno).trans hc,?_⟩;rcases lk with ⟨z,_⟩|⟨_,c',e',ic⟩
   ·rcases kc with y|y <;> (rw[y] at z;cases z)
   ·rw[hcl _ _ hc] at e';cases e';exact cellK _ _ ic
 ·rcases hce x c e with z|z
  ·obtain ⟨v,ic⟩:=I.cell x c (hcl x c z);exact ⟨v,cellK _ _ ic⟩
  ·exact ⟨none,z⟩
 ·rcases look x c e with z|z
  ·exact I.freeC x c (hcl x c z)
  ·exact I.hok.fresh xwo
 ·show _=N'.length;rw[List.length_append,List.length_replicate,I.len,hb1]
theorem zvo{pS:List (Addr×Obj)}{Y Y':L2.St}{H H':Hp}{s s':Shared}{N':List Str}{scope:Scope}{cl:List (Str×Addr)}{fp:List Addr}{L:Addr}{h':Heap}{ps:List (Addr×Obj)}(I:L2.Inv X pS Y H s)(hf:∀ b∈fp,zfm X pS H b)(hL:s.heap.objs.size<=L)
  (J:L2.Inv (zfh X N' scope cl L s H fp) ps Y' H' s') (hs:Heap.SameBut L s'.heap h'):L2.Inv X pS Y H' { s' with heap:=h' }:=by
 have hne:∀ b o,s.heap.get? b=some o->b≠L:=λb o e z=>by subst z;exact absurd (was (wai e) hL) (waL _)
 have hfree:H' L=none:=J.free;have un:Un (frs X.stack) fp H H' s.heap s'.heap:=J.base;refine I.call' (s':={ s' with heap:=h' }) (ch:=fp) J.os ⟨λb o e n h1 h2=>?_,λb o e n h1 h2=>?_,un.free,λb o e h2=>?_,un.tups,un.frzs,un.tbls⟩ (λb o e=>?_) J.bare λb hb=>⟨(hf b hb).2.2.2.1,(hf b hb).2.1,(hf b hb).2.2.2.2.1,(hf b hb).2.2.2.2.2⟩
 ·exact (hs.2 b (hne b o e)).trans (un.keep b o e n h1 h2)
 ·obtain ⟨sl,q⟩:=un.slot b o e n h1 h2;exact ⟨sl,(hs.2 b (hne b o e)).trans q⟩
 ·obtain ⟨o',q⟩:=un.there b o e h2;exact ⟨o',(hs.2 b (hne b o e)).trans q⟩
 ·refine (J.hok b o e).stay (λc v hc q=>(hs.2 c ?_).trans q) (λ_ q=>q) λ_ _ q=>q;intro z;subst z;rcases hc with z|z
  ·subst z;rw[hfree] at e;cases e
  ·rw[hfree] at z;cases z
end
def zcl(g:DG)(ft:DT)(fe:De):List Dt->Ev->R (List Dt×Ev)
 |[],Z=>.ok ([],Z)
 |d::r,Z=>(g d Z).bind λZ1=>(ft Z1).bind λt=>if t.1=true then (fe t.2).bind λy=>(zcl g ft fe r y.2).bind λz=>.ok (y.1::z.1,z.2) else zcl g ft fe r t.2
def zb9(fi:DA)(g:DG)(ft:DT)(fe:De)(m:Nat):DN:=λZ=>(fi Z).bind λa=>if zhl a.1=true then match zcl g ft fe a.1 (a.2++List.replicate m none) with
  |.ok z=>.ok (z.1,z.2.take a.2.length)
  |_=>.no
 else .no
theorem zdt{α β:Type}{r:R α}{f:α->R β}{b:β}(h:r.bind f=.ok b):∃ a,r=.ok a/\f a=.ok b:=by
 cases r with
 |ok a=>exact ⟨a,rfl,h⟩
 |er n=>cases h
 |no=>cases h
def JTs(X:Cx)(C:Cn)(ifs:List Expr)(ft:DT):Prop :=
 ∀(pS:List (Addr×Obj))(s:Shared)(Y:L2.St)(H:Hp)(Q:Bool->Hp->Prop),L2.Inv X pS Y H s->tT X.K C ft Y H Q ->
  wpAny (model X.prog X.w) X.A (forIn ifs true λc r=>if r=true then do let ok <- isTrue c X.env (eval c X.env);pure (ForInStep.yield ok) else pure (ForInStep.yield r)) (TP X pS Y Q) X.xe s
def dTT:DT:=λZ=>.ok (true,Z)
abbrev Hce(scope:Scope):Prop:=Hcu scope
abbrev Hfr(X:Cx)(scope:Scope):Prop:=∀ y∈scope.names,y.2=.free->X.env.kindOf y.1=some .cell\/X.env.kindOf y.1=some .free
abbrev Hnm(scope:Scope):Prop:=∀ y∈scope.names,y.2=.local->scope.names.lookup y.1=some .local
abbrev Hbk(X:Cx)(C:Cn)(N':List Str)(scope:Scope)(tg:Expr)(ifs:List Expr)(elt:Expr)(g:DG)(ft:DT)(fe:De):Prop:=∀ cl L s H fp G H' w Y,JG (zfh X N' scope cl L s H fp) (zgJ C X.N.length G H' w Y) tg g/\JTs (zfh X N' scope cl L s H fp) (zgJ C X.N.length G H' w Y) ifs ft/\JE (zfh X N' scope cl L s H fp) (zgJ C X.N.length G H' w Y) elt fe
abbrev nL(s2:Shared):Heap:=s2.heap.push { cls:=.type "list",dict:=none,data:=.seq ([]:List Value).toArray }
def PTs(X:Cx)(ifs:List Expr)(t:TT):Prop :=
 ∀(pS:List (Addr×Obj))(s:Shared)(Y:L2.St)(H:Hp)(Q:Bool->Hp->Prop),L2.Inv X pS Y H s->t Y H Q ->
  wpAny (model X.prog X.w) X.A (forIn ifs true λc r=>if r=true then do let ok <- isTrue c X.env (eval c X.env);pure (ForInStep.yield ok) else pure (ForInStep.yield r)) (TP X pS Y Q) X.xe s
section
variable{X:Cx}{C:Cn}
theorem zg7:JTs X C [] dTT:=λpS s Y H Q I ⟨G,w,Z,r,p⟩=>wpAny_tests_nil ⟨H,I,p G H w (.refl _ _ _) r⟩
theorem zea{c:Expr}{ft:DT}(h:JT X C c ft):JTs X C [c] ft:=λpS s Y H Q I t=>wpAny_tests_one (h pS s Y H Q I t)
theorem Rel.upd_new{K:W.Frag}{Y:L2.St}{G H:Hp}{w:Wn}{Z:Ev}{p:Addr}{o:HO}(r:Rel K C G w Z Y H)(hg:G p=none)(hw:w p=none)(h0:C.H₀ p=none):Rel K C G w Z Y (upd H p o):=by
 refine ⟨λb u e=>?_,r.wg,λb e=>?_,r.len,λi b e=>?_,⟨r.en.g,r.en.fr,λb u e z=>?_,r.en.w,λb e=>?_⟩,r.pin⟩
 ·rw[zat (zas e hg)];exact r.gh b u e
 ·by_cases hb:b=p
  ·subst hb;rw[zar];simp
  ·rw[zat hb];exact r.wh b e
 ·obtain ⟨v,h1,h2⟩:=r.sl i b e;refine ⟨v,h1,h2.grow (.refl _) λa u e1 e2=>⟨?_,e1⟩⟩;have:a≠p:=λz=>by subst z;rw[hw] at e1;cases e1
  rw[zat this];exact e2
 ·rw[zat (zas e h0)];exact r.en.h b u e z
 ·by_cases hb:b=p
  ·subst hb;exact h0
  ·rw[zat hb] at e;exact r.en.k b e
theorem zbA.keep{G H G' H':Hp}{w w':Wn}{p:Addr}{o:HO}(s:zbA G H w G' H' w')(hg:G p=none)(hw:w p=none)(hp:H p=some o):G' p=none/\w' p=none/\H' p=some o:=by
 refine ⟨?_,?_,s.h p o hp hw⟩
 ·cases q:G' p with
  |none=>rfl
  |some u =>
   rcases s.fr p u q with z|z|z
   ·exact absurd hg z
   ·rw[hp] at z;cases z
   ·exact absurd hw z
 ·cases q:w' p with
  |none=>rfl
  |some k =>
   rcases s.w p (by rw[q];simp) with z|z
   ·exact absurd hw z
   ·rw[hp] at z;cases z
structure zqM(X:Cx)(pS:List (Addr×Obj))(H:Hp)(L:Addr)(s:Shared):Prop where
 fr:H L=none
 nl:L≠X.env.locals
 nw:L∈X.ex\/X.s₀.heap.objs.size<=L
 nc:∀ x c,X.env.cells.lookup x=some c->c≠L
 np:∀ p∈X.pn++pS,p.1≠L
 ns:∃ m,s.heap.Ns L m
theorem zlj{M:Model}{A:Around}{E:Value->Shared->Prop}{s:Shared}{scope:Scope}{globals b:Addr}{cl:List (Str×Addr)}{qual:Str}{env:Env}{Q:Env->Shared->Prop}
  (h:Q (newEnv scope s.heap.objs.size globals (cellsFrom (s.heap.objs.size+1) scope.names cl) qual none .none (some env) b) { s with heap:=pushCells (s.heap.push { cls:=.type "dict",data:=.dict #[] }) scope.names }) :
  wpAny M A (newFunctionEnv scope globals cl [] qual none .none (some env) b) Q E s:=by
 simp only[newFunctionEnv,Option.isSome_some,if_true];refine wab (wpAny_alloc ?_);refine wab (wpAny_layCells _ (λname kind cells=>by cases hkc:kind == NameKind.cell <;> simp[hkc]) _ _ _ _ ?_);rw[show ({ s with heap:=s.heap.push { cls:=.type "dict",data:=.dict #[] } }:Shared).heap.objs.size=s.heap.objs.size+1 from Heap.size_push ..];refine wab ?_;rw[List.forIn_nil];exact wad (wad h)
theorem zmY{tg iter elt:Expr}{ifs:List Expr}{scope:Scope}{pos:Pos}{N':List Str}{m n:Nat}{tgt:TG}{tts:TT}{te:TE}(hc:X.calm=true)(hb:zgN X.N N' scope.names m=true)
  (hkind:scope.kind=.function) (hcell:Hce scope) (hfr:Hfr X scope)
  {pS:List (Addr×Obj)} {Y:L2.St} {s2:Shared} {cl:List (Str×Addr)} {RR:Value->Addr->Result->Shared->Prop} {E:Value->Shared->Prop}
  (hblk:∀ L s H fp,L2.Inv X pS Y H s->(∀ b∈fp,zfm X pS H b)->s.heap.objs.size<=L->PG (zfh X N' scope (cellsFrom (L+1) scope.names cl) L s H fp) tg tgt/\PTs (zfh X N' scope (cellsFrom (L+1) scope.names cl) L s H fp) ifs tts/\PE (zfh X N' scope (cellsFrom (L+1) scope.names cl) L s H fp) elt te)
  (hcl:∀ x c,cl.lookup x=some c->X.env.cells.lookup x=some c) (hcf:∀ y∈scope.names,y.2=.free->∃ c,cl.lookup y.1=some c)
  {it:Addr} {fp:List Addr} {tn:Nat->Heap->Prop} {J:It} {H2:Hp} (I2:L2.Inv X pS Y H2 s2) (T:zpy X.prog X.w X.K tg J fp it tn) (st2:tn 0 s2.heap) (f2:∀ b∈fp,zfm X pS H2 b)
  (W:Addr->Nat->L2.St->Hp->List V->Prop) (w0:∀ D,H2 D=none->W D 0 (Y++List.replicate m none) (upd H2 D (.lst [])) [])
  (hstep:∀ D i Y' H' vs,H2 D=none->W D i Y' H' vs->H' D=some (.lst vs)->i<n->J.go i H'/\∀ x H7,J.yld i H' x H7->tgt x Y' H7 λY8 H8=>tts Y8 H8 λb H9=>if b=true then te Y8 H9 λv H10=>H10 D=some (.lst vs)/\vs.length<sizeLine/\W D (i+1) Y8 (upd H10 D (.lst (vs++[v]))) (vs++[v]) else H9 D=some (.lst vs)/\W D (i+1) Y8 H9 vs)
  (hstop:∀ D Y' H' vs,W D n Y' H' vs->J.stop n H')
  (fin:∀(D L:Addr)(s':Shared)(vs:List V)(Y':L2.St)(H':Hp),L2.Inv X pS Y H' s'->zqM X pS H' L s'->H2 D=none->H' D=some (.lst vs)->Y'.length=X.N.length+m->W D n Y' H' vs->RR (.ref D) L (.ok .next) s') :
  wpAny (model X.prog X.w) X.A (newList []) (λacc s₃=>wpAny (model X.prog X.w) X.A (newFunctionEnv scope X.env.globals cl [] X.env.qual none .none (some X.env)) (λcenv s₄ =>
   codeAny (model X.prog X.w) X.A (.compStart (.ListComp elt [⟨tg,iter,ifs,0⟩] scope pos) 0 (.ref it) acc { cenv with scope:=relabel scope X.env }) (RR acc cenv.locals) s₄) E s₃) E s2:=by
 have hD:H2 s2.heap.objs.size=none:=I2.hok.fresh (wal _);refine wpAny_newObj_type (zlj ?_);generalize hh₁:pushCells ((nL s2).push { cls:=.type "dict",data:=.dict #[] }) scope.names=h₁;have hns₁:h₁.Ns (nL s2).objs.size λ_=>none:=by rw[<- hh₁];exact (Heap.Ns.new (nL s2) (.type "dict")).keeps (pushCells_keeps _ _)
 have I3:L2.Inv X pS Y (upd H2 s2.heap.objs.size (.lst [])) { s2 with heap:=nL s2 } :=
  I2.laid (t':=s2.toks) (λb u e=>waa _ e) (wal _) ⟨Nat.zero_le _,[],0,.nil,waj _ rfl⟩
 have hob:∀ b∈fp,∃ o,s2.heap.get? b=some o:=λb hb=>let ⟨o,e,_⟩:=T.obj 0 _ st2 b hb;⟨o,e⟩;have hbD:∀ b∈fp,b≠s2.heap.objs.size:=λb hb z=>by obtain ⟨o,e⟩:=hob b hb;exact absurd (wai e) (by rw[z];exact waL _)
 have f3:∀ b∈fp,zfm X pS (upd H2 s2.heap.objs.size (.lst [])) b:=λb hb=>⟨by rw[zat (hbD b hb)];exact (f2 b hb).1,(f2 b hb).2⟩
 have hk3:∀ b o,(nL s2).get? b=some o->h₁.get? b=some o:=λb o e=>by rw[<- hh₁];exact pushCells_keeps _ _ b o (waa _ e)
 have hce:∀ x c,(cellsFrom ((nL s2).objs.size+1) scope.names cl).lookup x=some c->cl.lookup x=some c\/h₁.IsCell c none:=λx c e=>by have ez:(nL s2).objs.size+1=((nL s2).push { cls:=.type "dict",data:=.dict #[] }).objs.size:=(Heap.size_push ..).symm;rw[ez] at e;rw[<- hh₁];exact zlM _ _ _ e
 have J4:=zp7 (N':=N') (scope:=scope) (cl:=cl) (m:=m) (fp:=fp) (tk:=s2.toks) I3 f3 (λb hb=>by obtain ⟨o,e⟩:=hob b hb;exact ⟨o,waa _ e⟩) hb hkind hcell hfr hcl hcf hce hns₁ hk3;have st4:tn 0 h₁:=T.keep _ _ _ st2 λb hb o e=>hk3 b o (waa _ e);generalize hX':zfh X N' scope (cellsFrom ((nL s2).objs.size+1) scope.names cl) (nL s2).objs.size { s2 with heap:=nL s2 } (upd H2 s2.heap.objs.size (.lst [])) fp=X' at J4;have eP:X'.prog=X.prog:=by rw[<- hX'];rfl
 have eW:X'.w=X.w:=by rw[<- hX'];rfl
 have eK:X'.K=X.K:=by rw[<- hX'];rfl
 have eA:X'.A=X.A:=by rw[<- hX'];rfl
 have eC:X'.calm=true:=by rw[<- hX'];exact hc
 have eE:X'.xe=λ_ _=>False:=by rw[<- hX'];rfl
 have ePn:X'.pn=[]:=by rw[<- hX'];rfl
 have eN:X'.N.length=X.N.length+m:=by rw[<- hX'];show N'.length=_;unfold zgN at hb;rw[Bool.and_eq_true] at hb;exact of_decide_eq_true hb.1
 have eEx:X'.ex=fp:=by rw[<- hX'];rfl
 have hlenσ:Y.length=X.N.length:=I2.len;obtain ⟨hg,hts,he⟩:=hblk (nL s2).objs.size { s2 with heap:=nL s2 } (upd H2 s2.heap.objs.size (.lst [])) fp I3 f3 (wal _);rw[hX'] at hg hts he;have stat:∀{H':Hp},(∀ b∈fp,H' b=none)->∀ b∈fp,zfm X' [] H' b:=λhn b hb=>by have q:=J4.ok.exf b (by rw[eEx];exact hb);exact ⟨hn b hb,q.1,J4.ok.exfs b (by rw[eEx];exact hb),.inl (by rw[eEx];exact hb),q.2,λp hp=>by rw[ePn] at hp;simp at hp⟩
 have loop:∀ s₃:Shared,s₃={ s2 with heap:=h₁ } ->
   codeAny (model X.prog X.w) X.A (.compLoop (.ListComp elt [⟨tg,iter,ifs,0⟩] scope pos) 0 (.ref it) (.ref s2.heap.objs.size) X'.env) (RR (.ref s2.heap.objs.size) (nL s2).objs.size) s₃:=by
  rintro s₃ rfl;refine zlo (λk s'=>∃ i Y' H' vs,L2.Inv X' [] Y' H' s'/\tn i s'.heap/\(∀ b∈fp,H' b=none)/\k=n-i/\i<=n/\H' s2.heap.objs.size=some (.lst vs)/\W s2.heap.objs.size i Y' H' vs) ?_ n
   ⟨0,Y++List.replicate m none,_,[],J4,st4,λb hb=>(f3 b hb).1,xws,Nat.zero_le _,zar,w0 _ hD⟩
  rintro k s' ⟨i,Y',H',vs,J5,st5,fr5,rfl,hil,hd5,q5⟩;by_cases hlt:i<n
  ·obtain ⟨go,yl⟩:=hstep _ i Y' H' vs hD q5 hd5 hlt;have hIt:=T.item X' eP eW eK eC i [] s' Y' H' (λ_ _=>False) J5 (stat fr5) st5 go;rw[eA] at hIt;refine thn hIt λrr s6 ⟨u,hr,h6⟩=>?_;subst hr;refine thn h6 λ_ s7 ⟨x,H7,J7,rx7,y7,st7,fr7⟩=>?_;have q7:=yl x H7 y7;have J7':=J7.pinned (stat fr7) (T.obj _ _ st7);have hG:=hg ([]++zgj fp s7.heap) s7 Y' H7 x u _ J7' rx7 q7;rw[eP,eW,eA,eE] at hG;refine thn hG λ_ s8 ⟨Y8,H8,J8,q8⟩=>?_;have hT:=hts ([]++zgj fp s7.heap) s8 Y8 H8 _ J8 q8;rw[eP,eW,eA,eE] at hT;refine thn hT λok s9 ⟨H9,J9,q9⟩=>?_;have after:∀{σa:L2.St}{Ha:Hp}{sa:Shared},L2.Inv X' ([]++zgj fp s7.heap) σa Ha sa->tn (i+1) sa.heap/\∀ b∈fp,Ha b=none:=λ{σa Ha sa} Ja =>
    ⟨T.keep _ _ _ st7 λb hb o e=>(Ja.pin (b,o) (waz _ (waz _ (zfe hb e)))).1,λb hb=>by obtain ⟨o,e,_⟩:=T.obj _ _ st7 b hb;exact (Ja.pin (b,o) (waz _ (waz _ (zfe hb e)))).2.1⟩
   cases ok with
   |false =>
    rw[if_neg Bool.false_ne_true];rw[if_neg Bool.false_ne_true] at q9;obtain ⟨k1,k2⟩:=after J9;exact ⟨n-(i+1),xwl,i+1,Y8,H9,vs,J9.unpinned,k1,k2,rfl,hlt,q9.1,q9.2⟩
   |true =>
    rw[if_pos rfl];rw[if_pos rfl] at q9;have hEl:=he ([]++zgj fp s7.heap) s9 Y8 H9 _ J9 q9;rw[eP,eW,eA,eE] at hEl;refine thn hEl λxv s10 ⟨vy,H10,J10,ry,q10⟩=>?_;have hAp:=zhp (X:=X') ([]++zgj fp s7.heap) s10 Y8 H10 (.ref s2.heap.objs.size) [vy] (.ref s2.heap.objs.size) [xv] (λv H11=>H11=upd H10 s2.heap.objs.size (.lst (vs++[vy]))) J10 rfl (.cons ry .nil)
     ⟨s2.heap.objs.size,vs,vy,rfl,rfl,q10.1,q10.2.1,rfl⟩
    rw[eP,eW,eA,eE] at hAp;refine thn hAp λ_ s11 ⟨v11,H11,J11,_,e11⟩=>?_;subst e11;obtain ⟨k1,k2⟩:=after J11;exact ⟨n-(i+1),xwl,i+1,Y8,_,vs++[vy],J11.unpinned,k1,k2,rfl,hlt,zar,q10.2.2⟩
  ·have e:i=n:=by lia
   subst e;have hDn:=T.done X' eP eW eK eC i [] s' Y' H' (λ_ _=>False) J5 (stat fr5) st5 (hstop _ _ _ _ q5);rw[eA] at hDn;refine thn hDn λrr s6 ⟨hr,J6⟩=>?_;subst hr;have hl6:Y'.length=X.N.length+m:=by rw[J6.len,eN]
   obtain ⟨m6,hn6,_⟩:=id J6.loc;have eL:X'.env.locals=(nL s2).objs.size:=by rw[<- hX'];rfl
   rw[eL] at hn6;have frL:H' (nL s2).objs.size=none:=by rw[<- eL];exact J6.free
   rw[<- hX'] at J6;have IX:L2.Inv X pS Y H' s6:=zvo (h':=s6.heap) I3 f3 (wal _) J6 ⟨rfl,λ_ _=>rfl⟩;have hLs:∀ b o,(nL s2).get? b=some o->(nL s2).objs.size≠b:=λb o e z=>absurd (wai e) (by rw[z];exact waL _);have lo:zqM X pS H' (nL s2).objs.size s6:=by
    refine ⟨frL,λz=>?_,.inr I3.sz,λx c e z=>?_,λp hp z=>?_,m6,hn6⟩
    ·exact absurd I3.lt (by rw[<- z];exact waL _)
    ·obtain ⟨v,q⟩:=I3.cell x c e;exact absurd q.lt (by rw[z];exact waL _)
    ·exact hLs p.1 p.2 (I3.pin p hp).1 z.symm
   exact fin _ _ s6 vs Y' H' IX lo hD hd5 hl6 q5
 have envEq:X'.env=compEnvC scope (cellsFrom ((nL s2).objs.size+1) scope.names cl) (nL s2).objs.size X.env:=by rw[<- hX'];rfl
 rw[envEq] at loop;exact codeAny_compStart_list (loop _ rfl) (T.self X.A 0 _ _ _ st4 (loop _ rfl))
theorem zrJ{tg iter elt:Expr}{ifs:List Expr}{scope:Scope}{pos:Pos}{N':List Str}{m:Nat}{g:DG}{ft:DT}{fe:De}(hc:X.calm=true)(hb:zgN X.N N' scope.names m=true)
  (hkind:scope.kind=.function) (hcell:Hce scope) (hfr:Hfr X scope)
  (hblk:Hbk X C N' scope tg ifs elt g ft fe)
  {pS:List (Addr×Obj)} {Y:L2.St} {s2:Shared} {cl:List (Str×Addr)} {RR:Value->Addr->Result->Shared->Prop} {E:Value->Shared->Prop}
  (hcl:∀ x c,cl.lookup x=some c->X.env.cells.lookup x=some c) (hcf:∀ y∈scope.names,y.2=.free->∃ c,cl.lookup y.1=some c)
  {it:Addr} {fp:List Addr} {tn:Nat->Heap->Prop} {J:It} {H2:Hp} (I2:L2.Inv X pS Y H2 s2) (T:zpy X.prog X.w X.K tg J fp it tn) (st2:tn 0 s2.heap) (f2:∀ b∈fp,zfm X pS H2 b)
  {ds zs:List Dt} {Z1 ρf:Ev} {G1:Hp} {w1:Wn} (r1:Rel X.K C G1 w1 Z1 Y H2) (Ko:Ev->Prop) (k0:Ko (Z1++List.replicate m none)) (hko:∀ d Z Z3 b Z4,Ko Z->g d Z=.ok Z3->ft Z3=.ok (b,Z4)->Ko Z4/\∀ y Z5,fe Z4=.ok (y,Z5)->Ko Z5)
  (it1:∀ i Z' G' w' Y' H',Rel X.K (zgJ C X.N.length G1 H2 w1 (Y++List.replicate m none)) G' w' Z' Y' H'->Ko Z'->(∀ d,ds[i]? = some d->J.go i H'/\∀ x H7,J.yld i H' x H7->∃ G7,ze6 G' H' G7 H7/\Rep X.K G7 d x)/\(ds.length<=i->J.stop i H')) (hfi:zhl ds=true) (ec:zcl g ft fe ds (Z1++List.replicate m none)=.ok (zs,ρf))
  (fin:∀(D L:Addr)(s':Shared)(vs:List V)(G' H':Hp)(w':Wn),L2.Inv X pS Y H' s'->zqM X pS H' L s'->zbA G1 H2 w1 G' H' w'->Rel X.K C G' w' (ρf.take Z1.length) Y H'->H2 D=none->H' D=some (.lst vs)->G' D=none->w' D=none->za4 X.K G' zs vs->RR (.ref D) L (.ok .next) s') :
  wpAny (model X.prog X.w) X.A (newList []) (λacc s₃=>wpAny (model X.prog X.w) X.A (newFunctionEnv scope X.env.globals cl [] X.env.qual none .none (some X.env)) (λcenv s₄ =>
   codeAny (model X.prog X.w) X.A (.compStart (.ListComp elt [⟨tg,iter,ifs,0⟩] scope pos) 0 (.ref it) acc { cenv with scope:=relabel scope X.env }) (RR acc cenv.locals) s₄) E s₃) E s2:=by
 generalize hC':zgJ C X.N.length G1 H2 w1 (Y++List.replicate m none)=C' at it1;have c0:C'.H₀=H2:=by rw[<- hC'];rfl
 have hlenσ:Y.length=X.N.length:=I2.len;refine zmY (iter:=iter) (pos:=pos) (n:=ds.length) (tgt:=tG X.K C' g) (tts:=tT X.K C' ft) (te:=tE X.K C' fe) hc hb hkind hcell hfr (λL s H fp _ _ _=>by
  obtain ⟨a1,a2,a3⟩:=hblk (cellsFrom (L+1) scope.names cl) L s H fp G1 H2 w1 (Y++List.replicate m none);rw[hC'] at a1 a2 a3;exact ⟨a1,a2,a3⟩) hcl hcf I2 T st2 f2
  (λD i Y' H' vs=>∃ Z' G' w' ac,Rel X.K C' G' w' Z' Y' H'/\G' D=none/\w' D=none/\za4 X.K G' ac vs/\ac.length<=i/\Ko Z'/\∃ z,zcl g ft fe (ds.drop i) Z'=.ok z/\ac++z.1=zs/\z.2 = ρf) (λD hD=>?_) (λD i Y' H' vs hD ⟨Z',G',w',ac,r5,gd5,wd5,q5,hac,ko,z,ez,ez1,ez2⟩ hd5 hlt=>?_) (λD Y' H' vs ⟨Z',G',w',ac,r5,_,_,_,_,ko,_⟩=>(it1 _ _ _ _ _ _ r5 ko).2 (wal _)) λD L s' vs Y' H' IX lo hD hd5 hl6 ⟨Z',G',w',ac,r5,gd5,wd5,q5,hac,_,z,ez,ez1,ez2⟩=>?_
 ·have w0:w1 D=none:=by
   cases q:w1 D with
   |none=>rfl
   |some k=>exact absurd hD (r1.wh _ (by rw[q];simp))
  have base:Rel X.K C' G1 w1 (Z1++List.replicate m none) (Y++List.replicate m none) H2:=by
   refine ⟨r1.gh,r1.wg,r1.wh,by simp[r1.len],λi b e=>?_,by rw[<- hC'];exact .refl _ _ _,λi _=>by rw[<- hC'];rfl⟩;have hi':i < Z1.length:=by
    by_cases hi':i < Z1.length
    ·exact hi'
    ·rw[List.getElem?_append_right xwl,List.getElem?_replicate] at e;split at e <;> cases e
   rw[List.getElem?_append_left hi'] at e;obtain ⟨v,h1,h2⟩:=r1.sl i b e;exact ⟨v,by rw[List.getElem?_append_left (by rw[<- r1.len];exact hi')];exact h1,h2⟩
  exact ⟨Z1++List.replicate m none,G1,w1,[],base.upd_new (r1.gh.free hD) w0 (by rw[c0];exact hD),r1.gh.free hD,w0,za4.nil,Nat.zero_le _,k0,(zs,ρf),by simpa using ec,xws,rfl⟩
 ·have ed:ds.drop i=ds[i]::ds.drop (i+1):=List.drop_eq_getElem_cons hlt;obtain ⟨go,yl⟩:=(it1 i _ _ _ _ _ r5 ko).1 ds[i] (by simp[hlt]);refine ⟨go,λx H7 y7=>?_⟩;obtain ⟨G7,gr,rep7⟩:=yl x H7 y7;have keep7:=(gr.step (w:=w')).keep gd5 wd5 hd5;rw[ed] at ez;unfold zcl at ez;obtain ⟨Z3,e3,ez⟩:=zdt ez;obtain ⟨t4,e4,ez⟩:=zdt ez;obtain ⟨b4,Z4⟩:=t4;obtain ⟨ko4,ko5⟩:=hko _ _ _ _ _ ko e3 e4;refine ⟨G7,w',Z',ds[i],r5.grow gr,rep7,?_⟩;rw[e3];intro Y8 G8 H8 w8 s8s r8;have keep8:=s8s.keep keep7.1 keep7.2.1 keep7.2.2;refine ⟨G8,w8,Z3,r8,?_⟩;rw[e4];intro G9 H9 w9 s9s r9;have keep9:=s9s.keep keep8.1 keep8.2.1 keep8.2.2;have sg9:=(gr.g.trans s8s.g).trans s9s.g;cases b4 with
  |false =>
   show (if false=true then _ else _);rw[if_neg Bool.false_ne_true];simp only[Bool.false_eq_true,if_false] at ez;exact ⟨keep9.2.2,Z4,G9,w9,ac,r9,keep9.1,keep9.2.1,q5.same sg9,xwl,ko4,z,ez,ez1,ez2⟩
  |true =>
   show (if true=true then _ else _);rw[if_pos rfl];simp only[if_true] at ez;obtain ⟨⟨yd,Z10⟩,e10,ez⟩:=zdt ez;obtain ⟨z',ez',ez3⟩:=zdt ez;refine ⟨G9,w9,Z4,r9,?_⟩;rw[e10];intro v G10 H10 w10 s10s r10 q10;have keep10:=s10s.keep keep9.1 keep9.2.1 keep9.2.2;cases ez3;refine ⟨keep10.2.2,?_,Z10,G10,w10,ac++[yd],r10.upd_new keep10.1 keep10.2.1 (by rw[c0];exact hD),keep10.1,keep10.2.1,(q5.same (sg9.trans s10s.g)).append (za4.cons q10 za4.nil),by simp;lia,ko5 _ _ e10,z',ez',by rw[<- ez1];simp,ez2⟩;have:=q5.length;have:=zjr hfi;lia
 ·simp only[List.drop_length] at ez;unfold zcl at ez;cases ez;simp only[List.append_nil] at ez1;subst ez1;subst ez2;have cG:C'.G₀=G1:=by rw[<- hC'];rfl
  have cw:C'.w₀=w1:=by rw[<- hC'];rfl
  have en':zbA G1 H2 w1 G' H' w':=by have:=r5.en;rw[cG,c0,cw] at this;exact this
  have hρlen:Z'.length=X.N.length+m:=by rw[r5.len,hl6]
  refine fin _ _ s' vs G' H' w' IX lo en' ⟨r5.gh,r5.wg,r5.wh,?_,λi b e=>?_,r1.en.trans en',r1.pin⟩ hD hd5 gd5 wd5 q5
  ·rw[List.length_take,hρlen,r1.len,hlenσ];lia
  ·have hi':i < Z1.length:=by
    by_cases hi':i < Z1.length
    ·exact hi'
    ·rw[List.getElem?_eq_none (by rw[List.length_take];lia)] at e;cases e
   rw[List.getElem?_take_of_lt hi'] at e;obtain ⟨v,h1,h2⟩:=r5.sl i b e;refine ⟨v,?_,h2⟩;have hpi:=r5.pin i (by rw[<- hC'];exact List.mem_range.mpr (by rw[<- hlenσ,<- r1.len];exact hi'));rw[h1] at hpi;rw[<- hC'] at hpi;have hpi':some (some v)=(Y++List.replicate m none)[i]? := hpi;rw[List.getElem?_append_left (by rw[<- r1.len];exact hi')] at hpi';exact hpi'.symm
theorem zlr{tg iter elt:Expr}{ifs:List Expr}{scope:Scope}{pos:Pos}{N':List Str}{m:Nat}{g:DG}{ft:DT}{fe:De}(hc:X.calm=true)(hb:zgN X.N N' scope.names m=true)
  (hkind:scope.kind=.function) (hcell:Hce scope) (hfr:Hfr X scope)
  (hblk:Hbk X C N' scope tg ifs elt g ft fe)
  {pS:List (Addr×Obj)} {Y:L2.St} {s2:Shared} {cl:List (Str×Addr)} {RR:Value->Addr->Result->Shared->Prop} {E:Value->Shared->Prop}
  (hcl:∀ x c,cl.lookup x=some c->X.env.cells.lookup x=some c) (hcf:∀ y∈scope.names,y.2=.free->∃ c,cl.lookup y.1=some c)
  {it:Addr} {fp:List Addr} {tn:Nat->Heap->Prop} {J:It} {H2:Hp} (I2:L2.Inv X pS Y H2 s2) (T:zpy X.prog X.w X.K tg J fp it tn) (st2:tn 0 s2.heap) (f2:∀ b∈fp,zfm X pS H2 b)
  {ds zs:List Dt} {Z1 ρf:Ev} {G1:Hp} {w1:Wn} (r1:Rel X.K C G1 w1 Z1 Y H2) (it1:zoC X.K J G1 ds) (hfi:zhl ds=true) (ec:zcl g ft fe ds (Z1++List.replicate m none)=.ok (zs,ρf))
  (fin:∀(D L:Addr)(s':Shared)(vs:List V)(G' H':Hp)(w':Wn),L2.Inv X pS Y H' s'->zqM X pS H' L s'->zbA G1 H2 w1 G' H' w'->Rel X.K C G' w' (ρf.take Z1.length) Y H'->H2 D=none->H' D=some (.lst vs)->G' D=none->w' D=none->za4 X.K G' zs vs->RR (.ref D) L (.ok .next) s') :
  wpAny (model X.prog X.w) X.A (newList []) (λacc s₃=>wpAny (model X.prog X.w) X.A (newFunctionEnv scope X.env.globals cl [] X.env.qual none .none (some X.env)) (λcenv s₄ =>
   codeAny (model X.prog X.w) X.A (.compStart (.ListComp elt [⟨tg,iter,ifs,0⟩] scope pos) 0 (.ref it) acc { cenv with scope:=relabel scope X.env }) (RR acc cenv.locals) s₄) E s₃) E s2 :=
 zrJ hc hb hkind hcell hfr hblk hcl hcf I2 T st2 f2 r1 (λ_=>True) trivial (λ_ _ _ _ _ _ _ _=>⟨trivial,λ_ _ _=>trivial⟩) (λi Z' G' w' Y' H' r _=>it1 i G' H' r.en.g r.gh) hfi ec fin
theorem zcU{tg iter elt:Expr}{ifs:List Expr}{scope:Scope}{pos:Pos}{N':List Str}{m:Nat}{fi:DA}{g:DG}{ft:DT}{fe:De}(hi:JI X C tg iter fi)(hc:X.calm=true)(hb:zgN X.N N' scope.names m=true)
  (hkind:scope.kind=.function) (hcell:Hce scope) (hfr:Hfr X scope) (hnames:Hnm scope)
  (hblk:Hbk X C N' scope tg ifs elt g ft fe)
  (hs:∀ x,foldedSetIterable iter X.env x=pure x:=by intro _;rfl):JN X C (.ListComp elt [⟨tg,iter,ifs,0⟩] scope pos) (zb9 fi g ft fe m):=by
 intro pS s Y H Q I ⟨G,w,Z,r,p⟩;rw[eval_ListComp];obtain ⟨cl,hclos,hcl,hcf⟩:=zgm (scope:=scope) (env:=X.env) λy hy hf=>I.ok.has y.1 (hfr y hy hf);refine wpAny_comprehension_free (use:=none) rfl hs hclos hkind hnames ?_;refine thn (hi pS s Y H (λJ H2=>∃ ds Z1 G1 w1 zs ρf,Rel X.K C G1 w1 Z1 Y H2/\zoC X.K J G1 ds/\zhl ds=true/\zcl g ft fe ds (Z1++List.replicate m none)=.ok (zs,ρf)/\kN X.K C Y Q G1 H2 w1 (zs,ρf.take Z1.length)) I ?_) λv s1 h1=>thn h1 λitv s2 h2=>?_
 ·refine zx6 (κ:=λG H w=>kN X.K C Y Q G H w) zfk r p λds Z1 J G1 H1 w1 r1 st1 it1 p1=>?_;dsimp only at p1;split at p1
  ·rename_i hfi;split at p1
   ·rename_i z ez;exact ⟨ds,Z1,G1,w1,z.1,z.2,r1,it1,hfi,ez,p1⟩
   ·exact p1.elim
  ·exact p1.elim
 obtain ⟨it,fp,tn,J,H2,rfl,I2,T,st2,f2,ds,Z1,G1,w1,zs,ρf,r1,it1,hfi,ec,kk⟩:=h2;refine zlr (RR:=λacc C=>compPost (model X.prog X.w) X.A X.xe none (EP X pS Y Q) acc C) hc hb hkind hcell hfr hblk hcl hcf I2 T st2 f2 r1 it1 hfi ec λD L s' vs G' H' w' I' lo st rel h0 h1 h2 h3 q=>?_;obtain ⟨mm,hn⟩:=lo.ns;refine ⟨mm,hn,λh' hsb=>⟨.ref D,H',?_,rfl,kk D vs G' H' w' st rel h0 h1 h2 h3 q⟩⟩;exact I'.turned (t':=s'.toks) (λb o hb e=>(hsb.2 b hb).trans e) lo.fr lo.nl lo.nw lo.nc lo.np
theorem zrD{tg iter elt:Expr}{ifs:List Expr}{scope:Scope}{pos spos:Pos}{N':List Str}{m i:Nat}{x:Str}{px:Pos}{fi:DA}{g:DG}{ft:DT}{fe:De}{fs:List Dt×Ev->R (Fl×Ev)}(hi:JI X C tg iter fi)(hc:X.calm=true)(hb:zgN X.N N' scope.names m=true)
  (hkind:scope.kind=.function) (hcell:Hce scope) (hfr:Hfr X scope) (hnames:Hnm scope)
  (hblk:Hbk X C N' scope tg ifs elt g ft fe)
  (hN:X.N.Nodup) (hix:X.N[i]? = some x) (hx:Loc X.env.scope x) (hsw:swapsWith (.ListComp elt [⟨tg,iter,ifs,0⟩] scope pos) (some (.Name x px)) spos.line X.env=pure true) (hf:X.fn x=true\/X.env.scope.names.lookup x=some .local)
  (hfs:∀(D:zsS)(G1 H2 G' H':Hp)(w1 w':Wn)(Y:L2.St)(p:Addr)(zs:List Dt)(vs:List V)(ρf:Ev),zcD C.ex (kS X.K C D G1 H2 w1) (fs (zs,ρf))->zbA G1 H2 w1 G' H' w'->Rel X.K C G' w' ρf Y H'->H2 p=none->H' p=some (.lst vs)->G' p=none->w' p=none->za4 X.K G' zs vs->C.H₀ p=none->D.nx (Y.set i (some (.ref p))) H')
  (hs:∀ x,foldedSetIterable iter X.env x=pure x:=by intro _;rfl):JS X C (.Assign [.Name x px] (.ListComp elt [⟨tg,iter,ifs,0⟩] scope pos) spos) (λZ=>(zb9 fi g ft fe m Z).bind fs):=by
 intro pS s Y H D I ⟨G,w,Z,r,p⟩;obtain ⟨cl,hclos,hcl,hcf⟩:=zgm (scope:=scope) (env:=X.env) λy hy hf=>I.ok.has y.1 (hfr y hy hf);rw[exec_Assign_Name_used _ _ _ _ hsw];refine wab (wpAny_standAt (wab ?_));show wpAny _ X.A (do let _ <- comprehension (.ListComp elt [⟨tg,iter,ifs,0⟩] scope pos) scope X.env _ (newList []) false (eval iter X.env) (some (assign (.Name x px) X.env))) _ _ s;refine wab (wpAny_mono (wpAny_comprehension_free (use:=some (assign (.Name x px) X.env)) (Q:=λ_ s'=>SP X pS D .next s') rfl hs hclos hkind hnames ?_) (λ_ s' hq=>wad (wad hq)) λ_ _ e=>e);refine thn (hi pS s Y H (λJ H2=>∃ ds Z1 G1 w1 zs ρf,Rel X.K C G1 w1 Z1 Y H2/\zoC X.K J G1 ds/\zhl ds=true/\zcl g ft fe ds (Z1++List.replicate m none)=.ok (zs,ρf)/\zcD C.ex (kS X.K C D G1 H2 w1) (fs (zs,ρf.take Z1.length))) I ?_) λv s1 h1=>thn h1 λitv s2 h2=>?_
 ·have p':zcD C.ex (kS X.K C D G H w) ((fi Z).bind λa=>((if zhl a.1=true then match zcl g ft fe a.1 (a.2++List.replicate m none) with
   |.ok z=>.ok (z.1,z.2.take a.2.length)
   |_=>.no
   else .no:R (List Dt×Ev))).bind fs):=by
   rw[<- R.bind_assoc];exact p
  refine zx6 (κ:=λG H w=>kS X.K C D G H w) zeJ r p' λds Z1 J G1 H1 w1 r1 st1 it1 p1=>?_;dsimp only at p1;split at p1
  ·rename_i hfi;split at p1
   ·rename_i z ez;exact ⟨ds,Z1,G1,w1,z.1,z.2,r1,it1,hfi,ez,p1⟩
   ·exact waO p1
  ·exact waO p1
 obtain ⟨it,fp,tn,J,H2,rfl,I2,T,st2,f2,ds,Z1,G1,w1,zs,ρf,r1,it1,hfi,ec,kk⟩:=h2;refine zlr (RR:=λacc C=>compPost (model X.prog X.w) X.A X.xe (some (assign (.Name x px) X.env)) (λ_ s'=>SP X pS D .next s') acc C) hc hb hkind hcell hfr hblk hcl hcf I2 T st2 f2 r1 it1 hfi ec λDa L s' vs G' H' w' I' lo st rel h0 h1 h2 h3 q=>?_;show wpAny _ X.A (assign (.Name x px) X.env (.ref Da)) _ _ _;refine wpAny_assign_Name (zhk I' hN hix hx (v:=.ref Da) rfl (λs'' I'' hch=>?_) hf);obtain ⟨mm,hn⟩:=lo.ns;obtain ⟨a,sb,ha⟩:=hch;have hLa:L≠a:=by
  rcases ha with z|z
  ·rw[z];exact lo.nl
  ·exact λy=>lo.nc x a z y.symm
 refine ⟨mm,hn.sameBut sb hLa,λh' hsb=>⟨Y.set i (some (.ref Da)),H',?_,hfs D G1 H2 G' H' w1 w' Y Da zs vs _ kk st rel h0 h1 h2 h3 q (r1.en.k Da h0)⟩⟩;exact I''.turned (t':=s''.toks) (λb o hb e=>(hsb.2 b hb).trans e) lo.fr lo.nl lo.nw lo.nc lo.np
theorem zgz{tg iter elt:Expr}{ifs:List Expr}{scope:Scope}{pos spos:Pos}{N':List Str}{m i:Nat}{x:Str}{px:Pos}{fi:DA}{g:DG}{ft:DT}{fe:De}(hN:X.N.Nodup)(hix:X.N[i]? = some x)(hx:Loc X.env.scope x)(hp:i∉C.pp)(hi:JI X C tg iter fi)(hc:X.calm=true)(hb:zgN X.N N' scope.names m=true)
  (hkind:scope.kind=.function) (hcell:Hce scope) (hfr:Hfr X scope) (hnames:Hnm scope)
  (hblk:Hbk X C N' scope tg ifs elt g ft fe)
  (hsw:swapsWith (.ListComp elt [⟨tg,iter,ifs,0⟩] scope pos) (some (.Name x px)) spos.line X.env=pure true:=by rfl) (hf:X.fn x=true\/X.env.scope.names.lookup x=some .local:=by exact xwA)
  (hs:∀ x,foldedSetIterable iter X.env x=pure x:=by intro _;rfl):JS X C (.Assign [.Name x px] (.ListComp elt [⟨tg,iter,ifs,0⟩] scope pos) spos) (zbi i (dFz (zb9 fi g ft fe m))):=by
 have h:=zrD (fs:=λa=>if i<a.2.length then .ok (.nx,a.2.set i (some (.val (.lst a.1)))) else .no) hi hc hb hkind hcell hfr hnames hblk hN hix hx hsw hf (λD G1 H2 G' H' w1 w' Y p zs vs ρf po st rel h0 h1 h2 h3 q h4=>?_) hs
 ·refine PS.weak h λD Y H t=>?_;obtain ⟨G,w,Z,r,p⟩:=t;refine ⟨G,w,Z,r,?_⟩;unfold zbi dFz at p;rw[R.bind_assoc] at p;exact p
 ·by_cases hl:i < ρf.length
  ·simp only[hl,if_true] at po;obtain ⟨r',s'⟩:=rel.know h1 h2 h3 H2 G1 w1 st h0 (.inl h4);have sg:zd8 G' (upd G' p (.lst vs)):=λb u e=>by rw[zat (zas e h2)];exact e
   exact po _ _ _ _ s' (r'.setVal hl hp (by unfold Rep;exact ⟨p,vs,rfl,zar,q.same sg⟩))
  ·simp only[hl,if_false] at po;exact waO po
end
section
variable{X:Cx}{C:Cn}{a b c e:Expr}{fa fb fc:De}{pos:Pos}
def kO(K:W.Frag)(C:Cn)(Y:L2.St)(Q:Option Int->Hp->Prop)(G H:Hp)(w:Wn)(a:Option Int×Ev):Prop :=
 ∀ G' H' w',zbA G H w G' H' w'->Rel K C G' w' a.2 Y H'->Q a.1 H'
abbrev DO:=Ev->R (Option Int×Ev)
def tOd(K:W.Frag)(C:Cn)(f:DO):TO:=λY H Q=>∃ G w Z,Rel K C G w Z Y H/\zcD C.ex (kO K C Y Q G H w) (f Z)
abbrev JO(X:Cx)(C:Cn)(e:Option Expr)(f:DO):Prop:=PO X e (tOd X.K C f)
theorem PO.weak{e:Option Expr}{t t':TO}(h:PO X e t)(k:∀ Y H Q,t' Y H Q->t Y H Q):PO X e t':=λpS s Y H Q I q=>h pS s Y H Q I (k Y H Q q)
def dO0:DO:=λZ=>.ok (none,Z)
def dO1(fa:De):DO:=λZ=>(fa Z).bind λa=>match a.1 with
 |.int i=>.ok (some i,a.2)
 |_=>.no
theorem zxT{K:W.Frag}{Y:L2.St}{Q:Option Int->Hp->Prop}:Stp (λG H w=>kO K C Y Q G H w):=λ_ _ _ _ _ _ _ s k G' H' w' s'=>k G' H' w' (s.trans s')
theorem zfJ:JO X C none dO0:=PO.weak zv0 λY H Q ⟨G,w,Z,r,p⟩=>p G H w (.refl _ _ _) r
theorem zdR(h:JE X C a fa):JO X C (some a) (dO1 fa):=PO.weak (zuN h) λY H Q ⟨G,w,Z,r,p⟩=>by
 refine ze4 (κ:=λG H w=>kO X.K C Y Q G H w) zxT r p λd Z1 v G1 H1 w1 r1 s1 q1 p1=>?_;cases d with
 |int i=>exact ⟨i,zaz q1,p1 G1 H1 w1 (.refl _ _ _) r1⟩
 |_=>exact p1.elim
theorem zxD{K:W.Frag}{Y:L2.St}{α:Type}{κ:zr8 α}(st:Stp κ){G H:Hp}{w:Wn}{Z:Ev}{fa:DO}{g:Option Int×Ev->R α}{Q:Option Int->Hp->Prop}(r:Rel K C G w Z Y H)(p:zcD C.ex (κ G H w) ((fa Z).bind g))
  (k:∀ o Z1 G1 H1 w1,Rel K C G1 w1 Z1 Y H1->zbA G H w G1 H1 w1->zcD C.ex (κ G1 H1 w1) (g (o,Z1))->Q o H1):tOd K C fa Y H Q:=by
 refine ⟨G,w,Z,r,?_⟩;cases e:fa Z with
 |ok a =>
  rw[e] at p;intro G' H' w' s' r';exact k a.1 a.2 G' H' w' r' s' (zcD.step st s' p)
 |er n=>rw[e] at p;exact p
 |no=>rw[e] at p;exact p
def zih{α:Type}(xs:List α)(lo hi:Option Int):List α:=(xs.drop (HT.sIx xs.length 0 lo)).take (HT.sIx xs.length xs.length hi-HT.sIx xs.length 0 lo)
theorem zn5{K:W.Frag}{G:Hp}{ds:List Dt}{vs:List V}(h:za4 K G ds vs)(lo hi:Option Int):za4 K G (zih ds lo hi) (zoG vs lo hi):=by unfold zih zoG;rw[<- h.length];exact (h.drop _).take _
def zk8(fa:De)(fl fh:DO):DN:=λZ=>(fa Z).bind λa=>(fl a.2).bind λl=>(fh l.2).bind λh=>match a.1 with
 |.lst ds=>.ok (zih ds l.1 h.1,h.2)
 |_=>.no
theorem ze7{K:W.Frag}{Y:L2.St}{G H:Hp}{w:Wn}{Z:Ev}{p:Addr}(r:Rel K C G w Z Y H)(hp:H p=none):w p=none:=by
 cases z:w p with
 |none=>rfl
 |some k=>exact absurd hp (r.wh p (by rw[z];simp))
theorem zl3{lo hi:Option Expr}{fl fh:DO}{p2:Pos}(ha:JE X C a fa)(hl:JO X C lo fl)(hh:JO X C hi fh):JN X C (.Subscript a (.Slice lo hi none p2) pos) (zk8 fa fl fh) :=
 PE.weak (znD zvv ha hl hh) λY H Q ⟨G,w,Z,r,p⟩=>by
  refine ze4 (κ:=λG H w=>kN X.K C Y Q G H w) zfk r p λd Z1 v G1 H1 w1 r1 s1 q1 p1=>?_;refine zxD (κ:=λG H w=>kN X.K C Y Q G H w) zfk r1 p1 λl Z2 G2 H2 w2 r2 s2 p2=>?_;refine zxD (κ:=λG H w=>kN X.K C Y Q G H w) zfk r2 p2 λh Z3 G3 H3 w3 r3 s3 p3=>?_;cases d with
  |lst ds =>
   obtain ⟨ad,vs,rfl,h1,h2⟩:=zaR (q1.same (s2.g.trans s3.g));refine ⟨ad,vs,rfl,SqL.of (r3.gh _ _ h1),λp hp=>?_⟩;have gr:ze6 G3 H3 G3 (upd H3 p (.lst (zoG vs l h))):=.newH r3.gh hp;exact p3 p _ G3 _ w3 gr.step (r3.grow gr) hp zar (r3.gh.free hp) (ze7 r3 hp) (zn5 h2 l h)
  |_=>exact p3.elim
def zgI(fa:De):DN:=λZ=>(fa Z).bind λa=>match a.1 with
 |.lst ds=>.ok (ds.reverse,a.2)
 |_=>.no
theorem zxw{k1:Nat}{p1 p2 p3:Pos}(ha:JE X C a fa):JN X C (.Subscript a (.Slice none none (some (.UnaryOp .USub (.Constant (.int 1) k1 p1) p2)) p3) pos) (zgI fa):=by
 intro pS s Y H Q I ⟨G,w,Z,r,p⟩;refine PyProof.Rows.Subscript_ (thn (ha pS s Y H (λx H1=>∃ ad vs,x=.ref ad/\SqL X.K H1 ad vs/\∀ p,H1 p=none->Q (.ref p) (upd H1 p (.lst vs.reverse))) I ?_) λv s1 ⟨x,H1,I1,r1,ad,vs,ex,hx,q1⟩=>?_)
 ·refine ze4 (κ:=λG H w=>kN X.K C Y Q G H w) zfk r p λd Z1 v G1 H1 w1 r1 s1 q1 p1=>?_;cases d with
  |lst ds =>
   obtain ⟨ad,vs,rfl,h1,h2⟩:=zaR q1;refine ⟨ad,vs,rfl,SqL.of (r1.gh _ _ h1),λp hp=>?_⟩;have gr:ze6 G1 H1 G1 (upd H1 p (.lst vs.reverse)):=.newH r1.gh hp;exact p1 p _ G1 _ w1 gr.step (r1.grow gr) hp zar (r1.gh.free hp) (ze7 r1 hp) h2.reverse
  |_=>exact p1.elim
 subst ex;cases r1;obtain ⟨its,rv,ht,hz⟩:=I1.list hx;have hlen:=rv.length;refine wpAny_Slice (evalPart_none_step (evalPart_none_step (evalPart_some_step (thn (zx0 (a:=.Constant (.int 1) k1 p1) (pos:=p2) ztr ztC pS s1 Y H1 (λx H2=>x=.int (-1)/\H2=H1) I1 ⟨1,rfl,rfl,rfl⟩) λvk s2 ⟨y,H2,I2,r2,ey,eH⟩=>?_))));subst ey;subst eH;obtain ⟨t,rfl⟩:=r2;have I4:L2.Inv X pS Y H2 { s2 with heap:=s2.heap.push { cls:=.type "slice",data:=.fields #[.none,.none,.int (-1) t] } }:=I2.kept (t':=s2.toks) λb ob q=>waa _ q;obtain ⟨its4,rv4,ht4,_⟩:=I4.list hx;have hlen4:=rv4.length;show wpAny (model X.prog X.w) X.A (PyProof.Rows.subscriptTail a (.Slice none none (some (.UnaryOp .USub (.Constant (.int 1) k1 p1) p2)) p3) (.ref ad) (.ref s2.heap.objs.size)) (EP X pS Y Q) X.xe { s2 with heap:=s2.heap.push { cls:=.type "slice",data:=.fields #[.none,.none,.int (-1) t] } };refine PyProof.Rows.tail_any (ops:=[.ref ad,.ref s2.heap.objs.size]) ht4.isList.typeIs slot_list_getitem.lookup ?_ (by with_unfolding_all rfl);refine wpAny_getItem_list_slice ht4.isList (Heap.IsSliceOf.new ..) .none .none (.int _ _) xwd ?_ (by rw[List.size_toArray] <;> lia);rw[W.krv_pick];refine ⟨.ref _,_,I4.laid (t':=s2.toks) (o:=.lst vs.reverse) (λb ob q=>waa _ q) (wal _) ?_,rfl,q1 _ (I4.hok.fresh (wal _))⟩;exact ⟨by rw[List.length_reverse];exact hz,its4.reverse,0,rv4.reverse,waj (o:={ cls:=.type "list",data:=.seq its4.toArray.toList.reverse.toArray }) _ rfl⟩
end
structure Dfn(nw:Bool)(P:Program)(w:World)(K:W.Frag)(mg:Str->Option Value)(base:Heap)(CX:CXT)(xv:Nat->Value)(k:Nat)(x:Str)(ks:List Bool)(F:FD):Prop where
 ex:∃(f:Addr)(fd:FuncData)(ps:List Str),zgt P w K mg base CX k f fd ps (zqR nw K xv ks F)/\mg x=some (.ref f)/\W.keepIn K (.ref f)=true/\zkd K fd ps []/\∀ bs,F bs≠.no->zdo bs=ks
theorem Dfn.mono{nw:Bool}{P:Program}{w:World}{K:W.Frag}{mg:Str->Option Value}{base:Heap}{CX:CXT}{xv:Nat->Value}{k k':Nat}{x:Str}{ks:List Bool}{F:FD}(D:Dfn nw P w K mg base CX xv k x ks F)(h:k<=k'):Dfn nw P w K mg base CX xv k' x ks F:=by obtain ⟨f,fd,ps,h1,h2⟩:=D.ex;exact ⟨f,fd,ps,h1.mono h,h2⟩
section
variable{X:Cx}{C:Cn}{CX:CXT}{k k':Nat}{ks:List Bool}{Fd:FD}{x:Str}{p pos:Pos}{e:Expr}{es:List Expr}{far:DAr}
theorem zaL(D:Dfn false X.prog X.w X.K X.mg X.base CX C.xv k x ks Fd)(hr:zfK k' X.A)(hk:k<=k')(hx:ze1 CX X (EXc C))(ha:JAr X C (e::es) far)(hg:Gl X x:=by rfl)(hdb:(x == ("__debug__" : Str))=false:=by decide)(he:starEach (e::es) X.env=(false,eval e X.env)::starEach es X.env:=by rfl)
  (hpl:(backTo pos (starEach es X.env)).any (·.1)=false:=by rfl):JE X C (.Call (.Name x p) (e::es) [] pos) (zai Fd far):=by
 obtain ⟨f,fd,ps,h1,h2,h3,h4,h5⟩:=D.ex;exact zun h1 (hr.mono hk) hg h2 h3 h4 hx h5 ha hdb he hpl
end
section
variable{X:Cx}{C:Cn}{CX:CXT}{k k':Nat}{ks:List Bool}{Fd:FD}{x:Str}{p pos:Pos}{e:Expr}{es:List Expr}{far:DAr}
theorem zjk(D:Dfn true X.prog X.w X.K X.mg X.base CX C.xv k x ks Fd)(hr:zfK k' X.A)(hk:k<=k')(hx:ze1 CX X (EXc C))(ha:JAr X C (e::es) far)(hg:Gl X x:=by rfl)(hdb:(x == ("__debug__" : Str))=false:=by decide)(he:starEach (e::es) X.env=(false,eval e X.env)::starEach es X.env:=by rfl)
  (hpl:(backTo pos (starEach es X.env)).any (·.1)=false:=by rfl):JN X C (.Call (.Name x p) (e::es) [] pos) (zbn Fd far):=by
 obtain ⟨f,fd,ps,h1,h2,h3,h4,h5⟩:=D.ex;exact zuI h1 (hr.mono hk) hg h2 h3 h4 hx h5 ha hdb he hpl
end
def dNo:DS:=λ_=>.no
theorem zsa{X:Cx}{C:Cn}{st:Stmt}:JS X C st dNo:=λ_ _ _ _ _ _ ⟨_,_,_,_,p⟩=>p.elim
section
variable{X:Cx}{C:Cn}{a b c e:Expr}{fa fb fc:De}{pos:Pos}
def zig(fa fb:De):DN:=λZ=>(fa Z).bind λa=>(fb a.2).bind λb=>match a.1,b.1 with
 |.lst x,.lst y=>if x.length+y.length<=16777216 then .ok (x++y,b.2) else .no
 |_,_=>.no
theorem zg8(ha:JE X C a fa)(hb:JE X C b fb):JN X C (.BinOp a .Add b pos) (zig fa fb):=PE.weak (zuz zvB ha hb) λY H Q ⟨G,w,Z,r,p⟩=>by
 refine ze4 (κ:=λG H w=>kN X.K C Y Q G H w) zfk r p λd Z1 v G1 H1 w1 r1 s1 q1 p1=>?_;refine ze4 (κ:=λG H w=>kN X.K C Y Q G H w) zfk r1 p1 λd2 Z2 v2 G2 H2 w2 r2 s2 q2 p2=>?_;dsimp only at p2;split at p2
 ·rename_i x y;split at p2
  ·rename_i hl;obtain ⟨ad,vs,rfl,h1,h2⟩:=zaR (q1.same s2.g);obtain ⟨bd,us,rfl,h3,h4⟩:=zaR q2;refine ⟨ad,bd,vs,us,rfl,rfl,r2.gh _ _ h1,r2.gh _ _ h3,by rw[<- h2.length,<- h4.length,zdD];exact hl,λp hp=>?_⟩;have gr:ze6 G2 H2 G2 (upd H2 p (.lst (vs++us))):=.newH r2.gh hp;exact p2 p _ G2 _ w2 gr.step (r2.grow gr) hp zar (r2.gh.free hp) (ze7 r2 hp) (h2.append h4)
  ·exact p2.elim
 ·exact p2.elim
def zwF(fa fb:De):DN:=λZ=>(fa Z).bind λa=>(fb a.2).bind λb=>match a.1,b.1 with
 |.lst x,.int k=>if zdB k=true/\x.length * k.toNat<=16777216 then .ok ((List.replicate k.toNat x).flatten,b.2) else .no
 |_,_=>.no
theorem znH{K:W.Frag}{G:Hp}{ds:List Dt}{vs:List V}(h:za4 K G ds vs):∀ k:Nat,za4 K G (List.replicate k ds).flatten (List.replicate k vs).flatten
 |0=>by simpa using za4.nil
 |k+1=>by rw[List.replicate_succ,List.replicate_succ,List.flatten_cons,List.flatten_cons];exact h.append (znH h k)
theorem zwd(ha:JE X C a fa)(hb:JE X C b fb):JN X C (.BinOp a .Mult b pos) (zwF fa fb):=PE.weak (zuz zvM ha hb) λY H Q ⟨G,w,Z,r,p⟩=>by
 refine ze4 (κ:=λG H w=>kN X.K C Y Q G H w) zfk r p λd Z1 v G1 H1 w1 r1 s1 q1 p1=>?_;refine ze4 (κ:=λG H w=>kN X.K C Y Q G H w) zfk r1 p1 λd2 Z2 v2 G2 H2 w2 r2 s2 q2 p2=>?_;dsimp only at p2;split at p2
 ·rename_i x k;split at p2
  ·rename_i hl;obtain ⟨ad,vs,rfl,h1,h2⟩:=zaR (q1.same s2.g);obtain ⟨b1,b2⟩:=zdz hl.1;refine ⟨ad,k,vs,rfl,zaz q2,r2.gh _ _ h1,xwl,xwl,by rw[<- h2.length,zdD];exact hl.2,λp hp=>?_⟩;have gr:ze6 G2 H2 G2 (upd H2 p (.lst (List.replicate k.toNat vs).flatten)):=.newH r2.gh hp;exact p2 p _ G2 _ w2 gr.step (r2.grow gr) hp zar (r2.gh.free hp) (ze7 r2 hp) (znH h2 k.toNat)
  ·exact p2.elim
 ·exact p2.elim
def zxQ(ta:TA):TE:=λY H Q=>ta Y H λvs H1=>∃ j:Int,vs=[.int j]/\∀ p,H1 p=none->Q (.ref p) (upd H1 p (.rng 0 j))
theorem zv7{p:Pos}{ta:TA}(hg:Gl X "range")(hm:X.mg "range"=none)(ha:PA X [e] ta)(hs:starEach [e] X.env=[(false,eval e X.env)]:=by rfl):PE X (.Call (.Name "range" p) [e] [] pos) (zxQ ta):=by intro pS s Y H Q I h;refine PyProof.Rows.Call_ (zdA I hg hm PyProof.Rows.boot_range (PyProof.Rows.callWith_type1 (thn (ha pos pS s Y H _ I h) λus s1 ⟨vs,H1,I1,r1,q1⟩=>?_) hs rfl));obtain ⟨j,e1,q⟩:=q1;subst e1;obtain ⟨u,rfl,t,rfl⟩:=zfv r1;exact call_range_1 ⟨.ref s1.heap.objs.size,_,I1.laid (o:=.rng 0 j) (λb u e=>waa _ e) (wal _) ⟨_,_,_,waj _ rfl⟩,rfl,q _ (I1.hok.fresh (wal _))⟩
theorem ziG{lo:Int}:∀(n:Nat)(acc:List Value),acc.length=n->(∀(j:Nat) v,acc[j]? = some v->∃ t,v=Value.int (lo+j) t)->zaY ((List.range n).map λk=>V.int (lo+(k:Nat))) acc
 |0,[],_,_=>.nil
 |0,_::_,h,_=>by simp at h
 |n+1,[],h,_=>by simp at h
 |n+1,v::r,h,hv=>by
  rw[List.range_succ_eq_map,List.map_cons,List.map_map];obtain ⟨t,ht⟩:=hv 0 v rfl;refine .cons ⟨t,by simpa using ht⟩ ?_;have:=ziG (lo:=lo+1) n r (by simpa using h) λj v' e=>by obtain ⟨t',ht'⟩:=hv (j+1) v' (by simpa using e);refine ⟨t',ht'.trans ?_⟩;congr 1;lia
  have e:(λk=>V.int (lo+1+(k:Nat)))=((λk:Nat=>V.int (lo+(k:Nat))) ∘ Nat.succ):=by funext k;show V.int _=V.int _;congr 1;simp only[Nat.succ_eq_add_one];lia
  rw[e] at this;exact this
theorem zjK(hc:X.calm=true):zdl X (.type "list") (λxs H Q=>∃(p:Addr)(j:Int),xs=[.ref p]/\H p=some (.rng 0 j)/\0<=j/\j<=16777216/\∀ l,H l=none->Q (.ref l) (upd H l (.lst ((List.range j.toNat).map λk=>V.int (0+(k:Nat)))))):=by
 intro pS s Y H xs us Q I r h;obtain ⟨p,j,rfl,hp,j0,j1,q⟩:=h;obtain ⟨u,rfl,ru⟩:=zfv r;cases ru;obtain ⟨t,u,v,e⟩:=(show zeh X.prog X.w H s.heap p (.rng 0 j) from I.hok p _ hp)
 refine call_list_range (n:=j.toNat) (I.ok.hd hc) e (small_one xwl xwl xwl xwl) (by rw[rangeSize_one];split <;> lia) xwl λh' tk acc' c' hk hS hacc=>?_;refine ⟨.ref s.heap.objs.size,_,I.laid (t':=tk) hk (wal _) (o:=.lst ((List.range j.toNat).map λk=>V.int (0+(k:Nat)))) ⟨?_,acc'.toList,c',?_,by simpa using hS⟩,rfl,q _ (I.hok.fresh (wal _))⟩
 ·rw[List.length_map,List.length_range,zdD];lia
 ·refine ziG j.toNat acc'.toList (by rw[Array.length_toList];exact hacc.1) λi v' ev=>?_;obtain ⟨t',ht'⟩:=hacc.2 i v' (by simpa using ev);exact ⟨t',by rw[ht',Int.mul_one]⟩
def zmL(fa:De):DN:=λZ=>(fa Z).bind λa=>match a.1 with
 |.int j=>if 0<=j/\j<=16777216 then .ok (zdK 0 j.toNat,a.2) else .no
 |_=>.no
theorem zjg{K:W.Frag}{G:Hp}{lo:Int}:∀(l:List Nat),za4 K G (l.map λk=>.int (lo+(k:Nat))) (l.map λk=>V.int (lo+(k:Nat)))
 |[]=>za4.nil
 |k::r=>za4.cons (za7 _) (zjg r)
theorem zuK{p1 p2 pos2:Pos}(hc:X.calm=true)(hg:Gl X "list")(hm:X.mg "list"=none)(hg2:Gl X "range")(hm2:X.mg "range"=none)(ha:JE X C e fa)(hs:starEach [e] X.env=[(false,eval e X.env)]:=by rfl)
  (hs2:starEach [.Call (.Name "range" p2) [e] [] pos2] X.env=(false,eval (.Call (.Name "range" p2) [e] [] pos2) X.env)::starEach [] X.env:=by rfl) (hpl:(backTo pos (starEach [] X.env)).any (·.1)=false:=by rfl) :
  JN X C (.Call (.Name "list" p1) [.Call (.Name "range" p2) [e] [] pos2] [] pos) (zmL fa) :=
 PE.weak (zie (zjK hc) hg hm PyProof.Rows.boot_list (zbj (zv7 hg2 hm2 (zao ha za2 (by rw[hs];rfl)) hs) zcY hs2) xwd xwd hs2 hpl) λY H Q ⟨G,w,Z,r,p⟩=>by
  unfold zmL at p;refine ⟨G,w,Z,r,?_⟩;unfold dA dA0;cases e:fa Z with
  |ok x =>
   obtain ⟨d,Z1⟩:=x;rw[e] at p;intro vs G1 H1 w1 s1 r1 q;obtain ⟨v,t,rfl,q1,q2⟩:=q.cons_inv;rw[q2.nil_inv];have p1:=zcD.step (κ:=λG H w=>kN X.K C Y Q G H w) zfk s1 p;cases d with
   |int j =>
    refine ⟨j,by rw[zaz q1],λp hp=>?_⟩;have p1:zcD C.ex (kN X.K C Y Q G1 H1 w1) (if 0<=j/\j<=16777216 then .ok (zdK 0 j.toNat,Z1) else .no):=p1;by_cases hj:0<=j/\j<=16777216
    ·rw[if_pos hj] at p1;refine ⟨p,j,rfl,zar,hj.1,hj.2,λl hl=>?_⟩;have gr:ze6 G1 H1 G1 (upd H1 p (.rng 0 j)):=.newH r1.gh hp;have r2:=r1.grow gr;have gr2:ze6 G1 (upd H1 p (.rng 0 j)) G1 (upd (upd H1 p (.rng 0 j)) l (.lst ((List.range j.toNat).map λk=>V.int (0+(k:Nat))))):=.newH r2.gh hl;have hl1:H1 l=none:=gr.h.free hl;exact p1 l _ G1 _ w1 (gr.step.trans gr2.step) (r2.grow gr2) hl1 zar (r1.gh.free hl1) (ze7 r1 hl1) (zjg _)
    ·rw[if_neg hj] at p1;exact p1.elim
   |_=>exact waO p1
  |er n=>rw[e] at p;exact p
  |no=>rw[e] at p;exact p
end
section
variable{X:Cx}{C:Cn}{a b c e:Expr}{fa fb fc:De}{pos:Pos}
def ztN(a:Int):List Int->List Int
 |[]=>[a]
 |b::r=>if a<=b then a::b::r else b::ztN a r
def zbd:List Int->List Int
 |[]=>[]
 |a::r=>ztN a (zbd r)
theorem zhy(a:Int):∀ l:List Int,(ztN a l).Perm (a::l)
 |[]=>.refl _
 |b::r=>by
  unfold ztN;split
  ·exact .refl _
  ·exact ((zhy a r).cons b).trans (.swap a b r)
theorem zaO:∀ l:List Int,(zbd l).Perm l
 |[]=>.refl _
 |a::r=>(zhy a _).trans ((zaO r).cons a)
theorem zmO(a:Int):∀ l:List Int,l.Pairwise (· <= ·)->(ztN a l).Pairwise (· <= ·)
 |[],_=>by simp[ztN]
 |b::r,h=>by
  unfold ztN;rw[List.pairwise_cons] at h;split
  ·rename_i z;refine List.pairwise_cons.mpr ⟨λx hx=>?_,List.pairwise_cons.mpr h⟩;rcases wap.mp hx with rfl|hx
   ·exact z
   ·exact Int.le_trans z (h.1 x hx)
  ·rename_i z;refine List.pairwise_cons.mpr ⟨λx hx=>?_,zmO a r h.2⟩;rcases wap.mp ((zhy a r).mem_iff.mp hx) with rfl|hx
   ·lia
   ·exact h.1 x hx
theorem zdG:∀ l:List Int,(zbd l).Pairwise (· <= ·)
 |[]=>.nil
 |a::r=>zmO a _ (zdG r)
theorem intsAre_of:∀{ns:List Int}{us:List Value},zaY (ns.map V.int) us->PyProof.Rows.IntsAre us ns
 |[],_,.nil=>.nil
 |n::ns,_,.cons ⟨t,h⟩ r=>by subst h;exact .cons n t (intsAre_of r)
theorem vals_ints:∀{ns:List Int}{us:List Value},PyProof.Rows.IntsAre us ns->zaY (ns.map V.int) us
 |_,_,.nil=>.nil
 |_,_,.cons n t h=>.cons ⟨t,rfl⟩ (vals_ints h)
theorem zoc:zdl X (.builtin "sorted") (λxs H Q=>∃(p:Addr)(ns:List Int),xs=[.ref p]/\SqL X.K H p (ns.map V.int)/\ns.length<64/\∀ l,H l=none->Q (.ref l) (upd H l (.lst ((zbd ns).map V.int)))):=by
 intro pS s Y H xs us Q I r h;obtain ⟨p,ns,rfl,hq,hl,q⟩:=h;obtain ⟨u,rfl,ru⟩:=zfv r;cases ru;obtain ⟨its,rv,pl,hz⟩:=I.list hq;have hlen:its.length=ns.length:=by rw[<- rv.length];simp
 refine PyProof.Rows.sorted_ints pl.isList (intsAre_of rv) xwl λout ns' a1 a2 a3=>?_;have e:ns'=zbd ns:=W.lks_uniq (a2.trans (zaO ns).symm) a3 (zdG ns);subst e;obtain ⟨c,hc⟩:=PyProof.Rows.sortedAll_at s.heap its out;refine ⟨.ref (s.heap.objs.size+1),_,I.laid (t':=s.toks) (λb o=>PyProof.Rows.sortedAll_old) (Nat.le_succ _) (o:=.lst ((zbd ns).map V.int)) ⟨?_,out.toList,c,vals_ints a1,?_⟩,rfl,q _ (I.hok.fresh (Nat.le_succ _))⟩
 ·rw[List.length_map,(zaO ns).length_eq,zdD];lia
 ·simpa using hc
def zbD:List Dt->R (List Dt)
 |[.lst l]=>match zii l with
  |some ns=>if ns.length<64 then .ok ((zbd ns).map .int) else .no
  |none=>.no
 |_=>.no
theorem zht{K:W.Frag}{G:Hp}:∀(ns:List Int),za4 K G (ns.map .int) (ns.map V.int)
 |[]=>za4.nil
 |n::r=>za4.cons (za7 n) (zht r)
theorem zsr{K:W.Frag}:FnN K (λxs H Q=>∃(p:Addr)(ns:List Int),xs=[.ref p]/\SqL K H p (ns.map V.int)/\ns.length<64/\∀ l,H l=none->Q (.ref l) (upd H l (.lst ((zbd ns).map V.int)))) zbD:=λG H vs ds z Q gh hr e k=>by
 unfold zbD at e;split at e
 ·split at e
  ·rename_i ns en;split at e
   ·rename_i hl;obtain ⟨v,rfl,h1⟩:=zfM hr;obtain ⟨a,us,rfl,h2,h3⟩:=zaR h1;cases e;rw[zkh h3 en] at h2;exact ⟨a,ns,rfl,SqL.of (gh _ _ h2),hl,λl hl=>k l _ hl (zht _)⟩
   ·cases e
  ·cases e
 ·cases e
theorem zsy:zlY zbD:=λx n h=>by
 unfold zbD at h;split at h
 ·split at h
  ·split at h <;> cases h
  ·cases h
 ·cases h
theorem zhh{x:Expr}{p:Pos}(hg:Gl X "sorted")(hm:X.mg "sorted"=none)(ha:JE X C x fa)(hs:starEach [x] X.env=(false,eval x X.env)::starEach [] X.env:=by rfl)(hpl:(backTo pos (starEach [] X.env)).any (·.1)=false:=by rfl) :
  JN X C (.Call (.Name "sorted" p) [x] [] pos) (ze3 zbD (dA fa dA0)) :=
 zjv zsr zsy zoc hg hm PyProof.Rows.boot_sorted (zao ha za2 hs) xwd xwd hs hpl
def zrb(x:Dt):List Dt->Option Nat
 |[]=>none
 |d::r=>if eqD d x=true then some 0 else (zrb x r).map (·+1)
theorem zkR{x:Dt}:∀{l:List Dt}{j:Nat},zrb x l=some j->∃ h:j<l.length,eqD l[j] x=true/\∀ m (hm:m<l.length),m<j->eqD l[m] x=false
 |[],_,h=>by simp[zrb] at h
 |d::r,j,h=>by
  unfold zrb at h;split at h
  ·rename_i e;cases h;exact ⟨xws,e,λm _ h=>absurd h (Nat.not_lt_zero _)⟩
  ·rename_i e;cases q:zrb x r with
   |none=>rw[q] at h;cases h
   |some i =>
    rw[q] at h;cases h;obtain ⟨h1,h2,h3⟩:=zkR q;refine ⟨by simpa using h1,by simpa using h2,λm hm hlt=>?_⟩;cases m with
    |zero=>simpa using e
    |succ m=>simpa using h3 m (by simpa using hm) (Nat.lt_of_succ_lt_succ hlt)
theorem zjj{pS:List (Addr×Obj)}{Y:L2.St}{H:Hp}{s:Shared}(I:L2.Inv X pS Y H s){dx:Dt}:∀{ds:List Dt}{vs:List V}{us:List Value}{i:Nat}(h1:i<ds.length)(h2:i<us.length),ds.all (okN 60)=true->za4 X.K H ds vs->zaY vs us->zkp X.K H dx us[i]=eqD ds[i] dx
 |[],_,_,_,h1,_,_,_,_=>by simp at h1
 |d::ds,vs,us,i,h1,h2,hk,h,r=>by
  obtain ⟨v,t,rfl,k1,k2⟩:=h.cons_inv;cases r with
  |cons r1 r2 =>
   simp only[List.all_cons,wae] at hk;cases i with
   |zero=>exact zmc I hk.1 k1 r1
   |succ i=>exact zjj I (i:=i) (by simpa using h1) (by simpa using h2) hk.2 k2 r2
def rIdx(K:W.Frag):V->List V->Hp->VK->Prop:=λx vs H Q=>∃ a zs dx ds j y,x=.ref a/\vs=[y]/\H a=some (.lst zs)/\za4 K H ds zs/\Rep K H dx y/\okN 60 dx=true/\ds.all (okN 60)=true/\zrb dx ds=some j/\Q (.int j) H
theorem zrP(hu:X.A.units+65<cLine):MtR X "list.index" (rIdx X.K):=by
 intro pS s Y H x vs v us Q I rx rv h;obtain ⟨a,zs,dx,ds,j,y,rfl,rfl,hH,h1,h2,h3,h4,h5,q⟩:=h;cases rx;obtain ⟨u,rfl,ru⟩:=zaY.one rv;have hu1:X.A.in1.units+64<cLine:=by rw[zhH];lia
 obtain ⟨z,its,n,r,hl,e⟩:=I.lstM hH;obtain ⟨k1,k2,k3⟩:=zkR h5;have hlen:ds.length=its.length:=by rw[h1.length,r.length]
 have hj:(j:Int)<2 ^ 63-1:=by
  have:zs.length<=16777216:=by rw[<- zdD];exact z
  lia
 refine PySem.call_meets F.slot_list_index ⟨_,e,rfl⟩ F.entry_list_index (F.args_list_index_2 _ _)
  (SeqAt.list_indexAt a its.toArray n none #[] u (zkp X.K H dx) j (by rw[List.size_toArray];lia) hj ?_ ?_) ⟨e,λw hw=>zdO I hu1 h3 h2 ru h4 h1 r w (by simpa using hw),?_⟩
 ·have:=zjj I (dx:=dx) (i:=j) k1 xwl h4 h1 r;simpa [this] using k2
 ·intro m hm hlt;have hm':m<its.length:=by simpa using hm
  have:=zjj I (dx:=dx) (i:=m) xwl hm' h4 h1 r;have e3:=k3 m xwl hlt;simpa [this] using e3
 ·exact ⟨.int j,H,I.kept (t':=s.toks+1) (λ_ _ q=>q),⟨_,rfl⟩,q⟩
def zxB(fa fb:De):De:=λZ=>(fa Z).bind λa=>match a.1 with
 |.lst ds=>(fb a.2).bind λb=>if (okN 60 b.1 && ds.all (okN 60))=true then match zrb b.1 ds with
   |some j=>.ok (.int j,b.2)
   |none=>.no
  else .no
 |_=>.no
theorem zwT{apos:Pos}(hu:X.A.units+65<cLine)(ha:JE X C a fa)(hb:JE X C b fb)(hbase:attributeBase a "index" X.env (eval a X.env)=eval a X.env:=by rfl)
  (hfew:((backTo pos (starEach [b] X.env)).all (λx=>!x.1) && (backToKw pos (keywordEach [] X.env)).all (λx=>x.1.isSome) && decide ([b].length+([]:List Keyword).length+(if ([]:List Keyword).isEmpty then 0 else 1)<30))=true:=by rfl)
  (hline:(apos.endLine == pos.line)=true:=by rfl) (hs:starEach [b] X.env=(false,eval b X.env)::starEach [] X.env:=by rfl) (hplain:(backTo pos (starEach [] X.env)).any (·.1)=false:=by rfl) :
  JE X C (.Call (.Attribute a "index" apos) [b] [] pos) (zxB fa fb) :=
 PE.weak (zqX PySem.F.plainAttrs_list PySem.F.slot_list_index PySem.F.type_list_index (zrP hu) ha (zbj hb zcY hs) hbase hfew hline hs hplain) λY H Q ⟨G,w,Z,r,p⟩=>by
  refine ze4 (κ:=λG H w=>kE X.K C Y Q G H w) zcr r p λd Z1 v G1 H1 w1 r1 s1 q1 p1=>?_;cases d with
  |lst ds =>
   obtain ⟨ad,vs,rfl,h1,h2⟩:=zaR q1;refine ⟨.inl ⟨rfl,vs,SqL.of (r1.gh _ _ h1)⟩,?_⟩;refine ze4 (κ:=λG H w=>kE X.K C Y Q G H w) zcr r1 p1 λd2 Z2 v2 G2 H2 w2 r2 s2 q2 p2=>?_;dsimp only at p2;split at p2
   ·rename_i hk;rw[Bool.and_eq_true] at hk;split at p2
    ·rename_i j ej;exact ⟨ad,vs,d2,ds,j,v2,rfl,rfl,r2.gh _ _ (s2.g _ _ h1),(h2.same s2.g).same r2.gh,q2.same r2.gh,hk.1,hk.2,ej,p2 _ G2 H2 w2 (.refl _ _ _) r2 (za7 _)⟩
    ·exact waO p2
   ·exact waO p2
  |_=>exact waO p1
end
theorem zox:typeLookup (.type "list_reverseiterator") "__len__"=pure none:=by rw[typeLookup_type,builtinLookup_eq_fast];kernel_rfl
theorem zrR:typeLookup (.type "list_reverseiterator") "__length_hint__"=pure (some (.builtin "list_reverseiterator.__length_hint__")):=by rw[typeLookup_type,builtinLookup_eq_fast];kernel_rfl
section
variable{prog:Program}{w:World}{A:Around}{E:Value->Shared->Prop}{s:Shared}
theorem zvf{R:Result->Shared->Prop}{it l:Addr}{items:Array Value}(hh:A.handled=none)(hit:s.heap.IsRevIter it l ((items.size:Int)-1))(hl:s.heap.IsList l items)(hne:l≠it)(S:Addr)(res:Value)(c₀:Nat)(hS:s.heap.get? S=some { cls:=.type "list",data:=.seq #[] c₀ })(hSl:S≠l)
  (hn:items.size<=sizeLine)
  (hR:∀ h' tk acc' c',(∀ b o,b≠S->b≠it->s.heap.get? b=some o->h'.get? b=some o)->h'.get? S=some { cls:=.type "list",dict:=none,data:=.seq acc' c',slots:=#[] } ->
   ItemsOf (λi v=>items[items.size-1-i]? = some v) acc' items.size->R (.ok (.ret res)) { s with heap:=h',toks:=tk }) :
  wpAny (model prog w) A.in1 (Builtin.List.listExtendWith (.ref S) (.ref it) res)
   (λfin s'=>match fin with|.done f=>R (.ok f) s'|.again c'=>c'.quiet=true/\codeAny (model prog w) A c' R s') (λe s'=>R (.error e) s') s:=by
 have hSI:S≠it:=λe=>by obtain ⟨o,ho,hc,_⟩:=hit;rw[e,ho] at hS;cases hS;simp at hc
 have hSf:S∉[it,l]:=λhm=>by
  rcases wap.mp hm with z|z
  ·exact hSI z
  ·exact hSl (List.mem_singleton.mp z)
 unfold Builtin.List.listExtendWith;refine wab (wpAny_typeOf (T:="list_reverseiterator") hit.typeIs ?_);have h1:Builtin.List.listSameRef (.ref S) (.ref it)=false:=by simp[Builtin.List.listSameRef,hSI]
 have h2:(Value.type "list_reverseiterator" == Value.type "list")=false:=by decide +kernel
 have h3:(Value.type "list_reverseiterator" == Value.type "tuple")=false:=by decide +kernel
 simp only[h1,h2,h3,Bool.or_false,Bool.false_eq_true,if_false];refine wab (wpAny_pyIter_revIter hit ?_);refine wab (wpAny_holding ?_);unfold Builtin.List.listLengthHint;refine wab (wpAny_specialOf hit.typeIs zox ?_);show wpAny _ A.in1 (specialOf (Value.ref it) (Str.ofString "__length_hint__") >>= _) _ _ _;refine wab (wpAny_specialOf hit.typeIs zrR ?_)
 wp_delta
 refine wab (wpAny_isInstance (T:="list_reverseiterator") (b:=true) hit.typeIs (by rw[isSubtype_type];kernel_rfl) ?_);refine wpAny_ite_split (λh=>absurd h xwd) (λ_=>?_);refine wpAny_ite_split (λ_=>?_) (λh=>absurd xwD h);refine wpAny_ite_split (λh=>absurd h xwD) (λ_=>wad ?_);rw[if_neg xwD];have W:=(Walks.listRev (prog:=prog) (w:=w) (A:=A.in1) hh it l hne items).toS;have hst:0<=items.size/\s.heap.IsRevIter it l ((items.size:Int)-1-((0:Nat):Int))/\s.heap.IsList l items:=⟨Nat.zero_le _,by simpa using hit,hl⟩
 refine wad ⟨plainId_quiet F.plain_extend_loop _,codeAny_extend_loopS W hn _ hSf _ items.size 0 _ _ _ rfl (Nat.zero_le _) hst hS (ItemsOf.nil _) λs' acc' c' hm hS' hacc=>?_⟩;rw[Moved.eq_with hm];refine hR s'.heap s'.toks acc' c' (λb ob hb hb2 e=>hm.heap b ob (λhmem=>?_) e) hS' hacc;rcases wap.mp hmem with e'|hmem
 ·exact hb e'
 ·exact hb2 (List.mem_singleton.mp hmem)
theorem zrS{R:Result->Shared->Prop}{it l:Addr}{items:Array Value}(hh:A.handled=none)(hit:s.heap.IsRevIter it l ((items.size:Int)-1))(hl:s.heap.IsList l items)(hne:l≠it)(S:Addr)(hS:s.heap.get? S=some { cls:=.type "list",data:=.seq #[] })(hSl:S≠l)(hSI:S≠it)
  (hn:items.size<=sizeLine)
  (hR:∀ h' tk acc' c',(∀ b o,b≠S->b≠it->s.heap.get? b=some o->h'.get? b=some o)->h'.get? S=some { cls:=.type "list",dict:=none,data:=.seq acc' c',slots:=#[] } ->
   ItemsOf (λi v=>items[items.size-1-i]? = some v) acc' items.size->R (.ok (.ret .none)) { s with heap:=h',toks:=tk }) :
  wpAny (model prog w) A.in1 (Builtin.«list.__init__» ⟨[.ref S,.ref it],[]⟩)
   (λfin s'=>match fin with|.done f=>R (.ok f) s'|.again c'=>c'.quiet=true/\codeAny (model prog w) A c' R s') (λe s'=>R (.error e) s') s:=by
 show wpAny _ _ (do let old <- Builtin.List.listItems (.ref S);Builtin.List.listUpdate (.ref S) (λ_=>#[]);letGo old.toList.reverse;Builtin.List.listExtendWith (.ref S) (.ref it) .none) _ _ s;refine wab ?_;unfold Builtin.List.listItems;refine wab (wpAny_seqItems hS rfl (wad ?_));show wpAny _ _ (updateSeq S (λ_=>#[]) >>= λ_=>letGo (#[]:Array Value).toList.reverse >>= λ_=>Builtin.List.listExtendWith (.ref S) (.ref it) .none) _ _ s;refine wab (wpAny_updateSeq hS rfl ?_);have k2:=Heap.get?_update_self (Obj.mapSeq (λ_=>(#[]:Array Value))) hS rfl;have oth:∀ b o,b≠S->s.heap.get? b=some o->(s.heap.update S (Obj.mapSeq (λ_=>(#[]:Array Value)))).get? b=some o :=
  λb o hb e=>(Heap.get?_update_other _ _ (Ne.symm hb)).trans e
 refine wab (wpAny_letGo ?_);exact zvf hh (hit.at λo e=>oth it o (Ne.symm hSI) e) (hl.at λo e=>oth l o (Ne.symm hSl) e) hne S .none _ k2 hSl hn λh' tk acc' c' hk hS' hacc=>hR h' tk acc' c' (λb o hb hb2 e=>hk b o hb hb2 (oth b o hb e)) hS' hacc
theorem zrO{Q:Value->Shared->Prop}{it l:Addr}{items:Array Value}(hh:A.handled=none)(hit:s.heap.IsRevIter it l ((items.size:Int)-1))(hl:s.heap.IsList l items)(hne:l≠it)(hn:items.size<=sizeLine)
  (hQ:∀ h' tk acc' c',(∀ b o,b≠it->s.heap.get? b=some o->h'.get? b=some o) ->
   h'.get? s.heap.objs.size=some { cls:=.type "list",dict:=none,data:=.seq acc' c',slots:=#[] }->ItemsOf (λi v=>items[items.size-1-i]? = some v) acc' items.size->Q (.ref s.heap.objs.size) { s with heap:=h',toks:=tk }) :
  wpAny (model prog w) A (call (.type "list") [.ref it]) Q E s:=by
 refine callType_codes (Q₁:=λobj s₁=>obj=.ref s.heap.objs.size/\s₁={ s with heap:=s.heap.push { cls:=.type "list",data:=.seq #[] } }) F.called_list (F.typeCall_list_1 _) F.entry_list_init
  (code_list_new _ ⟨rfl,rfl⟩) λobj s₁ h₁=>?_
 obtain ⟨rfl,rfl⟩:=h₁;have kS:(s.heap.push { cls:=.type "list",data:=.seq #[] }).get? s.heap.objs.size=some { cls:=.type "list",data:=.seq #[] }:=waj _ rfl;have lt1:l≠s.heap.objs.size:=by obtain ⟨o,e,_⟩:=hl;exact waM (wai e)
 have lt2:it≠s.heap.objs.size:=by obtain ⟨o,e,_⟩:=hit;exact waM (wai e)
 refine ⟨⟨_,kS,rfl⟩,F.args_list_init_2 _ _,zrS (A:=A.in1) hh (hit.at λo e=>waa _ e) (hl.at λo e=>waa _ e) hne _ kS (Ne.symm lt1) (Ne.symm lt2) hn λh' tk acc' c' hk hS' hacc=>?_⟩;exact ⟨rfl,hQ h' tk acc' c' (λb o hb e=>hk b o (waM (wai e)) hb (waa _ e)) hS' hacc⟩
end
section
variable{X:Cx}{C:Cn}{a:Expr}{fa:De}{pos:Pos}
theorem zmP:bootBuiltins "reversed"=some (.type "reversed"):=by decide +kernel
theorem znr{vs:List V}{its:List Value}{acc:Array Value}(r:zaY vs its)(h:ItemsOf (λi v=>its.toArray[its.toArray.size-1-i]? = some v) acc its.toArray.size):zaY vs.reverse acc.toList:=by
 have e:acc.toList=its.reverse:=by
  apply List.ext_getElem?;intro i;have hs:acc.size=its.length:=by simpa using h.1
  by_cases hi:i<its.length
  ·have:=h.2 i acc[i] (by simp[hs,hi]);rw[List.getElem?_reverse hi];have e2:acc.toList[i]? = some acc[i]:=by simp[hs,hi]
   rw[e2];simpa using this.symm
  ·rw[List.getElem?_eq_none (by simpa [hs] using hi),List.getElem?_eq_none (by simpa using hi)]
 rw[e];exact r.reverse
theorem zoW{p1 p2 pos2:Pos}(hc:X.calm=true)(hg:Gl X "list")(hm:X.mg "list"=none)(hg2:Gl X "reversed")(hm2:X.mg "reversed"=none)(ha:JE X C a fa)(hs:starEach [a] X.env=[(false,eval a X.env)]:=by rfl)
  (hs2:starEach [.Call (.Name "reversed" p2) [a] [] pos2] X.env=[(false,eval (.Call (.Name "reversed" p2) [a] [] pos2) X.env)]:=by rfl) :
  JN X C (.Call (.Name "list" p1) [.Call (.Name "reversed" p2) [a] [] pos2] [] pos) (zgI fa):=by
 intro pS s Y H Q I ⟨G,w,Z,r,p⟩;refine PyProof.Rows.Call_ (zdA I hg hm PyProof.Rows.boot_list (PyProof.Rows.callWith_type1 ?_ hs2 rfl));rw[hs2];show wpAny _ _ (spliced ((false,eval (.Call (.Name "reversed" p2) [a] [] pos2) X.env)::backTo pos (starEach [] X.env))) _ _ s;refine Calls.spliced_cons (PyProof.Rows.Call_ (zdA I hg2 hm2 zmP (PyProof.Rows.callWith_type1 (thn (zao ha za2 hs pos2 pS s Y H (λvs H1=>∃(ad:Addr)(zs:List V),vs=[.ref ad]/\SqL X.K H1 ad zs/\∀ p,H1 p=none->Q (.ref p) (upd H1 p (.lst zs.reverse))) I ?_) λus s1 ⟨vs,H1,I1,r1,q1⟩=>?_) hs rfl)))
 ·refine ⟨G,w,Z,r,?_⟩;unfold zgI at p;unfold dA dA0;cases e:fa Z with
  |ok x =>
   obtain ⟨d,Z1⟩:=x;rw[e] at p;intro vs G1 H1 w1 s1 r1 q;obtain ⟨v,t,rfl,q1,q2⟩:=q.cons_inv;rw[q2.nil_inv];have p1:=zcD.step (κ:=λG H w=>kN X.K C Y Q G H w) zfk s1 p;cases d with
   |lst ds =>
    obtain ⟨ad,zs,rfl,h1,h2⟩:=zaR q1;refine ⟨ad,zs,rfl,SqL.of (r1.gh _ _ h1),λp hp=>?_⟩;have gr:ze6 G1 H1 G1 (upd H1 p (.lst zs.reverse)):=.newH r1.gh hp;exact p1 p _ G1 _ w1 gr.step (r1.grow gr) hp zar (r1.gh.free hp) (ze7 r1 hp) h2.reverse
   |_=>exact waO p1
  |er n=>rw[e] at p;exact p
  |no=>rw[e] at p;exact p
 ·obtain ⟨ad,zs,rfl,hq,q⟩:=q1;obtain ⟨u,rfl,ru⟩:=zfv r1;cases ru;obtain ⟨its,rv,pl,hz⟩:=I1.list hq;have hlen:=rv.length;refine call_reversed_list pl.isList ?_;refine Calls.spliced_nil ?_;have ne:ad≠s1.heap.objs.size:=by obtain ⟨o,n,e,_⟩:=id pl;exact waM (wai e)
  have I2:L2.Inv X pS Y H1 { s1 with heap:=s1.heap.push (revObj ad ((its.toArray.size:Int)-1)) }:=I1.kept (t':=s1.toks) λb ob q=>waa _ q;have hit:Heap.IsRevIter (s1.heap.push (revObj ad ((its.toArray.size:Int)-1))) s1.heap.objs.size ad ((its.toArray.size:Int)-1):=⟨_,waj _ rfl,rfl,rfl⟩
  have hl2:Heap.IsList (s1.heap.push (revObj ad ((its.toArray.size:Int)-1))) ad its.toArray:=pl.isList.at λo e=>waa _ e;refine zrO (s:={ s1 with heap:=s1.heap.push (revObj ad ((its.toArray.size:Int)-1)) }) (I.ok.hd hc) hit hl2 ne (by rw[List.size_toArray];lia) λh' tk acc c' hk hS hacc=>?_;have hsz:(s1.heap.push (revObj ad ((its.toArray.size:Int)-1))).objs.size=s1.heap.objs.size+1:=Heap.size_push ..;have hS':h'.get? (s1.heap.objs.size+1)=some { cls:=.type "list",dict:=none,data:=.seq acc c',slots:=#[] }:=by rw[<- hsz];exact hS
  show EP X pS Y Q (.ref (s1.heap.push (revObj ad ((its.toArray.size:Int)-1))).objs.size) _;rw[hsz];refine ⟨.ref (s1.heap.objs.size+1),_,I1.laid (h':=h') (t':=tk) (o:=.lst zs.reverse) (λb o e=>hk b o (waM (wai e)) (waa _ e)) (Nat.le_succ _) ⟨?_,acc.toList,c',znr rv hacc,by simpa using hS'⟩,rfl,q _ (I1.hok.fresh (Nat.le_succ _))⟩;rw[List.length_reverse];exact hz
end
section
variable{prog:Program}{w:World}{A:Around}{E:Value->Shared->Prop}{s:Shared}
theorem bnd:type_of% @wpAny_bind:=@wpAny_bind
theorem znl{it t:Addr}{i:Nat}{its:Array Value}{x:Value}{Q:Value->Shared->Prop}(k1:s.heap.IsTupleIter it t i)(k2:s.heap.IsTuple t its)(kx:its[i]? = some x)
  (kQ:∀ h',h'.IsTupleIter it t (i+1)->Heap.SameBut it s.heap h'->Q x { s with heap:=h' }):wpAny (model prog w) A (Builtin.SmallTypes.nextOf (.ref it)) Q E s:=by
 obtain ⟨o,e1,e2,e3⟩:=id k1;obtain ⟨o',e4,_,n',e5⟩:=k2;unfold Builtin.SmallTypes.nextOf;refine bnd (wpAny_callSpecial?_slot (name:=Str.ofString "__next__") k1.typeIs F.slot_tuple_iterator_next (wpAny_call_entry F.slot_tuple_iterator_next k1.typeIs F.entry_tuple_iterator_next ?_ (F.args_tuple_iterator_next_1 _)));show wpAny _ _ (field (.ref it) 0 >>= _) _ _ _;refine bnd (wpAny_field e1 e3 (x:=.ref t) rfl ?_);show wpAny _ _ (if (Value.ref t == Value.none)=true then _ else _) _ _ _;have nn:¬ ((Value.ref t == Value.none)=true):=Bool.false_ne_true;rw[if_neg nn];show wpAny _ _ (field (.ref it) 1 >>= _) _ _ _;refine bnd (wpAny_field e1 e3 (x:=.int i 0) rfl ?_);show wpAny _ _ (seqItems? (.ref t) >>= _) _ _ _;refine bnd (wpAny_seqItems e4 e5 ?_);simp only[Int.toNat_natCast,kx];refine bnd (wpAny_setField e1 e3 xws (wad ⟨x,rfl,wad (kQ _ ⟨_,Heap.get?_update_self _ e1 (Obj.isFreed_of_fields (Obj.data_mapFields e3 _)),(Obj.cls_mapFields ..).trans e2,?_⟩ (Heap.SameBut.update ..))⟩));rw[Obj.data_mapFields e3];simp[rawInt]
theorem zvi{it t:Addr}{i:Nat}{its:Array Value}{Q:Value->Shared->Prop}(hh:A.handled=none)(k1:s.heap.IsTupleIter it t i)(k2:s.heap.IsTuple t its)(kx:its[i]? = none)
  (kE:∀ h' e,Heap.ExtBut it s.heap h'->(∃ o,h'.get? e=some o/\o.cls=.type "StopIteration")->E (.ref e) { s with heap:=h' }):wpAny (model prog w) A (Builtin.SmallTypes.nextOf (.ref it)) Q E s:=by
 obtain ⟨o,e1,e2,e3⟩:=id k1;obtain ⟨o',e4,_,n',e5⟩:=k2;unfold Builtin.SmallTypes.nextOf;refine bnd (wpAny_callSpecial?_slot (name:=Str.ofString "__next__") k1.typeIs F.slot_tuple_iterator_next (wpAny_call_entry F.slot_tuple_iterator_next k1.typeIs F.entry_tuple_iterator_next ?_ (F.args_tuple_iterator_next_1 _)));show wpAny _ _ (field (.ref it) 0 >>= _) _ _ _;refine bnd (wpAny_field e1 e3 (x:=.ref t) rfl ?_);show wpAny _ _ (if (Value.ref t == Value.none)=true then _ else _) _ _ _;have nn:¬ ((Value.ref t == Value.none)=true):=Bool.false_ne_true;rw[if_neg nn];show wpAny _ _ (field (.ref it) 1 >>= _) _ _ _;refine bnd (wpAny_field e1 e3 (x:=.int i 0) rfl ?_);show wpAny _ _ (seqItems? (.ref t) >>= _) _ _ _;refine bnd (wpAny_seqItems e4 e5 ?_);simp only[Int.toNat_natCast,kx];refine bnd (wpAny_rule (wab (wpAny_setField e1 e3 xws ?_)));show wpAny _ _ (newExc (.type "StopIteration") [] >>= _) _ _ _;refine bnd ?_;simp only[newExc,newTuple];refine bnd (wpAny_newObj_type ?_ (by size_fits));refine (wab (m:=firstArgMember _ _)) (wpAny_of_eq (a:=Value.none) (by first|rfl|(simp only[firstArgMember];rfl)) ?_);refine wpAny_newObj_type ?_ (by size_fits);simp only[raiseNew];refine bnd (wpAny_handled ?_)
 first|rw[show A.in1.handled=none from hh]|rw[hh]
 refine bnd (wad (wpAny_throw ?_));exact kE _ _ (((Heap.SameBut.update ..).extBut.push _).push _) ⟨_,waj _ rfl,rfl⟩
structure Zp(h:Heap)(z TI TO i1 i2 l1 l2:Addr)(f0:Value)(k:Nat):Prop where
 z:IsZip h z TI TO f0
 ti:IsPair h TI (.ref i1) (.ref i2)
 to:∃ a b,IsPair h TO a b
 a1:h.IsTupleIter i1 l1 k
 a2:h.IsTupleIter i2 l2 k
structure ZpD(z TI TO i1 i2:Addr):Prop where
 d1:TI≠z
 d2:TO≠z
 d3:i1≠z
 d4:i2≠z
 d5:TI≠TO
 d6:TI≠i1
 d7:TI≠i2
 d8:TO≠i1
 d9:TO≠i2
 d0:i1≠i2
theorem Zp.keep{h h':Heap}{z TI TO i1 i2 l1 l2:Addr}{f0:Value}{k:Nat}(p:Zp h z TI TO i1 i2 l1 l2 f0 k)(e:∀ b∈[z,TI,TO,i1,i2],∀ o,h.get? b=some o->h'.get? b=some o):Zp h' z TI TO i1 i2 l1 l2 f0 k :=
 ⟨e z xws _ p.z,e TI xws _ p.ti,let ⟨a,b,q⟩:=p.to;⟨a,b,e TO xws _ q⟩,p.a1.at λo q=>e i1 xws o q,p.a2.at λo q=>e i2 xws o q⟩
variable{z TI TO i1 i2 l1 l2:Addr}{k:Nat}{xs ys:Array Value}
theorem zlK{x y:Value}{Q:Value->Shared->Prop}(D:ZpD z TI TO i1 i2)(p:Zp s.heap z TI TO i1 i2 l1 l2 .none k)(q1:s.heap.IsTuple l1 xs)(q2:s.heap.IsTuple l2 ys)(n1:∀ b∈[z,TI,TO,i1,i2],b≠l1)(n2:∀ b∈[z,TI,TO,i1,i2],b≠l2)
  (hx:xs[k]? = some x) (hy:ys[k]? = some y)
  (hQ:∀ h',Zp h' z TI TO i1 i2 l1 l2 (rawInt s.heap.objs.size) (k+1)->h'.get? s.heap.objs.size=some { cls:=.type "tuple",data:=.seq #[x,y] }->(∀ c o,c≠z->c≠TO->c≠i1->c≠i2->s.heap.get? c=some o->h'.get? c=some o)->Q (.ref s.heap.objs.size) { s with heap:=h' }) :
  wpAny (model prog w) A (Builtin.«zip.__next__» ⟨[.ref z],[]⟩) (λfin s'=>∃ v,fin=.done (.ret v)/\Q v s') E s:=by
 obtain ⟨pz,pti,⟨oa,ob,pto⟩,pa1,pa2⟩:=p;show wpAny _ _ (field (.ref z) 2 >>= _) _ _ _;refine bnd (wpAny_field pz rfl (x:=.bool false) rfl ?_);show wpAny _ _ (field (.ref z) 3 >>= _) _ _ _;refine bnd (wpAny_field pz rfl (x:=.ref TI) rfl ?_);refine bnd (wpAny_seqItems pti rfl ?_);show wpAny _ _ (Builtin.SmallTypes.ownedTupleIsFree (.ref z) >>= _) _ _ _;refine bnd ?_;unfold Builtin.SmallTypes.ownedTupleIsFree;refine bnd (wpAny_field pz rfl (x:=.none) rfl (wad ?_));simp only[if_true];refine bnd (wpAny_rule ?_);refine bnd (wpAny_field pz rfl (x:=.ref TO) rfl ?_);refine bnd (wpAny_setField_rec pz xws λg1 pz1 sb1=>?_);have pz1:IsZip g1 z TI TO .ellipsis:=pz1;refine bnd ?_;simp only[List.zipIdx_cons,List.zipIdx_nil,List.forIn_cons,List.forIn_nil];refine bnd (wab (wpAny_onRaise ?_));show wpAny _ _ (Builtin.SmallTypes.nextOf (.ref i1) >>= _) _ _ _;refine bnd (znl (pa1.extBut sb1.extBut D.d3) (q1.extBut sb1.extBut (Ne.symm (n1 z xws))) hx λg2 pa1' sb2=>wad ?_);have t2:IsPair g2 TO oa ob:=sb2.extBut _ _ D.d8 (sb1.extBut _ _ D.d2 pto);refine bnd (wpAny_seqItems t2 rfl ?_);refine bnd (wpAny_updateSeq_pair t2 λg3 t3 sb3=>?_);have t3:IsPair g3 TO x ob:=t3;refine bnd (wpAny_letGo (wad ?_));refine bnd (wab (wpAny_onRaise ?_));show wpAny _ _ (Builtin.SmallTypes.nextOf (.ref i2) >>= _) _ _ _;refine bnd (znl (((pa2.extBut sb1.extBut D.d4).extBut sb2.extBut D.d0.symm).extBut sb3.extBut D.d9.symm)
  (((q2.extBut sb1.extBut (Ne.symm (n2 z xws))).extBut sb2.extBut (Ne.symm (n2 i1 xws))).extBut sb3.extBut (Ne.symm (n2 TO xws))) hy λg4 pa2' sb4=>wad ?_)
 have t4:IsPair g4 TO x ob:=sb4.extBut _ _ D.d9 t3;refine bnd (wpAny_seqItems t4 rfl ?_);refine bnd (wpAny_updateSeq_pair t4 λg5 t5 sb5=>?_);have t5:IsPair g5 TO x y:=t5;refine bnd (wpAny_letGo (wad (wad ?_)));refine bnd (wpAny_seqItems t5 rfl ?_);refine bnd (wpAny_newTuple ?_);have sz:g5.objs.size=s.heap.objs.size:=by rw[sb5.1,sb4.1,sb3.1,sb2.1,sb1.1]
 have z5:IsZip g5 z TI TO .ellipsis:=sb5.extBut _ _ D.d2.symm (sb4.extBut _ _ D.d4.symm (sb3.extBut _ _ D.d2.symm (sb2.extBut _ _ D.d3.symm pz1)));have k5:∀ c o,c≠z->c≠TO->c≠i1->c≠i2->s.heap.get? c=some o->g5.get? c=some o:=λc o c1 c2 c3 c4 e =>
  sb5.extBut _ _ c2 (sb4.extBut _ _ c4 (sb3.extBut _ _ c2 (sb2.extBut _ _ c3 (sb1.extBut _ _ c1 e))))
 have p1:g5.IsTupleIter i1 l1 (k+1):=((pa1'.extBut sb3.extBut D.d8.symm).extBut sb4.extBut D.d0).extBut sb5.extBut D.d8.symm;have p2:g5.IsTupleIter i2 l2 (k+1):=pa2'.extBut sb5.extBut D.d9.symm;have ltz:z<g5.objs.size:=wai z5;show wpAny _ _ (Builtin.SmallTypes.ownedTupleHandOut (.ref z) (.ref g5.objs.size) >>= _) _ _ _;refine bnd ?_;unfold Builtin.SmallTypes.ownedTupleHandOut;have z6:IsZip (g5.push { cls:=.type "tuple",data:=.seq #[x,y] }) z TI TO .ellipsis:=waa _ z5;refine bnd (wpAny_setField_rec z6 xws λg7 z7 sb7=>?_);have z7:IsZip g7 z TI TO (rawInt g5.objs.size):=z7;refine wpAny_setField_rec z7 xws λg8 z8 sb8=>?_;have z8:IsZip g8 z TI TO (rawInt g5.objs.size):=z8;have up:∀ c o,c≠z->g5.get? c=some o->g8.get? c=some o:=λc o c1 e=>sb8.extBut _ _ c1 (sb7.extBut _ _ c1 (waa _ e));have t8:g8.get? g5.objs.size=some { cls:=.type "tuple",data:=.seq #[x,y] }:=sb8.extBut _ _ (Nat.ne_of_gt ltz) (sb7.extBut _ _ (Nat.ne_of_gt ltz) (waj _ rfl));rw[sz] at z8 t8;refine wad ⟨_,rfl,?_⟩;show Q (.ref g5.objs.size) _;rw[sz];exact hQ g8 ⟨z8,up _ _ D.d1 (k5 _ _ D.d1 D.d5 D.d6 D.d7 pti),⟨x,y,up _ _ D.d2 t5⟩,p1.at λo e=>up _ o D.d3 e,p2.at λo e=>up _ o D.d4 e⟩ t8 λc o c1 c2 c3 c4 e=>up c o c1 (k5 c o c1 c2 c3 c4 e)
theorem zo6{Q:PySem.Fin->Shared->Prop}(hh:A.handled=none)(D:ZpD z TI TO i1 i2)(p:Zp s.heap z TI TO i1 i2 l1 l2 .none k)(q1:s.heap.IsTuple l1 xs)(n1:∀ b∈[z,TI,TO,i1,i2],b≠l1)
  (hx:xs[k]? = none)
  (hE:∀ h' e,(∀ c o,c≠z->c≠TO->c≠i1->c≠i2->s.heap.get? c=some o->h'.get? c=some o)->(∃ o,h'.get? e=some o/\o.cls=.type "StopIteration")->E (.ref e) { s with heap:=h' }) :
  wpAny (model prog w) A (Builtin.«zip.__next__» ⟨[.ref z],[]⟩) Q E s:=by
 obtain ⟨pz,pti,⟨oa,ob,pto⟩,pa1,pa2⟩:=p;show wpAny _ _ (field (.ref z) 2 >>= _) _ _ _;refine bnd (wpAny_field pz rfl (x:=.bool false) rfl ?_);show wpAny _ _ (field (.ref z) 3 >>= _) _ _ _;refine bnd (wpAny_field pz rfl (x:=.ref TI) rfl ?_);refine bnd (wpAny_seqItems pti rfl ?_);show wpAny _ _ (Builtin.SmallTypes.ownedTupleIsFree (.ref z) >>= _) _ _ _;refine bnd ?_;unfold Builtin.SmallTypes.ownedTupleIsFree;refine bnd (wpAny_field pz rfl (x:=.none) rfl (wad ?_));simp only[if_true];refine bnd (wpAny_rule ?_);refine bnd (wpAny_field pz rfl (x:=.ref TO) rfl ?_);refine bnd (wpAny_setField_rec pz xws λg1 pz1 sb1=>?_);have pz1:IsZip g1 z TI TO .ellipsis:=pz1;refine bnd ?_;simp only[List.zipIdx_cons,List.zipIdx_nil,List.forIn_cons,List.forIn_nil];refine bnd (wab (wpAny_onRaise ?_));show wpAny _ _ (Builtin.SmallTypes.nextOf (.ref i1) >>= _) _ _ _;refine bnd (zvi hh (pa1.extBut sb1.extBut D.d3) (q1.extBut sb1.extBut (Ne.symm (n1 z xws))) hx λg2 e sb2 he=>?_);obtain ⟨oe,e1,e2⟩:=he;have z2:IsZip g2 z TI TO .ellipsis:=sb2 _ _ D.d3.symm pz1;have ez:e≠z:=λq=>by subst q;rw[z2] at e1;cases e1;simp at e2
 exact wpAny_setField_rec z2 xws λg3 _ sb3=>hE g3 e (λc o c1 _ c3 _ q=>sb3.extBut _ _ c1 (sb2 _ _ c3 (sb1.extBut _ _ c1 q))) ⟨oe,sb3.extBut _ _ ez e1,e2⟩
end
section
variable{X:Cx}{pS:List (Addr×Obj)}{Y:L2.St}{H:Hp}{s:Shared}
theorem zvd{a b:Addr}{xs:List V}(I:L2.Inv X pS Y H s)(hf:zfm X pS H b)(hs:SqT X.K H a xs):b≠a:=by
 rintro rfl;rcases hs with (h|⟨o,h⟩)|⟨o,its,n,h,_⟩
 ·rw[hf.1] at h;cases h
 ·rw[hf.1] at h;cases h
 ·have hb:=I.mod.kin b o h;rcases hf.2.2.2.1 with z|z
  ·exact I.ok.noex b o hb z
  ·exact absurd (was (wai hb) (waN I.ok.bsz z)) (waL _)
theorem zf6{fp:List Addr}{h':Heap}{o:HO}{a:Addr}{t':Nat}(I:L2.Inv X pS Y H s)(hf:∀ b∈fp,zfm X pS H b)(k:∀ b ob,b∉fp->s.heap.get? b=some ob->h'.get? b=some ob)(hp:s.heap.objs.size<=a)(ht:∀ b ob,s.heap.get? b=some ob->∃ ob',h'.get? b=some ob')
  (new:zeh X.prog X.w (upd H a o) h' a o):L2.Inv X pS Y (upd H a o) { s with heap:=h',toks:=t' }:=by
 have hn:=I.hok.fresh hp;have nf:∀ b u,H b=some u->b∉fp:=λb u e z=>by rw[(hf b z).1] at e;cases e
 refine I.call (g':=s.gens) (d':=s.drawn) (ch:=fp) ⟨λb u q _ _ hx=>k b u hx q,λb u q _ _ hx=>⟨u.slots,k b u hx q⟩,λb u q n _=>?_,λb u q hx=>⟨u,k b u hx q⟩,λb xs q=>?_,λb u xs q=>?_,λb ps q=>⟨#[],?_⟩⟩ (λb u e=>?_) I.bare
  λb hb=>⟨(hf b hb).2.2.2.1,(hf b hb).2.1,(hf b hb).2.2.2.2.1,(hf b hb).2.2.2.2.2⟩
 ·rw[zat (Nat.ne_of_lt (Nat.lt_of_lt_of_le (Heap.lt_size q) hp))];exact n
 ·rw[zat (zas q hn)];exact q
 ·rw[zat (zas q hn)];exact q
 ·rw[zat (zas q hn),q];simp
 ·by_cases hb:b=a
  ·subst hb;rw[zar] at e;cases e;exact new
  ·rw[zat hb] at e;refine (I.hok b u e).stay (λc v hc q=>k c v ?_ q) (λc q=>by rw[zat (zas q hn)];exact q) λc xs q=>by rw[zat (zas q hn)];exact q
   rcases hc with z|z
   ·rw[z];exact nf b u e
   ·exact nf c _ z
theorem zem{fp:List Addr}{h':Heap}{t':Nat}(I:L2.Inv X pS Y H s)(hf:∀ b∈fp,zfm X pS H b)(k:∀ b ob,b∉fp->s.heap.get? b=some ob->h'.get? b=some ob):L2.Inv X pS Y H { s with heap:=h',toks:=t' }:=by
 have nf:∀ b u,H b=some u->b∉fp:=λb u e z=>by rw[(hf b z).1] at e;cases e
 refine I.call (g':=s.gens) (d':=s.drawn) (ch:=fp) ⟨λb u q _ _ hx=>k b u hx q,λb u q _ _ hx=>⟨u.slots,k b u hx q⟩,λb u q n _=>n,λb u q hx=>⟨u,k b u hx q⟩,λb xs q=>q,λb u xs q=>q,λb ps q=>⟨#[],by rw[q];simp⟩⟩ (λb u e=>?_) I.bare
  λb hb=>⟨(hf b hb).2.2.2.1,(hf b hb).2.1,(hf b hb).2.2.2.2.1,(hf b hb).2.2.2.2.2⟩
 refine (I.hok b u e).stay (λc v hc q=>k c v ?_ q) (λ_ q=>q) λ_ _ q=>q;rcases hc with z|z
 ·rw[z];exact nf b u e
 ·exact nf c _ z
end
def Itz(K:W.Frag)(a b:Addr):It :=
 ⟨λi H=>∃ xs ys x y,SqT K H a xs/\SqT K H b ys/\xs[i]? = some x/\ys[i]? = some y,
   λi H v H'=>∃ p x y,v=.ref p/\H p=none/\H'=upd H p (.tup [x,y])/\(∀ xs,SqT K H a xs->xs[i]? = some x)/\∀ ys,SqT K H b ys->ys[i]? = some y,
   λi H=>∃ xs,SqT K H a xs/\xs.length<=i⟩
theorem zsu{P:Program}{w:World}{K:W.Frag}{elts:List Expr}{x1}{ps:Pos}{a b z TI TO i1 i2:Addr}(D:ZpD z TI TO i1 i2):zpy P w K (.Tuple elts x1 ps) (Itz K a b) [z,TI,TO,i1,i2] z (λi h=>Zp h z TI TO i1 i2 a b .none i) where
 mem:=by simp
 obj:=λi h st c hc=>by
  obtain ⟨s1,s2,⟨oa,ob,s3⟩,⟨o4,s4,_,d4⟩,⟨o5,s5,_,d5⟩⟩:=st;simp only[wap,wak,or_false] at hc;rcases hc with rfl|rfl|rfl|rfl|rfl
  ·exact ⟨_,s1,λv q=>by cases q⟩
  ·exact ⟨_,s2,λv q=>by cases q⟩
  ·exact ⟨_,s3,λv q=>by cases q⟩
  ·exact ⟨_,s4,λv q=>by rw[d4] at q;cases q⟩
  ·exact ⟨_,s5,λv q=>by rw[d5] at q;cases q⟩
 keep:=λi h h' st k=>st.keep k
 item:=by
  intro X hP hw hK hc i pS s Y H E I hf st hg;subst hP hw hK;obtain ⟨xs,ys,x,y,q1,q2,hx,hy⟩:=hg;obtain ⟨its,rv,p,hz⟩:=I.tuple q1;obtain ⟨jts,rw',p',hz'⟩:=I.tuple q2;obtain ⟨u,hu,ru⟩:=rv.get hx;obtain ⟨v,hv,rv'⟩:=rw'.get hy;have hT:s.TypeIs (.ref z) "zip":=⟨_,st.z,rfl⟩
  unfold pyNext;refine wab (wpAny_attempt (wpAny_callSpecial?_slot (name:=Str.ofString "__next__") hT F.slot_zip_next (wpAny_call_entry F.slot_zip_next hT F.entry_zip_next
   (zlK (l1:=a) (l2:=b) (k:=i) (x:=u) (y:=v) D st (show s.heap.IsTuple a its.toArray from p) (show s.heap.IsTuple b jts.toArray from p') (λc hc=>zvd I (hf c hc) q1) (λc hc=>zvd I (hf c hc) q2) (by simpa using hu) (by simpa using hv) λh' st' ht hk=>wad ?_) (F.args_zip_next_1 _))))
  refine ⟨_,rfl,wpAny_letOwnedTupleGo_zip st'.z λh2 hz2 sb=>?_⟩;have hzp:∀ c∈[z,TI,TO,i1,i2],c≠s.heap.objs.size:=λc hc q=>by
   obtain ⟨s1,s2,⟨oa,ob,s3⟩,⟨o4,s4,_⟩,⟨o5,s5,_⟩⟩:=st;simp only[wap,wak,or_false] at hc;subst q;rcases hc with rfl|rfl|rfl|rfl|rfl
   ·exact absurd (wai s1) (waL _)
   ·exact absurd (wai s2) (waL _)
   ·exact absurd (wai s3) (waL _)
   ·exact absurd (wai s4) (waL _)
   ·exact absurd (wai s5) (waL _)
  have st2:Zp h2 z TI TO i1 i2 a b .none (i+1):=by refine ⟨hz2,sb.extBut _ _ D.d1 st'.ti,?_,st'.a1.extBut sb.extBut D.d3,st'.a2.extBut sb.extBut D.d4⟩;obtain ⟨oa,ob,q⟩:=st'.to;exact ⟨oa,ob,sb.extBut _ _ D.d2 q⟩
  have hk2:∀ c ob,c∉[z,TI,TO,i1,i2]->s.heap.get? c=some ob->h2.get? c=some ob:=λc ob nc e=>by simp only[wap,wak,or_false,not_or] at nc;exact sb.extBut _ _ nc.1 (hk c ob nc.1 nc.2.2.1 nc.2.2.2.1 nc.2.2.2.2 e)
  have hth:∀ c ob,s.heap.get? c=some ob->∃ ob',h2.get? c=some ob':=λc ob e=>by
   by_cases nc:c∈[z,TI,TO,i1,i2]
   ·obtain ⟨s1,s2,⟨oa,ob,s3⟩,⟨o4,s4,_⟩,⟨o5,s5,_⟩⟩:=st2;simp only[wap,wak,or_false] at nc;rcases nc with rfl|rfl|rfl|rfl|rfl
    ·exact ⟨_,s1⟩
    ·exact ⟨_,s2⟩
    ·exact ⟨_,s3⟩
    ·exact ⟨_,s4⟩
    ·exact ⟨_,s5⟩
   ·exact ⟨ob,hk2 c ob nc e⟩
  have hnew:h2.get? s.heap.objs.size=some { cls:=.type "tuple",data:=.seq #[u,v] }:=sb.extBut _ _ (Ne.symm (hzp z xws)) ht;have IN:L2.Inv X pS Y (upd H s.heap.objs.size (.tup [x,y])) { s with heap:=h2 }:=zf6 (s:=s) (t':=s.toks) (o:=.tup [x,y]) I hf hk2 (wal _) hth ⟨by show 2<=sizeLine;decide,[u,v],.cons ru (.cons rv' .nil),0,hnew⟩;exact ⟨.ref s.heap.objs.size,_,IN,rfl,
   ⟨_,x,y,rfl,I.hok.fresh (wal _),rfl,λzs q=>by rw[I.tuple_inj q q1];exact hx,λzs q=>by rw[I.tuple_inj q q2];exact hy⟩,st2,λc hc=>by rw[zat (hzp c hc)];exact (hf c hc).1⟩
 done:=by
  intro X hP hw hK hc i pS s Y H E I hf st hg;subst hP hw hK;obtain ⟨xs,q1,hx⟩:=hg;obtain ⟨its,rv,p,hz⟩:=I.tuple q1;have hl:=rv.length;have hT:s.TypeIs (.ref z) "zip":=⟨_,st.z,rfl⟩
  unfold pyNext;refine wab (wpAny_attempt (wpAny_callSpecial?_slot (name:=Str.ofString "__next__") hT F.slot_zip_next (wpAny_call_entry F.slot_zip_next hT F.entry_zip_next
   (zo6 (l1:=a) (l2:=b) (k:=i) (xs:=its.toArray) (I.ok.hd hc) D st (show s.heap.IsTuple a its.toArray from p) (λc hc=>zvd I (hf c hc) q1) (by simp;lia) λh' e hk he=>?_) (F.args_zip_next_1 _))))
  obtain ⟨o,ho,hcl⟩:=he;refine wab (wpAny_isInstance (T:="StopIteration") (b:=true) ⟨o,ho,hcl⟩ isSubtype_stop (wad ⟨rfl,?_⟩));refine zem (t':=s.toks) I hf λc ob nc e=>?_;simp only[wap,wak,or_false,not_or] at nc;exact hk c ob nc.1 nc.2.2.1 nc.2.2.2.1 nc.2.2.2.2 e
 self:=λ_ _ _ _ _ st h=>wpAny_pyIter_zip st.z h
section
variable{prog:Program}{w:World}{A:Around}{E:Value->Shared->Prop}{s:Shared}
abbrev zt1(h:Heap)(a:Addr):Heap:=h.push { cls:=.type "tuple_iterator",data:=.fields #[.ref a,.int 0 0] }
abbrev zt2(h:Heap)(a b:Addr):Heap:=(zt1 h a).push { cls:=.type "tuple_iterator",data:=.fields #[.ref b,.int 0 0] }
abbrev zt3(h:Heap)(a b:Addr):Heap:=(zt2 h a b).push { cls:=.type "tuple",data:=.seq #[.ref h.objs.size,.ref (zt1 h a).objs.size] }
abbrev zt4(h:Heap)(a b:Addr):Heap:=(zt3 h a b).push { cls:=.type "tuple",data:=.seq #[.none,.none] }
abbrev zt5(h:Heap)(a b:Addr):Heap:=(zt4 h a b).push { cls:=.type "zip",data:=.fields #[.none,.bool false,.bool false,.ref (zt2 h a b).objs.size,.ref (zt3 h a b).objs.size] }
theorem zvS(a b:Addr)(xs ys:Array Value):Meets (Builtin.«zip.__new__» ⟨[.type "zip",.ref a,.ref b],[]⟩) (λ_ R s=>s.heap.IsTuple a xs/\s.heap.IsTuple b ys/\R (.ok (.ret (.ref (zt4 s.heap a b).objs.size))) { s with heap:=zt5 s.heap a b }) :=
 .of_wp λprog w A R s h=>by
  obtain ⟨hp,g,d,tk,os⟩:=s;obtain ⟨k1,k2,h⟩:=h;have hsub:=sub_zip;have t1:Heap.IsTuple (Shared.heap ⟨hp,g,d,tk,os⟩) a xs:=k1;have t2:Heap.IsTuple (Shared.heap ⟨hp.push { cls:=.type "tuple_iterator",data:=.fields #[.ref a,.int 0 0] },g,d,tk,os⟩) b ys:=Heap.IsTuple.push k2 _
  wp_walk using wpAny_pyIter_tuple t1,wpAny_pyIter_tuple t2
  exact ⟨_,rfl,h⟩
theorem zuh{a b:Addr}{xs ys:Array Value}{Q:Value->Shared->Prop}(k1:s.heap.IsTuple a xs)(k2:s.heap.IsTuple b ys)
  (h:∀ h',Zp h' (s.heap.objs.size+4) (s.heap.objs.size+2) (s.heap.objs.size+3) s.heap.objs.size (s.heap.objs.size+1) a b .none 0->(∀ c o,s.heap.get? c=some o->h'.get? c=some o)->Q (.ref (s.heap.objs.size+4)) { s with heap:=h' }) :
  wpAny (model prog w) A (call (.type "zip") [.ref a,.ref b]) Q E s:=by
 refine callType_new F.called_zip xwd (F.typeCall_zip_2 _ _) (F.newCall_zip_2 _ _) (λobj=>F.args_object_init_3 obj _ _) F.entry_zip_new (zvS a b xs ys) ⟨k1,k2,?_⟩;have e1:(zt1 s.heap a).objs.size=s.heap.objs.size+1:=Heap.size_push ..;have e2:(zt2 s.heap a b).objs.size=s.heap.objs.size+2:=by rw[Heap.size_push,e1]
 have e3:(zt3 s.heap a b).objs.size=s.heap.objs.size+3:=by rw[Heap.size_push,e2]
 have e4:(zt4 s.heap a b).objs.size=s.heap.objs.size+4:=by rw[Heap.size_push,e3]
 have g5:(zt5 s.heap a b).get? (zt4 s.heap a b).objs.size=some _:=waj _ rfl;have g4:(zt5 s.heap a b).get? (zt3 s.heap a b).objs.size=some _:=waa _ (waj _ rfl);have g3:(zt5 s.heap a b).get? (zt2 s.heap a b).objs.size=some _:=waa _ (waa _ (waj _ rfl));have g2:(zt5 s.heap a b).get? (zt1 s.heap a).objs.size=some _:=waa _ (waa _ (waa _ (waj _ rfl)));have g1:(zt5 s.heap a b).get? s.heap.objs.size=some _:=waa _ (waa _ (waa _ (waa _ (waj _ rfl))));show _/\_;rw[e2,e3,e4] at g5;rw[e1,e2] at g3;rw[e3] at g4;rw[e1] at g2;rw[e4];exact ⟨⟨_,g5,rfl⟩,h _ ⟨g5,g3,⟨_,_,g4⟩,⟨_,g1,rfl,rfl⟩,⟨_,g2,rfl,rfl⟩⟩ λc o q=>waa _ (waa _ (waa _ (waa _ (waa _ q))))⟩
end
theorem zxo(n:Nat):ZpD (n+4) (n+2) (n+3) n (n+1):=by constructor <;> (intro h;have h:(_:Nat)=(_:Nat):=h;lia)
theorem zwA{K:W.Frag}{G:Hp}{a b:Addr}{vs us:List V}{ds es:List Dt}(hs:SqT K G a vs)(ht:SqT K G b us)(q:za4 K G ds vs)(q':za4 K G es us)(hl:ds.length=es.length):zoC K (Itz K a b) G ((ds.zip es).map λz=>.tup [z.1,z.2]):=λi G1 H s1 s2=>by
 have h1:=zaK s2 (zaK s1 hs);have h2:=zaK s2 (zaK s1 ht);refine ⟨λd e=>?_,λh=>⟨vs,h1,?_⟩⟩
 ·rw[List.getElem?_map] at e;have hi:i<ds.length:=by
   by_cases hi:i<ds.length
   ·exact hi
   ·rw[List.getElem?_eq_none (by rw[List.length_zip];lia)] at e;cases e
  have z1:ds[i]? = some ds[i]:=by simp[hi]
  have z2:es[i]? = some (es[i]'xwl):=by simp[show i<es.length by lia]
  obtain ⟨v,e1,e2⟩:=q.get z1;obtain ⟨u,e3,e4⟩:=q'.get z2;have ed:d=.tup [ds[i],es[i]'xwl]:=by rw[(List.getElem?_zip_eq_some (z:=(ds[i],es[i]'xwl))).mpr ⟨z1,z2⟩] at e;exact (waA e).symm
  refine ⟨⟨vs,us,v,u,h1,h2,e1,e3⟩,λx H' y=>?_⟩;obtain ⟨p,x',y',rfl,hp,rfl,k1,k2⟩:=y;have kx:=k1 vs h1;have ky:=k2 us h2;rw[e1] at kx;rw[e3] at ky;cases kx;cases ky;have gr:ze6 G1 H (upd G1 p (.tup [v,u])) (upd H p (.tup [v,u])):=.new s2 hp;refine ⟨_,gr,?_⟩;rw[ed];unfold Rep;exact ⟨p,[v,u],rfl,zjo.of zar,za4.cons ((e2.same s1).same gr.g) (za4.cons ((e4.same s1).same gr.g) za4.nil)⟩
 ·rw[<- q.length];simpa [hl] using h
section
variable{X:Cx}{C:Cn}{elts:List Expr}{x1:Nat}{pt:Pos}{a b:Expr}{fa fb:De}{p pos:Pos}
end
def zog{α:Type}(p:Int×α):List (Int×α)->List (Int×α)
 |[]=>[p]
 |q::r=>if p.1<=q.1 then p::q::r else q::zog p r
def zgO{α:Type}:List (Int×α)->List (Int×α)
 |[]=>[]
 |p::r=>zog p (zgO r)
theorem zia{α:Type}(p:Int×α):∀ l:List (Int×α),(zog p l).Perm (p::l)
 |[]=>.refl _
 |q::r=>by
  unfold zog;split
  ·exact .refl _
  ·exact ((zia p r).cons q).trans (.swap p q r)
theorem zct{α:Type}:∀ l:List (Int×α),(zgO l).Perm l
 |[]=>.refl _
 |p::r=>(zia p _).trans ((zct r).cons p)
theorem znC{α:Type}(p:Int×α):∀ l:List (Int×α),l.Pairwise (λa b=>a.1<=b.1)->(zog p l).Pairwise (λa b=>a.1<=b.1)
 |[],_=>by simp[zog]
 |q::r,h=>by
  unfold zog;rw[List.pairwise_cons] at h;split
  ·rename_i z;refine List.pairwise_cons.mpr ⟨λx hx=>?_,List.pairwise_cons.mpr h⟩;rcases wap.mp hx with rfl|hx
   ·exact z
   ·exact Int.le_trans z (h.1 x hx)
  ·rename_i z;refine List.pairwise_cons.mpr ⟨λx hx=>?_,znC p r h.2⟩;rcases wap.mp ((zia p r).mem_iff.mp hx) with rfl|hx
   ·lia
   ·exact h.1 x hx
theorem zga{α:Type}:∀ l:List (Int×α),(zgO l).Pairwise (λa b=>a.1<=b.1)
 |[]=>.nil
 |p::r=>znC p _ (zga r)
theorem zut{α:Type}:∀{a b:List (Int×α)},a.Perm b->(a.map (·.1)).Nodup->a.Pairwise (λx y=>x.1<=y.1)->b.Pairwise (λx y=>x.1<=y.1)->a=b
 |[],b,p,_,_,_=>p.nil_eq
 |x::r,b,p,hn,ha,hb=>by
  cases b with
  |nil=>exact absurd p.length_eq xws
  |cons y t =>
   have hx:x∈y::t:=p.mem_iff.mp (.head _);have hy:y∈x::r:=p.mem_iff.mpr (.head _);rw[List.map_cons,List.nodup_cons] at hn;have e:x=y:=by
    rcases wap.mp hy with h'|h'
    ·exact h'.symm
    ·rcases wap.mp hx with h|h
     ·exact h
     ·have a1:=(List.pairwise_cons.mp ha).1 y h';have a2:=(List.pairwise_cons.mp hb).1 x h;have e1:x.1=y.1:=by lia
      exact absurd (List.mem_map.mpr ⟨y,h',e1.symm⟩) hn.1
   subst e;rw[zut (List.Perm.cons_inv p) hn.2 (List.pairwise_cons.mp ha).2 (List.pairwise_cons.mp hb).2]
def byK{α:Type}(ks:List Int)(l:List α):List α:=(zgO (ks.zip l)).map (·.2)
theorem zlu{α β:Type}{F:α->β->Prop}{p:Int×α}{q:Int×β}(hp:p.1=q.1/\F p.2 q.2):∀{l:List (Int×α)}{r:List (Int×β)},Paired (λx y=>x.1=y.1/\F x.2 y.2) l r->Paired (λx y=>x.1=y.1/\F x.2 y.2) (zog p l) (zog q r)
 |_,_,.nil=>.cons hp .nil
 |x::l,y::r,.cons h t=>by
  unfold zog;rw[hp.1,h.1];split
  ·exact .cons hp (.cons h t)
  ·exact .cons h (zlu hp t)
theorem zjb{α β:Type}{F:α->β->Prop}:∀{l:List (Int×α)}{r:List (Int×β)},Paired (λx y=>x.1=y.1/\F x.2 y.2) l r->Paired (λx y=>x.1=y.1/\F x.2 y.2) (zgO l) (zgO r)
 |_,_,.nil=>.nil
 |_,_,.cons h t=>zlu h (zjb t)
theorem znA{α β:Type}{F:α->β->Prop}:∀(ks:List Int){l:List α}{r:List β},Paired F l r->Paired (λx y=>x.1=y.1/\F x.2 y.2) (ks.zip l) (ks.zip r)
 |[],_,_,_=>by simpa using Paired.nil
 |k::ks,_,_,.nil=>by simpa using Paired.nil
 |k::ks,_,_,.cons h t=>.cons ⟨rfl,h⟩ (znA ks t)
theorem znK{α β:Type}{F:α->β->Prop}:∀{l:List (Int×α)}{r:List (Int×β)},Paired (λx y=>x.1=y.1/\F x.2 y.2) l r->Paired F (l.map (·.2)) (r.map (·.2))
 |_,_,.nil=>.nil
 |_,_,.cons h t=>.cons h.2 (znK t)
theorem znE{α β:Type}{F:α->β->Prop}(ks:List Int){l:List α}{r:List β}(h:Paired F l r):Paired F (byK ks l) (byK ks r):=znK (zjb (znA ks h))
theorem zek{K:W.Frag}{G:Hp}:∀{ds:List Dt}{vs:List V},za4 K G ds vs ↔ Paired (Rep K G) ds vs
 |[],vs=>⟨λh=>by rw[h.nil_inv];exact .nil,λh=>by cases h;exact za4.nil⟩
 |d::ds,vs=>⟨λh=>by
   obtain ⟨v,r,rfl,h1,h2⟩:=h.cons_inv;exact .cons h1 (zek.mp h2),λh=>by
   cases h with
   |cons h1 h2=>exact za4.cons h1 (zek.mpr h2)⟩
theorem zsd{K:W.Frag}{G:Hp}(ks:List Int){ds:List Dt}{vs:List V}(h:za4 K G ds vs):za4 K G (byK ks ds) (byK ks vs):=zek.mpr (znE ks (zek.mp h))
theorem zva{α:Type}{ks:List Int}{l:List α}(h:ks.length=l.length):(byK ks l).length=l.length:=by unfold byK;rw[List.length_map,(zct _).length_eq,List.length_zip,h,Nat.min_self]
section
variable{X:Cx}{pS:List (Addr×Obj)}{Y:L2.St}{H:Hp}{s:Shared}
theorem zpN{fp:List Addr}{h':Heap}{o:HO}{a:Addr}{t':Nat}(I:L2.Inv X pS Y H s)(hf:∀ b∈fp,zfm X pS H b)(ha:a∈fp)(k:∀ b ob,b∉fp->s.heap.get? b=some ob->h'.get? b=some ob)
  (new:zeh X.prog X.w (upd H a o) h' a o):L2.Inv X pS Y (upd H a o) { s with heap:=h',toks:=t' }:=by
 have hn:=(hf a ha).1;have nf:∀ b u,H b=some u->b∉fp:=λb u e z=>by rw[(hf b z).1] at e;cases e
 refine I.call (g':=s.gens) (d':=s.drawn) (ch:=fp) ⟨λb u q _ _ hx=>k b u hx q,λb u q _ _ hx=>⟨u.slots,k b u hx q⟩,λb u q n hx=>?_,λb u q hx=>⟨u,k b u hx q⟩,λb xs q=>?_,λb u xs q=>?_,λb ps q=>⟨#[],?_⟩⟩ (λb u e=>?_) I.bare
  λb hb=>⟨(hf b hb).2.2.2.1,(hf b hb).2.1,(hf b hb).2.2.2.2.1,(hf b hb).2.2.2.2.2⟩
 ·rw[zat (show b≠a from λz=>hx (by rw[z];exact ha))];exact n
 ·rw[zat (zas q hn)];exact q
 ·rw[zat (zas q hn)];exact q
 ·rw[zat (zas q hn),q];simp
 ·by_cases hb:b=a
  ·subst hb;rw[zar] at e;cases e;exact new
  ·rw[zat hb] at e;refine (I.hok b u e).stay (λc v hc q=>k c v ?_ q) (λc q=>by rw[zat (zas q hn)];exact q) λc xs q=>by rw[zat (zas q hn)];exact q
   rcases hc with z|z
   ·rw[z];exact nf b u e
   ·exact nf c _ z
theorem zvJ{A':Around}{xe':Value->Shared->Prop}(I:L2.Inv X pS Y H s)(h1:A'.frames=X.A.frames)(h2:A'.handled=X.A.handled):L2.Inv { X with A:=A',xe:=xe' } pS Y H s :=
 ⟨⟨I.ok.mod,I.ok.kind,I.ok.glob,I.ok.blt,I.ok.above,I.ok.inj,I.ok.has,I.ok.cab,λz=>h2.trans (I.ok.hd z),h1.trans I.ok.frames,I.ok.stk,I.ok.exf,I.ok.bs,I.ok.bsz,I.ok.noex,I.ok.exfs,I.ok.funs,I.ok.frf⟩,I.os,I.bare,I.base,I.loc,I.cell,I.free,I.freeC,I.pin,I.hok,I.len⟩
theorem zux{A':Around}{xe':Value->Shared->Prop}(I:L2.Inv { X with A:=A',xe:=xe' } pS Y H s)(h1:A'.frames=X.A.frames)(h2:A'.handled=X.A.handled):L2.Inv X pS Y H s :=
 ⟨⟨I.ok.mod,I.ok.kind,I.ok.glob,I.ok.blt,I.ok.above,I.ok.inj,I.ok.has,I.ok.cab,λz=>h2.symm.trans (I.ok.hd z),h1.symm.trans I.ok.frames,I.ok.stk,I.ok.exf,I.ok.bs,I.ok.bsz,I.ok.noex,I.ok.exfs,I.ok.funs,I.ok.frf⟩,I.os,I.bare,I.base,I.loc,I.cell,I.free,I.freeC,I.pin,I.hok,I.len⟩
end
end PV
end
section
namespace PV
open PySem PySem.Spec L2 PyProof.Rows
section
variable{X:Cx}{pS:List (Addr×Obj)}{Y:L2.St}{H:Hp}{s:Shared}
theorem zyt{kS:Addr}{o o':Obj}{zbV:List (Addr×Obj)}{h':Heap}{t':Nat}(J:L2.Inv X (pS++(kS,o)::zbV) Y H s)(hf:zfm X (pS++zbV) H kS)(hs:∀ b ob,b≠kS->s.heap.get? b=some ob->h'.get? b=some ob)(ho:h'.get? kS=some o')(hd:∀ v,o'.data≠.cell v) :
  L2.Inv X (pS++(kS,o')::zbV) Y H { s with heap:=h',toks:=t' }:=by
 have J1:L2.Inv X (pS++zbV) Y H s:=J.pins_of λp hp=>by
  refine J.pin p (waz _ ?_);rcases wax.mp hp with z|z
  ·exact waR _ z
  ·exact waz _ (wah _ z)
 have J2:L2.Inv X (pS++zbV) Y H { s with heap:=h',toks:=t' }:=zem (fp:=[kS]) J1 (λb hb=>by rw[List.mem_singleton.mp hb];exact hf) λb ob nb e=>hs b ob (λz=>nb (by simp[z])) e;refine J2.pins_of λp hp=>?_;rcases wax.mp hp with z|z
 ·exact J2.pin p (waz _ (waR _ z))
 ·rcases wap.mp z with rfl|z
  ·exact ⟨ho,hf.1,hf.2.1,hf.2.2.1,hd⟩
  ·exact J2.pin p (waz _ (waz _ z))
theorem zyb{pS pins':List (Addr×Obj)}{H':Hp}{b:Addr}(h:zfm X pS H b)(hn:H' b=none)(hp:∀ p∈pins',p∈pS\/p.1≠b):zfm X pins' H' b :=
 ⟨hn,h.2.1,h.2.2.1,h.2.2.2.1,h.2.2.2.2.1,λp q=>by
  rcases wax.mp q with z|z
  ·exact h.2.2.2.2.2 p (waR _ z)
  ·rcases hp p z with y|y
   ·exact h.2.2.2.2.2 p (waz _ y)
   ·exact y⟩
variable{kS a:Addr}{kz:List Int}{vs:List Value}{xs:List V}{Θ : Hp->Prop}{e1:Nat}{A:Around}{E:Value->Shared->Prop}{P:PySem.Fin->Shared->Prop}
abbrev lo(ys:Array Value)(n:Nat):Obj:=seqObj "list" ys n
theorem zsK{st:SortSt}{keys:Array Value}{e:Nat}(J:L2.Inv X (pS++(kS,lo keys e)::[(a,lo #[] e1)]) Y H s)(hka:kS≠a)(fk:zfm X pS H kS)(fa:zfm X pS H a)(hv:zaY xs vs)(hk:IntsAre keys.toList kz)(hlen:kz.length=vs.length)(h64:vs.length<64)(hnd:kz.Nodup)
  (hp:(arrOf st).Perm (keys.zip vs.toArray)) (hs:SortedTo (arrOf st) (arrOf st).size) (hfl:failedOf st=none)
  (h:∀ h' tk,L2.Inv X pS Y (upd H a (.lst (byK kz xs))) { s with heap:=h',toks:=tk }->P (.done (.ret .none)) { s with heap:=h',toks:=tk }) :
  wpAny (model X.prog X.w) A (ksk_tail a false e1 (.ref kS) st) P E s:=by
 have nk:=(J.pin (kS,lo keys e) xws).1;have na:=(J.pin (a,lo #[] e1) xws).1;have hsz:keys.size=vs.length:=by have q:=hk.length;rw[Array.length_toList] at q;lia
 have hsz2:(arrOf st).size=vs.length:=by rw[hp.size_eq,Array.size_zip,hsz,List.size_toArray,Nat.min_self]
 have s1:=Heap.SameBut.update s.heap kS (Obj.mapSeq λ_=>(#[]:Array Value));have na1:(s.heap.update kS (Obj.mapSeq λ_=>(#[]:Array Value))).get? a=some (lo #[] e1):=(s1.2 a hka.symm).trans na;have s2:=Heap.SameBut.update (s.heap.update kS (Obj.mapSeq λ_=>(#[]:Array Value))) a (Obj.mapSeq λ_=>(arrOf st).map (·.2));obtain ⟨c2,hc2⟩ : ∃ c2,((s.heap.update kS (Obj.mapSeq λ_=>(#[]:Array Value))).update a (Obj.mapSeq λ_=>(arrOf st).map (·.2))).get? a=some (lo ((arrOf st).map (·.2)) c2):=⟨_,get?_update_seq na1 λ_=>(arrOf st).map (·.2)⟩
 obtain ⟨ps,q1,q2,q3⟩:=ksk_out (b:=false) hk hp hs;have hmap:∀(l:List Int)(r:List Value),l.length=r.length->(l.zip r).map (·.1)=l:=λl r hl=>by rw[List.map_fst_zip];lia
 have eo:ps=zgO (kz.zip vs):=by refine zut (q1.trans (zct _).symm) ?_ (by simpa using q3) (zga _);have z:=q1.map Prod.fst;rw[z.nodup_iff];rw[show (kz.zip vs).map Prod.fst=kz from hmap kz vs hlen];exact hnd
 have eout:((arrOf st).map (·.2)).toList=byK kz vs:=by have z:((if false=true then ((arrOf st).map (·.2)).reverse else (arrOf st).map (·.2)):Array Value).toList=ps.map Prod.snd:=q2;rw[if_neg Bool.false_ne_true] at z;rw[z,eo];rfl
 have J0:L2.Inv X pS Y H s:=J.unpinned;unfold ksk_tail
 try dsimp only
 refine wab (listUpdate_at nk rfl ?_ (by rw[hsz,sizeLine_eq];lia) (Nat.zero_le _));refine wab (wpAny_letGo (wab (seqEpoch_at na1 rfl ?_)));refine wab (listUpdate_at na1 rfl ?_ (Nat.zero_le _) (by simp only[Bool.false_eq_true,if_false,Array.size_map];rw[hsz2,sizeLine_eq];lia));rw[hfl];simp only[bne_self_eq_false,Bool.false_eq_true,if_false];refine wad (h _ s.toks (zpN (fp:=[kS,a]) (s:=s) (t':=s.toks) J0 (λb hb=>?_) xws (λb ob nb q=>?_) ⟨?_,byK kz vs,c2,znE kz hv,?_⟩))
 ·simp only[wap,wak,or_false] at hb;rcases hb with rfl|rfl
  ·exact fk
  ·exact fa
 ·simp only[wap,wak,or_false,not_or] at nb;exact (s2.2 b nb.2).trans ((s1.2 b nb.1).trans q)
 ·have hl:=hv.length;rw[zva xwl,zdD];lia
 ·rw[<- eout,Array.toArray_toList];exact hc2
theorem zxJ{keys:Array Value}{e:Nat}(J:L2.Inv X (pS++(kS,lo keys e)::[(a,lo #[] e1)]) Y H s)(hka:kS≠a)(fk:zfm X pS H kS)(fa:zfm X pS H a)(hv:zaY xs vs)(hk:IntsAre keys.toList kz)(hlen:kz.length=vs.length)(h64:vs.length<64)(hnd:kz.Nodup)
  (h:∀ h' tk,L2.Inv X pS Y (upd H a (.lst (byK kz xs))) { s with heap:=h',toks:=tk }->P (.done (.ret .none)) { s with heap:=h',toks:=tk }) :
  wpAny (model X.prog X.w) A (ksk_end a false vs.toArray e1 (.ref kS) keys) P E s:=by
 have hsz:keys.size=vs.length:=by have q:=hk.length;rw[Array.length_toList] at q;lia
 have hzs:(keys.zip vs.toArray).size=vs.length:=by rw[Array.size_zip,hsz,List.size_toArray,Nat.min_self]
 unfold ksk_end
 try dsimp only
 simp only[Bool.false_eq_true,if_false];by_cases h2:vs.toArray.size<2
 ·rw[if_pos h2,if_pos h2];refine wab (wad ?_);rw[StateT.run_pure];refine wab (wad ?_)
  try dsimp only
  refine zsK (st:=SortSt.mk' general' (keys.zip vs.toArray) #[] 7 none) J hka fk fa hv hk hlen h64 hnd (Array.Perm.refl _) (λi j hij hj=>?_) rfl h;have hj2:j<(keys.zip vs.toArray).size:=hj;rw[hzs] at hj2;rw[List.size_toArray] at h2;have:i=j:=by lia
  subst this;exact Int.le_refl _
 ·rw[if_neg h2,if_neg h2];rw[List.size_toArray] at h2;rw[ksk_kind hk (by rw[hsz];lia)];refine wab (wad (wab (wpAny_mono (wpS_sortRuns (a₀:=keys.zip vs.toArray) (st:=SortSt.mk' oneType' (keys.zip vs.toArray) #[] 7 none)
   (Q:=λ_ st'=>(arrOf st').Perm (keys.zip vs.toArray)/\failedOf st'=none/\SortedTo (arrOf st') (keys.zip vs.toArray).size)
   (ksk_intKeys hk) ⟨Array.Perm.refl _,rfl,rfl,rfl⟩ (by rw[hzs];lia) (by rw[hzs];exact h64) λst' a1 a2 a3=>⟨a1,a2,a3⟩) ?_ λ_ _ e=>e)))
  rintro ⟨⟨⟩,st'⟩ s' ⟨rfl,hp,hf,hs⟩
  try dsimp only
  exact zsK J hka fk fa hv hk hlen h64 hnd hp (by rw[hp.size_eq];exact hs) hf h
theorem zwE{f:Value}(J:L2.Inv X (pS++(kS,lo #[] 0)::[(a,lo #[] e1)]) Y H s)(hka:kS≠a)(fk:zfm X pS H kS)(fa:zfm X pS H a)(hv:zaY xs vs)(hlen:kz.length=vs.length)(h64:vs.length<64)(hnd:kz.Nodup)(hθ : Θ H)
  (turn:∀(i:Nat)(u:Value)(k:Int),vs[i]? = some u->kz[i]? = some k->∀(pins':List (Addr×Obj))(s':Shared)(H':Hp),L2.Inv X pins' Y H' s'->Θ H'->wpAny (model X.prog X.w) A (call f [u]) (λr s2=>∃ t H2,r=.int k t/\L2.Inv X pins' Y H2 s2/\Θ H2) (λ_ _=>False) s')
  (h:∀ H2 s2,Θ H2->H2 a=none->L2.Inv X pS Y (upd H2 a (.lst (byK kz xs))) s2->P (.done (.ret .none)) s2) :
  wpAny (model X.prog X.w) A (ksk_rest a f false vs.toArray e1 (.ref kS)) P E s:=by
 unfold ksk_rest;refine wab (wpAny_rule ?_)
 first
  |rw[List.forIn_toArray]
  | (rw[<- Array.forIn_toList];simp only[List.toList_toArray])
 refine wab (ksk_fold (λi s'=>∃ H' kA e,Θ H'/\L2.Inv X (pS++(kS,lo kA e)::[(a,lo #[] e1)]) Y H' s'/\IntsAre kA.toList (kz.take i)) vs 0 s ⟨H,#[],0,hθ,J,by simpa using IntsAre.nil⟩ ?step ?done)
 case step =>
  rintro j x s' hx ⟨H',kA,e,hθ',J',hk⟩;simp only[Nat.zero_add] at hk ⊢;have hj:j<vs.length:=(wam.mp hx).1;obtain ⟨k,hkj⟩ : ∃ k,kz[j]? = some k:=⟨_,wac xwl⟩
  have hz:kA.size<=vs.length:=by have q:=hk.length;rw[Array.length_toList,List.length_take] at q;lia
  refine wab (wpAny_attempt (wpAny_mono (turn j x k hx hkj _ s' H' J' hθ') (λv s'' he=>?_) λ_ _ z=>z.elim));obtain ⟨t,H2,rfl,J2,hθ2⟩:=he
  try dsimp only
  have nk:=J2.pin (kS,lo kA e) xws;obtain ⟨c2,hc2⟩ : ∃ c2,(s''.heap.update kS (Obj.mapSeq (·.push (.int k t)))).get? kS=some (lo (kA.push (.int k t)) c2):=⟨_,get?_update_seq nk.1 (·.push (.int k t))⟩
  have s1:=Heap.SameBut.update s''.heap kS (Obj.mapSeq (·.push (.int k t)));refine wab (listUpdate_at nk.1 rfl ?_ (by rw[sizeLine_eq];lia) (waN (Nat.le_of_eq (Array.size_push ..)) (by rw[sizeLine_eq];lia)));refine wad ⟨rfl,H2,kA.push (.int k t),c2,hθ2,zyt (t':=s''.toks) J2 (zyb fk nk.2.1 λp hp=>?_) (λb ob nb q=>(s1.2 b nb).trans q) hc2 (λv z=>by cases z),?_⟩
  ·rcases wax.mp hp with z|z
   ·exact .inl z
   ·exact .inr (by rw[List.mem_singleton.mp z];exact hka.symm)
  ·have ek:kz.take (j+1)=kz.take j++[k]:=by rw[List.take_add_one,hkj];simp
   have ea:(kA.push (Value.int k t)).toList=kA.toList++[Value.int k t]:=by simp
   rw[ea,ek];exact ksk_snoc hk
 case done =>
  rintro s' ⟨H',kA,e,hθ',J',hk⟩;have hk':IntsAre kA.toList kz:=by rw[show kz.take (0+vs.length)=kz from List.take_of_length_le xwl] at hk;exact hk
  have nk:=J'.pin (kS,lo kA e) xws;have na:=J'.pin (a,lo #[] e1) xws
  try dsimp only
  refine wab (listItems_at nk.1 rfl ?_);exact zxJ J' hka (zyb fk nk.2.1 λp hp=>.inl hp) (zyb fa na.2.1 λp hp=>.inl hp) hv hk' hlen h64 hnd λh' tk IN=>h H' _ hθ' na.2.1 IN
end
section
variable{X:Cx}{pS:List (Addr×Obj)}{Y:L2.St}{H:Hp}{s:Shared}
theorem zol{l f:Addr}{xs:List V}{vs:List Value}{kz:List Int}{Θ : Hp->Prop}{Q:VK}(I:L2.Inv X pS Y H s)(hl:s.heap.IsList l vs.toArray)(hv:zaY xs vs)(hlen:kz.length=vs.length)(h64:vs.length<64)(hnd:kz.Nodup)(hθ : Θ H)
  (turn:∀(i:Nat)(u:Value)(k:Int),vs[i]? = some u->kz[i]? = some k->∀(pins':List (Addr×Obj))(s':Shared)(H':Hp),L2.Inv X pins' Y H' s'->Θ H'->wpAny (model X.prog X.w) X.A.in1.in1 (call (.ref f) [u]) (λr s2=>∃ t H2,r=.int k t/\L2.Inv X pins' Y H2 s2/\Θ H2) (λ_ _=>False) s')
  (h:∀ H2 a,Θ H2->H a=none->H2 a=none->Q (.ref a) (upd H2 a (.lst (byK kz xs)))) :
  wpAny (model X.prog X.w) X.A (call (.builtin "sorted") [.ref l] [(Str.ofString "key",.ref f)]) (EP X pS Y Q) X.xe s:=by
 refine call_function_entry_kw kind_sorted plain_sorted entry_sorted (ksk_s1 _ _) ?_;unfold Builtin.«sorted»;refine wab (m:=checkCount "sorted" 1 1 _) (wad (wab (collect_list hl ?_ (by rw[sizeLine_eq];lia))));refine wab (wpAny_newList ?_ (by rw[sizeLine_eq];lia));have z1:((s.heap.push (seqObj "list" #[] 0)).update s.heap.objs.size (Obj.mapSeq (·++vs.toArray))).objs.size=s.heap.objs.size+1:=by rw[Heap.size_update,size_push']
 have ka:(((s.heap.push (seqObj "list" #[] 0)).update s.heap.objs.size (Obj.mapSeq (·++vs.toArray))).push (seqObj "list" vs.toArray 0)).get? (s.heap.objs.size+1)=some (seqObj "list" vs.toArray 0):=by rw[<- z1];exact waj _ rfl
 have k0:∀ b o,s.heap.get? b=some o->(((s.heap.push (seqObj "list" #[] 0)).update s.heap.objs.size (Obj.mapSeq (·++vs.toArray))).push (seqObj "list" vs.toArray 0)).get? b=some o:=λb o q=>by have lt:b<s.heap.objs.size:=wai q;refine waa _ ?_;rw[Heap.get?_update_ne _ _ _ _ (Nat.ne_of_lt lt)];exact waa _ q
 generalize hg:(((s.heap.push (seqObj "list" #[] 0)).update s.heap.objs.size (Obj.mapSeq (·++vs.toArray))).push (seqObj "list" vs.toArray 0))=g0 at ka k0;have z2:g0.objs.size=s.heap.objs.size+2:=by rw[<- hg,size_push',z1]
 show wpAny _ _ _ _ _ { s with heap:=g0 };rw[z1];refine wab (wpAny_holding (wpAny_call_entry_kw slot_list_sort ⟨_,ka,rfl⟩ entry_list_sort ?body (ksk_l1 _ _)))
 case body =>
  show wpAny (model X.prog X.w) X.A.in1.in1 (Builtin.«list.sort» ⟨[.ref (s.heap.objs.size+1)],[(Str.ofString "key",.ref f)]⟩) _ _ _;rw[ksk_t1];have sb:=Heap.SameBut.update g0 (s.heap.objs.size+1) (Obj.mapSeq λ_=>(#[]:Array Value));obtain ⟨e1,ka1⟩ : ∃ e1,(g0.update (s.heap.objs.size+1) (Obj.mapSeq λ_=>(#[]:Array Value))).get? (s.heap.objs.size+1)=some (seqObj "list" #[] e1):=⟨_,get?_update_seq ka λ_=>#[]⟩
  unfold ksk_tree;refine wab (listItems_at ka rfl (wab (listUpdate_at ka rfl ?_ (by rw[List.size_toArray,sizeLine_eq];lia) (Nat.zero_le _))));refine wab (seqEpoch_at ka1 rfl (wab (wpAny_newTuple ?_ (by show vs.length<=_;rw[sizeLine_eq];lia))));refine wab (wpAny_newList ?_ (Nat.zero_le _));refine wpAny_holding ?_;have z3:((g0.update (s.heap.objs.size+1) (Obj.mapSeq λ_=>(#[]:Array Value))).push (seqObj "tuple" vs.toArray 0)).objs.size=s.heap.objs.size+3:=by rw[size_push',Heap.size_update,z2]
  have k1:∀ b o,s.heap.get? b=some o->(((g0.update (s.heap.objs.size+1) (Obj.mapSeq λ_=>(#[]:Array Value))).push (seqObj "tuple" vs.toArray 0)).push (seqObj "list" #[] 0)).get? b=some o:=λb o q =>
   waa _ (waa _ ((sb.2 b (waM (Nat.lt_succ_of_lt (wai q)))).trans (k0 b o q)))
  have ga:(((g0.update (s.heap.objs.size+1) (Obj.mapSeq λ_=>(#[]:Array Value))).push (seqObj "tuple" vs.toArray 0)).push (seqObj "list" #[] 0)).get? (s.heap.objs.size+1)=some (seqObj "list" #[] e1):=waa _ (waa _ ka1);have gk:(((g0.update (s.heap.objs.size+1) (Obj.mapSeq λ_=>(#[]:Array Value))).push (seqObj "tuple" vs.toArray 0)).push (seqObj "list" #[] 0)).get? (s.heap.objs.size+3)=some (seqObj "list" #[] 0):=by rw[<- z3];exact waj _ rfl
  show wpAny _ _ (ksk_rest (s.heap.objs.size+1) (.ref f) false vs.toArray e1 (.ref ((g0.update (s.heap.objs.size+1) (Obj.mapSeq λ_=>(#[]:Array Value))).push (seqObj "tuple" vs.toArray 0)).objs.size)) _ _ { s with heap:=((g0.update (s.heap.objs.size+1) (Obj.mapSeq λ_=>(#[]:Array Value))).push (seqObj "tuple" vs.toArray 0)).push (seqObj "list" #[] 0) };rw[z3];generalize ((g0.update (s.heap.objs.size+1) (Obj.mapSeq λ_=>(#[]:Array Value))).push (seqObj "tuple" vs.toArray 0)).push (seqObj "list" #[] 0)=g3 at k1 ga gk;have I3:L2.Inv X pS Y H { s with heap:=g3 }:=I.kept (t':=s.toks) k1;have la:s.heap.objs.size<=s.heap.objs.size+1:=waT ..;have lk:s.heap.objs.size<=s.heap.objs.size+3:=waT ..;have fa:zfm X pS H (s.heap.objs.size+1):=I.fpOk la (I.hok.fresh la);have fk:zfm X pS H (s.heap.objs.size+3):=I.fpOk lk (I.hok.fresh lk);have J:L2.Inv X (pS++(s.heap.objs.size+3,lo #[] 0)::[(s.heap.objs.size+1,lo #[] e1)]) Y H { s with heap:=g3 }:=I3.pins_of λp hp=>by
   rcases wax.mp hp with z|z
   ·exact I3.pin p (waz _ z)
   ·rcases wap.mp z with rfl|z
    ·exact ⟨gk,fk.1,fk.2.1,fk.2.2.1,λv z=>by cases z⟩
    ·rw[List.mem_singleton.mp z];exact ⟨ga,fa.1,fa.2.1,fa.2.2.1,λv z=>by cases z⟩
  refine zwE (Θ := Θ) J (λz=>absurd (Nat.add_left_cancel z) xwd) fk fa hv hlen h64 hnd hθ turn λH2 s2 t2 n2 IN=>⟨_,rfl,?_⟩
  exact wad ⟨_,rfl,.ref (s.heap.objs.size+1),_,IN,rfl,h H2 _ t2 fa.1 n2⟩
end
def zen(F:FD):List Dt->Option (List Int)
 |[]=>some []
 |d::r=>match F [.val d] with
  |.ok (.int k,_)=>(zen F r).map (k::·)
  |_=>none
theorem zjd{F:FD}:∀{ds:List Dt}{ks:List Int},zen F ds=some ks->ks.length=ds.length
 |[],ks,h=>by simp[zen] at h;subst h;rfl
 |d::r,ks,h=>by
  unfold zen at h;split at h
  ·simp only[Option.map_eq_some_iff] at h;obtain ⟨k',h1,rfl⟩:=h;simp[zjd h1]
  ·cases h
theorem ziK{F:FD}:∀{ds:List Dt}{ks:List Int}{i:Nat}{k:Int}{d:Dt},zen F ds=some ks->ks[i]? = some k->ds[i]? = some d->∃ b,F [.val d]=.ok (.int k,b)
 |[],ks,i,k,d,h,e1,e2=>by simp at e2
 |d0::r,ks,i,k,d,h,e1,e2=>by
  unfold zen at h;split at h
  ·rename_i k0 b0 ef;simp only[Option.map_eq_some_iff] at h;obtain ⟨k',h1,rfl⟩:=h;cases i with
   |zero=>simp at e1 e2;subst e1;subst e2;exact ⟨_,ef⟩
   |succ i=>exact ziK (i:=i) h1 (by simpa using e1) (by simpa using e2)
  ·cases h
def zhW:List Int->Bool
 |[]=>true
 |a::r=>!r.contains a && zhW r
theorem zkF:∀{l:List Int},zhW l=true->l.Nodup
 |[],_=>.nil
 |a::r,h=>by unfold zhW at h;rw[Bool.and_eq_true] at h;refine List.nodup_cons.mpr ⟨λz=>?_,zkF h.2⟩;have:=h.1;simp[z] at this
def zk9(F:FD)(fa:De):DN:=λZ=>(fa Z).bind λa=>match a.1 with
 |.lst ds=>match zen F ds with
  |some ks=>if (decide (ds.length<64) && zhW ks)=true then .ok (byK ks ds,a.2) else .no
  |none=>.no
 |_=>.no
theorem zns{d:Dt}{bs:List B}:∀{Z:Ev}{k:Nat},zix [.d d] bs k Z = Z
 |[],_=>rfl
 |o::r,k=>by show (match zeB [.d d] k with|some j=>bs[j]?|none=>o)::zix [.d d] bs (k+1) r=_;rw[zns (Z:=r)];rfl
section
variable{X:Cx}{C:Cn}{CX:CXT}{k k':Nat}{Fd:FD}{x:Str}{p pf kp pos:Pos}{a:Expr}{fa:De}
theorem zrN(D:Dfn false X.prog X.w X.K X.mg X.base CX C.xv k x [false] Fd)(hr:zfK (k'+2) X.A)(hk:k<=k')(hx:ze1 CX { X with A:=X.A.in1.in1,xe:=λ_ _=>False } (λ_ _ _=>False))(hg:Gl X "sorted")(hm:X.mg "sorted"=none)(ha:JE X C a fa)(hgf:Gl X x:=by rfl)(hdb:(x == ("__debug__" : Str))=false:=by decide)
  (hs:starEach [a] X.env=(false,eval a X.env)::starEach [] X.env:=by rfl) (he:backTo pos (starEach [a] X.env)=(false,eval a X.env)::backTo pos (starEach [] X.env):=by rfl) (hplain:(backTo pos (starEach [a] X.env)).any (·.1)=false:=by rfl)
  (hall:(backToKw pos (keywordEach [⟨some "key",.Name x pf,kp⟩] X.env)).all (·.1.isSome)=true:=by rfl) (hkw:(backToKw pos (keywordEach [⟨some "key",.Name x pf,kp⟩] X.env)).any (·.1.isNone)=false:=by rfl)
  (hks:(backToKw pos (keywordEach [⟨some "key",.Name x pf,kp⟩] X.env)).filterMap (·.1)=[Str.ofString "key"]:=by rfl) :
  JN X C (.Call (.Name "sorted" p) [a] [⟨some "key",.Name x pf,kp⟩] pos) (zk9 Fd fa):=by
 obtain ⟨f,fd,ps,h1,h2,h3,h4,h5⟩:=D.ex;intro pS s Y H Q I ⟨G,w,Z,r,pp⟩;refine wpAny_Call_Name_kw (zdA I hg hm boot_sorted ?_);refine callWith_kw (thn (zao ha za2 hs pos pS s Y H (λvs H1=>∃ G1 w1 ad xs ds ks Z1,vs=[.ref ad]/\zbA G H w G1 H1 w1/\Rel X.K C G1 w1 Z1 Y H1/\H1 ad=some (.lst xs)/\za4 X.K G1 ds xs/\zen Fd ds=some ks/\ds.length<64/\ks.Nodup/\kN X.K C Y Q G1 H1 w1 (byK ks ds,Z1)) I ?_) λus s1 ⟨vs,H1,I1,r1,q1⟩=>?_) he hplain hall hkw
 ·refine ⟨G,w,Z,r,?_⟩;unfold zk9 at pp;unfold dA dA0;cases e:fa Z with
  |ok z =>
   obtain ⟨d,Z1⟩:=z;rw[e] at pp;intro vs G1 H1 w1 s1 r1 q;obtain ⟨v,t,rfl,q1,q2⟩:=q.cons_inv;rw[q2.nil_inv];have p1:=zcD.step (κ:=λG H w=>kN X.K C Y Q G H w) zfk s1 pp;cases d with
   |lst ds =>
    simp only[R.bind_ok] at p1;split at p1
    ·rename_i ks ek;split at p1
     ·rename_i hl;rw[Bool.and_eq_true] at hl;obtain ⟨ad,zs,rfl,m1,m2⟩:=zaR q1;exact ⟨G1,w1,ad,zs,ds,ks,Z1,rfl,s1,r1,r1.gh _ _ m1,m2,ek,of_decide_eq_true hl.1,zkF hl.2,p1⟩
     ·exact waO p1
    ·exact waO p1
   |_=>exact waO p1
  |er n=>rw[e] at pp;exact pp
  |no=>rw[e] at pp;exact pp
 ·obtain ⟨G1,w1,ad,xs,ds,ks,Z1,rfl,st1,rel1,hH,hreps,ek,hl,hnd,kk⟩:=q1;obtain ⟨u,rfl,ru⟩:=zfv r1;cases ru;refine thn (zuo (nm:=some "key") (kpos:=kp) (zpM (v:=.ref f) (pos:=pf) hgf h2 rfl hdb) zxk pos pS s1 Y H1 (λvs H2=>vs=[.ref f]/\H2=H1) I1 ⟨rfl,rfl⟩) λws s2 ⟨zs,H2,I2,r2,e2,e3⟩=>?_;subst e2;subst e3;obtain ⟨u,rfl,ru⟩:=zfv r2;cases ru;rw[hks];show wpAny _ _ (call (.builtin "sorted") [.ref ad] [(Str.ofString "key",.ref f)]) _ _ _;obtain ⟨zz,its,n,rv,hle,eo⟩:=I2.lstM hH;have hld:=hreps.length;have hlk:=zjd ek;refine zol (xs:=xs) (vs:=its) (kz:=ks) (Θ := λH3=>∃ G3 w3,zbA G1 H2 w1 G3 H3 w3/\Rel X.K C G3 w3 Z1 Y H3) I2 ⟨_,eo,rfl,n,rfl⟩ rv xwl xwl hnd ⟨G1,w1,.refl _ _ _,rel1⟩ ?_ ?_
  ·intro i u kk' hu hki pins' s' H' I' ⟨G3,w3,st3,rel3⟩;have hi:i<ds.length:=by have:=(wam.mp hki).1;lia
   have hd:ds[i]? = some ds[i]:=by simp[hi]
   obtain ⟨xv,hx1,hx2⟩:=hreps.get hd;obtain ⟨u',hu1,hu2⟩:=rv.get hx1;rw[hu] at hu1;cases hu1;obtain ⟨bb,hF⟩:=ziK ek hki hd;have hx3:=hx2.same st3.g;have IA:L2.Inv { X with A:=X.A.in1.in1,xe:=λ_ _=>False } pins' Y H' s':=zvJ I' rfl rfl;have hrun:=ztv (X:={ X with A:=X.A.in1.in1,xe:=λ_ _=>False }) (CX:=CX) (us:=[u]) (vs:=[xv]) (E:=λ_ _ _=>False) (Q:=λv H4=>v=.int kk'/\∃ G4 w4,zbA G1 H2 w1 G4 H4 w4/\Rel X.K C G4 w4 Z1 Y H4) h1 ((hr.in1.in1).mono hk) h4 .nil hx IA (.cons hu2 .nil) ?_
   ·refine wpAny_mono hrun (λv s4 hq=>?_) λ_ _ z=>z;obtain ⟨v4,H4,I4,rv4,e4,G4,w4,st4,rel4⟩:=hq;subst e4;obtain ⟨t,rfl⟩:=rv4;exact ⟨t,H4,rfl,zux I4 rfl rfl,G4,w4,st4,rel4⟩
   ·rw[List.append_nil];refine ⟨G3,wIn w3 [.d ds[i]],[.val ds[i]],rfl,rfl,⟨rel3.gh,λb e=>rel3.wg b λz=>e (by unfold wIn;rw[z];rfl),λb e=>rel3.wh b λz=>e (by unfold wIn;rw[z];rfl),rfl,λj b v e1 e2=>?_⟩,?_⟩
    ·cases j with
     |zero=>simp at e1 e2;subst e1;subst e2;exact hx3
     |succ j=>simp at e1
    ·rw[hF];intro v G4 H4 w4 s4 pb q;obtain ⟨r',st'⟩:=rel3.back (as:=[.d ds[i]]) (vs:=[xv]) (bs:=[.val ds[i]]) (ks:=[false]) rfl ⟨xv,[],rfl,hx3,rfl⟩ rfl rfl s4 pb;rw[zns] at r';exact ⟨zaz (K:=X.K) (G:=G4) q,G4,_,st3.trans st',r'⟩
  ·intro H3 b ⟨G3,w3,st3,rel3⟩ hb0 hb3;have gr:ze6 G3 H3 G3 (upd H3 b (.lst (byK ks xs))):=.newH rel3.gh hb3;exact kk b _ G3 _ w3 (st3.trans gr.step) (rel3.grow gr) hb0 zar (rel3.gh.free hb3) (ze7 rel3 hb3) (zsd ks (hreps.same st3.g))
end
end PV
end
section
namespace PV
open PySem PySem.Spec L2
def zeq(g:DG)(ft:DT)(fe:DN):List Dt->Ev->R (List (List Dt)×Ev)
 |[],Z=>.ok ([],Z)
 |d::r,Z=>(g d Z).bind λZ1=>(ft Z1).bind λt=>if t.1=true then (fe t.2).bind λy=>(zeq g ft fe r y.2).bind λz=>.ok (y.1::z.1,z.2) else zeq g ft fe r t.2
def znc(K:W.Frag)(H0:Hp)(D:Addr)(G H:Hp)(w:Wn)(dss:List (List Dt))(as:List Addr):Prop :=
 (D::as).Nodup/\Paired (λb ds=>H0 b=none/\G b=none/\w b=none/\∃ us,H b=some (.lst us)/\za4 K G ds us) as dss
theorem znc.step{K:W.Frag}{H0 G H G' H':Hp}{w w':Wn}{D:Addr}{dss:List (List Dt)}{as:List Addr}(q:znc K H0 D G H w dss as)(s:zbA G H w G' H' w'):znc K H0 D G' H' w' dss as :=
 ⟨q.1,zfc (λb ds ⟨h1,h2,h3,us,h4,h5⟩=>by obtain ⟨k1,k2,k3⟩:=s.keep h2 h3 h4;exact ⟨h1,k1,k2,us,k3,h5.same s.g⟩) q.2⟩
theorem zgv{α β:Type}{F:α->β->Prop}:∀{l:List α}{r:List β},Paired F l r->l.length=r.length
 |_,_,.nil=>rfl
 |_,_,.cons _ t=>by simp[zgv t]
theorem zfy{α β:Type}{F:α->β->Prop}{a:α}{b:β}(h:F a b):∀{l:List α}{r:List β},Paired F l r->Paired F (l++[a]) (r++[b])
 |_,_,.nil=>.cons h .nil
 |_,_,.cons x t=>.cons x (zfy h t)
theorem znc.len{K:W.Frag}{H0 G H:Hp}{w:Wn}{D:Addr}{dss:List (List Dt)}{as:List Addr}(q:znc K H0 D G H w dss as):as.length=dss.length:=zgv q.2
theorem znc.snoc{K:W.Frag}{H0 G H:Hp}{w:Wn}{D p:Addr}{dss:List (List Dt)}{ds:List Dt}{us:List V}{as:List Addr}(q:znc K H0 D G H w dss as)(nD:p≠D)(nA:p∉as)(h0:H0 p=none)(hg:G p=none)(hw:w p=none)(hp:H p=some (.lst us))(hr:za4 K G ds us):znc K H0 D G H w (dss++[ds]) (as++[p]):=by
 refine ⟨?_,zfy ⟨h0,hg,hw,us,hp,hr⟩ q.2⟩;have h:=q.1;rw[List.nodup_cons] at h ⊢;refine ⟨λz=>?_,?_⟩
 ·rcases wax.mp z with z|z
  ·exact h.1 z
  ·exact nD (List.mem_singleton.mp z).symm
 ·rw[List.nodup_append];exact ⟨h.2,xws,λx hx y hy=>by rw[List.mem_singleton.mp hy];exact λz=>nA (z ▸ hx)⟩
theorem znc.updD{K:W.Frag}{H0 G H:Hp}{w:Wn}{D:Addr}{o:HO}{dss:List (List Dt)}{as:List Addr}(q:znc K H0 D G H w dss as):znc K H0 D G (upd H D o) w dss as :=
 ⟨q.1,zbJ q.2 λb ds hb ⟨h1,h2,h3,us,h4,h5⟩=>⟨h1,h2,h3,us,by rw[zat (show b≠D from λz=>(List.nodup_cons.mp q.1).1 (by rw[<- z];exact hb))];exact h4,h5⟩⟩
section
variable{X:Cx}{C:Cn}
theorem zot{tg iter elt:Expr}{ifs:List Expr}{scope:Scope}{pos:Pos}{N':List Str}{m:Nat}{g:DG}{ft:DT}{fe:DN}(hc:X.calm=true)(hb:zgN X.N N' scope.names m=true)
  (hkind:scope.kind=.function) (hcell:Hce scope) (hfr:∀ y∈scope.names,y.2=.free->X.env.kindOf y.1=some .cell\/X.env.kindOf y.1=some .free)
  (hblk:∀ cl L s H fp G H' w Y,JG (zfh X N' scope cl L s H fp) (zgJ C X.N.length G H' w Y) tg g/\JTs (zfh X N' scope cl L s H fp) (zgJ C X.N.length G H' w Y) ifs ft/\JN (zfh X N' scope cl L s H fp) (zgJ C X.N.length G H' w Y) elt fe)
  {pS:List (Addr×Obj)} {Y:L2.St} {s2:Shared} {cl:List (Str×Addr)} {RR:Value->Addr->Result->Shared->Prop} {E:Value->Shared->Prop}
  (hcl:∀ x c,cl.lookup x=some c->X.env.cells.lookup x=some c) (hcf:∀ y∈scope.names,y.2=.free->∃ c,cl.lookup y.1=some c)
  {it:Addr} {fp:List Addr} {tn:Nat->Heap->Prop} {J:It} {H2:Hp} (I2:L2.Inv X pS Y H2 s2) (T:zpy X.prog X.w X.K tg J fp it tn) (st2:tn 0 s2.heap) (f2:∀ b∈fp,zfm X pS H2 b)
  {ds:List Dt} {zs:List (List Dt)} {Z1 ρf:Ev} {G1:Hp} {w1:Wn} (r1:Rel X.K C G1 w1 Z1 Y H2) (it1:zoC X.K J G1 ds) (hfi:zhl ds=true) (ec:zeq g ft fe ds (Z1++List.replicate m none)=.ok (zs,ρf))
  (fin:∀(D L:Addr)(s':Shared)(as:List Addr)(G' H':Hp)(w':Wn),L2.Inv X pS Y H' s'->zqM X pS H' L s'->zbA G1 H2 w1 G' H' w'->Rel X.K C G' w' (ρf.take Z1.length) Y H'->H2 D=none->H' D=some (.lst (as.map V.ref))->G' D=none->w' D=none->znc X.K H2 D G' H' w' zs as->RR (.ref D) L (.ok .next) s') :
  wpAny (model X.prog X.w) X.A (newList []) (λacc s₃=>wpAny (model X.prog X.w) X.A (newFunctionEnv scope X.env.globals cl [] X.env.qual none .none (some X.env)) (λcenv s₄ =>
   codeAny (model X.prog X.w) X.A (.compStart (.ListComp elt [⟨tg,iter,ifs,0⟩] scope pos) 0 (.ref it) acc { cenv with scope:=relabel scope X.env }) (RR acc cenv.locals) s₄) E s₃) E s2:=by
 generalize hC':zgJ C X.N.length G1 H2 w1 (Y++List.replicate m none)=C';have c0:C'.H₀=H2:=by rw[<- hC'];rfl
 have cG:C'.G₀=G1:=by rw[<- hC'];rfl
 have cw:C'.w₀=w1:=by rw[<- hC'];rfl
 have hlenσ:Y.length=X.N.length:=I2.len;refine zmY (iter:=iter) (pos:=pos) (n:=ds.length) (tgt:=tG X.K C' g) (tts:=tT X.K C' ft) (te:=tN X.K C' fe) hc hb hkind hcell hfr (λL s H fp _ _ _=>by
  obtain ⟨a1,a2,a3⟩:=hblk (cellsFrom (L+1) scope.names cl) L s H fp G1 H2 w1 (Y++List.replicate m none);rw[hC'] at a1 a2 a3;exact ⟨a1,a2,a3⟩) hcl hcf I2 T st2 f2
  (λD i Y' H' vs=>∃ Z' G' w' ac as,vs=as.map V.ref/\Rel X.K C' G' w' Z' Y' H'/\G' D=none/\w' D=none/\znc X.K H2 D G' H' w' ac as/\ac.length<=i/\∃ z,zeq g ft fe (ds.drop i) Z'=.ok z/\ac++z.1=zs/\z.2 = ρf) (λD hD=>?_) (λD i Y' H' vs hD ⟨Z',G',w',ac,as,ev,r5,gd5,wd5,q5,hac,z,ez,ez1,ez2⟩ hd5 hlt=>?_) (λD Y' H' vs ⟨Z',G',w',ac,as,_,r5,_⟩=>(it1 _ G' H' (by have:=r5.en.g;rw[cG] at this;exact this) r5.gh).2 (wal _)) λD L s' vs Y' H' IX lo hD hd5 hl6 ⟨Z',G',w',ac,as,ev,r5,gd5,wd5,q5,hac,z,ez,ez1,ez2⟩=>?_
 ·have w0:w1 D=none:=by
   cases q:w1 D with
   |none=>rfl
   |some k=>exact absurd hD (r1.wh _ (by rw[q];simp))
  have base:Rel X.K C' G1 w1 (Z1++List.replicate m none) (Y++List.replicate m none) H2:=by
   refine ⟨r1.gh,r1.wg,r1.wh,by simp[r1.len],λi b e=>?_,by rw[<- hC'];exact .refl _ _ _,λi _=>by rw[<- hC'];rfl⟩;have hi':i < Z1.length:=by
    by_cases hi':i < Z1.length
    ·exact hi'
    ·rw[List.getElem?_append_right xwl,List.getElem?_replicate] at e;split at e <;> cases e
   rw[List.getElem?_append_left hi'] at e;obtain ⟨v,h1,h2⟩:=r1.sl i b e;exact ⟨v,by rw[List.getElem?_append_left (by rw[<- r1.len];exact hi')];exact h1,h2⟩
  exact ⟨Z1++List.replicate m none,G1,w1,[],[],rfl,base.upd_new (r1.gh.free hD) w0 (by rw[c0];exact hD),r1.gh.free hD,w0,⟨xws,.nil⟩,Nat.zero_le _,(zs,ρf),by simpa using ec,xws,rfl⟩
 ·subst ev;have ed:ds.drop i=ds[i]::ds.drop (i+1):=List.drop_eq_getElem_cons hlt;obtain ⟨go,yl⟩:=(it1 i G' H' (by have:=r5.en.g;rw[cG] at this;exact this) r5.gh).1 ds[i] (by simp[hlt]);refine ⟨go,λx H7 y7=>?_⟩;obtain ⟨G7,gr,rep7⟩:=yl x H7 y7;have keep7:=(gr.step (w:=w')).keep gd5 wd5 hd5;rw[ed] at ez;unfold zeq at ez;obtain ⟨Z3,e3,ez⟩:=zdt ez;obtain ⟨t4,e4,ez⟩:=zdt ez;obtain ⟨b4,Z4⟩:=t4;refine ⟨G7,w',Z',ds[i],r5.grow gr,rep7,?_⟩;rw[e3];intro Y8 G8 H8 w8 s8s r8;have keep8:=s8s.keep keep7.1 keep7.2.1 keep7.2.2;refine ⟨G8,w8,Z3,r8,?_⟩;rw[e4];intro G9 H9 w9 s9s r9;have keep9:=s9s.keep keep8.1 keep8.2.1 keep8.2.2;have q9:=q5.step (((gr.step (w:=w')).trans s8s).trans s9s);cases b4 with
  |false =>
   show (if false=true then _ else _);rw[if_neg Bool.false_ne_true];simp only[Bool.false_eq_true,if_false] at ez;exact ⟨keep9.2.2,Z4,G9,w9,ac,as,rfl,r9,keep9.1,keep9.2.1,q9,xwl,z,ez,ez1,ez2⟩
  |true =>
   show (if true=true then _ else _);rw[if_pos rfl];simp only[if_true] at ez;obtain ⟨⟨yd,Z10⟩,e10,ez⟩:=zdt ez;obtain ⟨z',ez',ez3⟩:=zdt ez;refine ⟨G9,w9,Z4,r9,?_⟩;rw[e10];intro pn us G10 H10 w10 s10s r10 n0 n1 n2 n3 q10;have keep10:=s10s.keep keep9.1 keep9.2.1 keep9.2.2;cases ez3;have nD:pn≠D:=λz=>by rw[z,keep9.2.2] at n0;cases n0
   have h20:H2 pn=none:=by have:=r9.en.k pn n0;rw[c0] at this;exact this
   have nA:pn∉as:=λz=>by obtain ⟨_,_,_,_,us',e,_⟩:=zdP q9.2 pn z;rw[n0] at e;cases e
   have hlen:=q9.len;have:=zjr hfi;exact ⟨keep10.2.2,by rw[List.length_map];lia,Z10,G10,w10,ac++[yd],as++[pn],xws,r10.upd_new keep10.1 keep10.2.1 (by rw[c0];exact hD),keep10.1,keep10.2.1,((q9.step s10s).snoc nD nA h20 n2 n3 n1 q10).updD,by simp;lia,z',ez',by rw[<- ez1];simp,ez2⟩
 ·subst ev;simp only[List.drop_length] at ez;unfold zeq at ez;cases ez;simp only[List.append_nil] at ez1;subst ez1;subst ez2;have en':zbA G1 H2 w1 G' H' w':=by have:=r5.en;rw[cG,c0,cw] at this;exact this
  have hρlen:Z'.length=X.N.length+m:=by rw[r5.len,hl6]
  refine fin _ _ s' as G' H' w' IX lo en' ⟨r5.gh,r5.wg,r5.wh,?_,λi b e=>?_,r1.en.trans en',r1.pin⟩ hD hd5 gd5 wd5 q5
  ·rw[List.length_take,hρlen,r1.len,hlenσ];lia
  ·have hi':i < Z1.length:=by
    by_cases hi':i < Z1.length
    ·exact hi'
    ·rw[List.getElem?_eq_none (by rw[List.length_take];lia)] at e;cases e
   rw[List.getElem?_take_of_lt hi'] at e;obtain ⟨v,h1,h2⟩:=r5.sl i b e;refine ⟨v,?_,h2⟩;have hpi:=r5.pin i (by rw[<- hC'];exact List.mem_range.mpr (by rw[<- hlenσ,<- r1.len];exact hi'));rw[h1] at hpi;rw[<- hC'] at hpi;have hpi':some (some v)=(Y++List.replicate m none)[i]? := hpi;rw[List.getElem?_append_left (by rw[<- r1.len];exact hi')] at hpi';exact hpi'.symm
def znu(i:Nat)(fi:DA)(g:DG)(ft:DT)(fe:DN)(m:Nat):DS:=λZ=>(fi Z).bind λa=>if zhl a.1=true then match zeq g ft fe a.1 (a.2++List.replicate m none) with
  |.ok z=>if i<a.2.length then .ok (.nx,(z.2.take a.2.length).set i (some (.own2 z.1))) else .no
  |_=>.no
 else .no
theorem Rel.setOwn2{K:W.Frag}{Y:L2.St}{G0 H0:Hp}{w0:Wn}{G H:Hp}{w:Wn}{Z:Ev}{i:Nat}{dss:List (List Dt)}{p:Addr}{as:List Addr}(r:Rel K C G w Z Y H)(hi:i < Z.length)(hpp:i∉C.pp)(hp:H p=some (.lst (as.map V.ref)))(hg:G p=none)(hw:w p=none)
  (q:znc K H0 p G H w dss as) (s:zbA G0 H0 w0 G H w) (h0:H0 p=none) (en0:∀ b,H0 b=none->C.H₀ b=none) :
  Rel K C G (λb=>if b∈p::as then some i else w b) (Z.set i (some (.own2 dss))) (Y.set i (some (.ref p))) H/\zbA G0 H0 w0 G H (λb=>if b∈p::as then some i else w b):=by
 have fr:∀ b∈p::as,H0 b=none/\G b=none/\w b=none/\H b≠none:=λb hb=>by
  rcases wap.mp hb with rfl|hb
  ·exact ⟨h0,hg,hw,by rw[hp];simp⟩
  ·obtain ⟨ds,k1,k2,k3,us,k4,_⟩:=zdP q.2 b hb;exact ⟨k1,k2,k3,by rw[k4];simp⟩
 have s1:∀{G1 H1:Hp}{w1:Wn},zbA G1 H1 w1 G H w->(∀ b∈p::as,H1 b=none)->zbA G1 H1 w1 G H (λb=>if b∈p::as then some i else w b):=λs z=>by
  refine ⟨s.g,s.fr,s.h,λb e=>?_,s.k⟩;by_cases hb:b∈p::as
  ·exact .inr (z b hb)
  ·simp only[hb,if_false] at e;exact s.w b e
 refine ⟨⟨r.gh,λb e=>?_,λb e=>?_,by simpa using r.len,λj b e=>?_,s1 r.en (λb hb=>en0 b (fr b hb).1),λj hj=>?_⟩,s1 s λb hb=>(fr b hb).1⟩
 ·by_cases hb:b∈p::as
  ·exact (fr b hb).2.1
  ·simp only[hb,if_false] at e;exact r.wg b e
 ·by_cases hb:b∈p::as
  ·exact (fr b hb).2.2.2
  ·simp only[hb,if_false] at e;exact r.wh b e
 ·by_cases hj:j=i
  ·subst hj;rw[List.getElem?_set_self hi] at e;cases e;refine ⟨_,way (by rw[<- r.len];exact hi),p,as,rfl,xws,hp,q.1,zbJ q.2 λb ds hb ⟨_,_,_,us,k4,k5⟩=>⟨?_,us,k4,k5⟩⟩;simp[wah _ hb,hb]
  ·rw[List.getElem?_set_ne (Ne.symm hj)] at e;obtain ⟨v',k1,k2⟩:=r.sl j b e;refine ⟨v',by rw[List.getElem?_set_ne (Ne.symm hj)];exact k1,k2.grow (.refl _) λa o e1 e2=>⟨e2,?_⟩⟩;have:a∉p::as:=λz=>by rw[(fr a z).2.2.1] at e1;cases e1
   simp only[this,if_false];exact e1
 ·have:i≠j:=λz=>hpp (z ▸ hj);rw[List.getElem?_set_ne this];exact r.pin j hj
theorem zmE{tg iter elt:Expr}{ifs:List Expr}{scope:Scope}{pos spos:Pos}{N':List Str}{m i:Nat}{x:Str}{px:Pos}{fi:DA}{g:DG}{ft:DT}{fe:DN}(hN:X.N.Nodup)(hix:X.N[i]? = some x)(hx:Loc X.env.scope x)(hp:i∉C.pp)(hi:JI X C tg iter fi)(hc:X.calm=true)(hb:zgN X.N N' scope.names m=true)
  (hkind:scope.kind=.function) (hcell:Hce scope) (hfr:∀ y∈scope.names,y.2=.free->X.env.kindOf y.1=some .cell\/X.env.kindOf y.1=some .free) (hnames:∀ y∈scope.names,y.2=.local->scope.names.lookup y.1=some .local)
  (hblk:∀ cl L s H fp G H' w Y,JG (zfh X N' scope cl L s H fp) (zgJ C X.N.length G H' w Y) tg g/\JTs (zfh X N' scope cl L s H fp) (zgJ C X.N.length G H' w Y) ifs ft/\JN (zfh X N' scope cl L s H fp) (zgJ C X.N.length G H' w Y) elt fe)
  (hsw:swapsWith (.ListComp elt [⟨tg,iter,ifs,0⟩] scope pos) (some (.Name x px)) spos.line X.env=pure true:=by rfl) (hf:X.fn x=true\/X.env.scope.names.lookup x=some .local:=by exact xwA)
  (hs:∀ x,foldedSetIterable iter X.env x=pure x:=by intro _;rfl):JS X C (.Assign [.Name x px] (.ListComp elt [⟨tg,iter,ifs,0⟩] scope pos) spos) (znu i fi g ft fe m):=by
 intro pS s Y H D I ⟨G,w,Z,r,p⟩;obtain ⟨cl,hclos,hcl,hcf⟩:=zgm (scope:=scope) (env:=X.env) λy hy hf=>I.ok.has y.1 (hfr y hy hf);rw[exec_Assign_Name_used _ _ _ _ hsw];refine wab (wpAny_standAt (wab ?_));show wpAny _ X.A (do let _ <- comprehension (.ListComp elt [⟨tg,iter,ifs,0⟩] scope pos) scope X.env _ (newList []) false (eval iter X.env) (some (assign (.Name x px) X.env))) _ _ s;refine wab (wpAny_mono (wpAny_comprehension_free (use:=some (assign (.Name x px) X.env)) (Q:=λ_ s'=>SP X pS D .next s') rfl hs hclos hkind hnames ?_) (λ_ s' hq=>wad (wad hq)) λ_ _ e=>e);refine thn (hi pS s Y H (λJ H2=>∃ ds Z1 G1 w1 zs ρf,Rel X.K C G1 w1 Z1 Y H2/\zoC X.K J G1 ds/\zhl ds=true/\zeq g ft fe ds (Z1++List.replicate m none)=.ok (zs,ρf)/\i < Z1.length/\zcD C.ex (kS X.K C D G1 H2 w1) (.ok (.nx,(ρf.take Z1.length).set i (some (.own2 zs))))) I ?_) λv s1 h1=>thn h1 λitv s2 h2=>?_
 ·refine zx6 (κ:=λG H w=>kS X.K C D G H w) zeJ r p λds Z1 J G1 H1 w1 r1 st1 it1 p1=>?_;dsimp only at p1;split at p1
  ·rename_i hfi;split at p1
   ·rename_i z ez;split at p1
    ·rename_i hl;exact ⟨ds,Z1,G1,w1,z.1,z.2,r1,it1,hfi,ez,hl,p1⟩
    ·exact waO p1
   ·exact waO p1
  ·exact waO p1
 obtain ⟨it,fp,tn,J,H2,rfl,I2,T,st2,f2,ds,Z1,G1,w1,zs,ρf,r1,it1,hfi,ec,hil,kk⟩:=h2;refine zot (RR:=λacc C=>compPost (model X.prog X.w) X.A X.xe (some (assign (.Name x px) X.env)) (λ_ s'=>SP X pS D .next s') acc C) hc hb hkind hcell hfr hblk hcl hcf I2 T st2 f2 r1 it1 hfi ec λDa L s' as G' H' w' I' lo st rel h0 h1 h2 h3 q=>?_;show wpAny _ X.A (assign (.Name x px) X.env (.ref Da)) _ _ _;refine wpAny_assign_Name (zhk I' hN hix hx (v:=.ref Da) rfl (λs'' I'' hch=>?_) hf);obtain ⟨mm,hn⟩:=lo.ns;obtain ⟨a,sb,ha⟩:=hch;have hLa:L≠a:=by
  rcases ha with z|z
  ·rw[z];exact lo.nl
  ·exact λy=>lo.nc x a z y.symm
 refine ⟨mm,hn.sameBut sb hLa,λh' hsb=>⟨Y.set i (some (.ref Da)),H',?_,?_⟩⟩
 ·exact I''.turned (t':=s''.toks) (λb o hb e=>(hsb.2 b hb).trans e) lo.fr lo.nl lo.nw lo.nc lo.np
 ·have hlr:i<(ρf.take Z1.length).length:=by rw[rel.len,<- r1.len];exact hil
  obtain ⟨r',s'⟩:=rel.setOwn2 hlr hp h1 h2 h3 q st h0 r1.en.k;exact kk _ _ _ _ s' r'
end
theorem ziT{α β:Type}{F F':α->β->Prop}{b:α}{d':β}:∀{l:List α}{r:List β}{j:Nat},Paired F l r->l.Nodup->l[j]? = some b->(∀ c d,c≠b->F c d->F' c d)->F' b d'->Paired F' l (r.set j d')
 |_,_,j,.nil,_,e,_,_=>by simp at e
 |x::l,y::r,0,.cons h t,nd,e,k,n=>by simp at e;subst e;refine .cons n (zbJ t λc d hc q=>k c d (λz=>?_) q);subst z;exact (List.nodup_cons.mp nd).1 hc
 |x::l,y::r,j+1,.cons h t,nd,e,k,n=>by
  have e':l[j]? = some b:=by simpa using e
  refine .cons (k x y (λz=>?_) h) (ziT t (List.nodup_cons.mp nd).2 e' k n);subst z;exact (List.nodup_cons.mp nd).1 (waH e')
theorem ziZ{α β:Type}{F:α->β->Prop}:∀{l:List α}{r:List β}{j:Nat}{d:β},Paired F l r->r[j]? = some d->∃ a,l[j]? = some a/\F a d
 |_,_,j,d,.nil,e=>by simp at e
 |x::l,y::r,0,d,.cons h t,e=>by simp at e;subst e;exact ⟨x,rfl,h⟩
 |x::l,y::r,j+1,d,.cons h t,e=>by obtain ⟨a,h1,h2⟩:=ziZ (j:=j) t (by simpa using e);exact ⟨a,by simpa using h1,h2⟩
theorem Rel.mutate2{K:W.Frag}{C:Cn}{Y:L2.St}{G H:Hp}{w:Wn}{Z:Ev}{i j:Nat}{dss:List (List Dt)}{ds':List Dt}{a b:Addr}{as:List Addr}{us':List V}(r:Rel K C G w Z Y H)(hi:Z[i]? = some (some (.own2 dss)))(hv:Y[i]? = some (some (.ref a)))(hw:w a=some i)
  (ha:H a=some (.lst (as.map V.ref))) (nd:(a::as).Nodup) (hp:Paired (λb ds=>w b=some i/\∃ vs,H b=some (.lst vs)/\za4 K G ds vs) as dss) (hb:as[j]? = some b) (h':za4 K G ds' us') :
  Rel K C G w (Z.set i (some (.own2 (dss.set j ds')))) Y (upd H b (.lst us'))/\zbA G H w G (upd H b (.lst us')) w:=by
 have hbm:b∈as:=waH hb;obtain ⟨_,hwb,_⟩:=zdP hp b hbm;have gb:G b=none:=r.wg b (by rw[hwb];simp);have nab:a≠b:=λz=>(List.nodup_cons.mp nd).1 (z ▸ hbm);have st:zbA G H w G (upd H b (.lst us')) w:=by
  refine ⟨.refl _,λc o e=>.inl (by rw[e];simp),λc o e z=>?_,λ_ e=>.inl e,λc e=>?_⟩
  ·have:c≠b:=λq=>by subst q;rw[hwb] at z;cases z
   rw[zat this];exact e
  ·by_cases hc:c=b
   ·subst hc;rw[zar] at e;cases e
   ·rw[zat hc] at e;exact e
 refine ⟨⟨λc o e=>?_,r.wg,λc e=>?_,by simpa using r.len,λk bb e=>?_,r.en.trans st,r.pin⟩,st⟩
 ·rw[zat (zas e gb)];exact r.gh c o e
 ·by_cases hc:c=b
  ·subst hc;rw[zar];simp
  ·rw[zat hc];exact r.wh c e
 ·by_cases hk:k=i
  ·subst hk;rw[List.getElem?_set_self (List.getElem?_eq_some_iff.mp hi).1] at e;cases e;refine ⟨_,hv,a,as,rfl,hw,by rw[zat nab];exact ha,nd,?_⟩;refine ziT hp (List.nodup_cons.mp nd).2 hb (λc ds nc ⟨q1,vs,q2,q3⟩=>⟨q1,vs,by rw[zat nc];exact q2,q3⟩) ⟨hwb,us',zar,h'⟩
  ·rw[List.getElem?_set_ne (Ne.symm hk)] at e;obtain ⟨v',h1,h2⟩:=r.sl k bb e;refine ⟨v',h1,h2.grow (.refl _) λc o e1 e2=>⟨?_,e1⟩⟩;have:c≠b:=λz=>by subst z;rw[hwb] at e1;exact hk (waA e1).symm
   rw[zat this];exact e2
def zle(i jx:Nat)(fk:De):De:=λZ=>match Z[i]? with
 |some (some (.own2 _))=>(fk Z).bind λk=>match k.2[i]?,k.1,k.2[jx]? with
  |some (some (.own2 dss)),.int n,some (some (.val d))=>match ixN dss.length n with
   |some j=>match dss[j]? with
    |some ds=>if ds.length<16777216 then .ok (.non,k.2.set i (some (.own2 (dss.set j (ds++[d]))))) else .no
    |none=>.no
   |none=>.no
  |_,_,_=>.no
 |_=>.no
section
variable{X:Cx}{C:Cn}{k:Expr}{fk:De}{pos ps py sp apos:Pos}{x y:Str}
theorem zvh(i jx:Nat)(hk:JE X C k fk)(hN:X.N[i]? = some x:=by rfl)(hNy:X.N[jx]? = some y:=by rfl)(hv:Vis X.env.scope x:=by exact xwV)(hvy:Vis X.env.scope y:=by exact xwV)
  (hd:(x == ("__debug__" : Str))=false:=by decide) (hcd:(x == ("__classdict__" : Str))=false:=by decide) (hdy:(y == ("__debug__" : Str))=false:=by decide) (hcdy:(y == ("__classdict__" : Str))=false:=by decide)
  (hix:zjC k:=by exact λ_ _=>rfl)
  (hbase:attributeBase (.Subscript (.Name x ps) k sp) "append" X.env (eval (.Subscript (.Name x ps) k sp) X.env)=eval (.Subscript (.Name x ps) k sp) X.env:=by rfl)
  (hfew:((backTo pos (starEach [.Name y py] X.env)).all (λx=>!x.1) && (backToKw pos (keywordEach [] X.env)).all (λx=>x.1.isSome) && decide ([Expr.Name y py].length+([]:List Keyword).length+(if ([]:List Keyword).isEmpty then 0 else 1)<30))=true:=by rfl)
  (hline:(apos.endLine == pos.line)=true:=by rfl) (hs:starEach [.Name y py] X.env=(false,eval (.Name y py) X.env)::starEach [] X.env:=by rfl) (hplain:(backTo pos (starEach [] X.env)).any (·.1)=false:=by rfl) :
  JE X C (.Call (.Attribute (.Subscript (.Name x ps) k sp) "append" apos) [.Name y py] [] pos) (zle i jx fk) :=
 PE.weak (zqX PySem.F.plainAttrs_list PySem.F.slot_list_append PySem.F.type_list_append zhp (zuP zlP (zdk hN hv hd hcd) hk hix) (zbj (zdk hNy hvy hdy hcdy) zcY hs) hbase hfew hline hs hplain) λY H Q ⟨G,w,Z,r,p⟩=>by
  unfold zle at p;split at p
  ·rename_i dss0 e0;obtain ⟨v0,h0,_⟩:=r.sl i _ e0;refine ⟨v0,h0,?_⟩;refine ze4 (κ:=λG H w=>kE X.K C Y Q G H w) zcr r p λd Z1 v G1 H1 w1 r1 s1 q1 p1=>?_;dsimp only at p1;split at p1
   ·rename_i dss n dy e1 ey;split at p1
    ·rename_i j ej;split at p1
     ·rename_i ds eds;split at p1
      ·rename_i hl;obtain ⟨v1,g1,a,as,rfl,g2,g3,g4,g5⟩:=r1.sl i _ e1;rw[h0] at g1;cases g1;obtain ⟨b,eb,hwb,us,hb,hrs⟩:=ziZ g5 eds;obtain ⟨vy,gy,hy⟩:=r1.sl jx _ ey;have hlen:=zgv g5;have hat:atI (as.map V.ref) n=some (.ref b):=by unfold atI;rw[List.length_map,hlen,ej];simp only[Option.bind_some];rw[List.getElem?_map,eb];rfl
       have hy':Rep X.K G1 dy vy:=hy;obtain ⟨r',s'⟩:=r1.mutate2 e1 h0 g2 g3 g4 g5 eb (hrs.append (za4.cons hy' za4.nil));exact ⟨a,as.map V.ref,n,.ref b,rfl,zaz q1,SqL.of g3,hat,.inl ⟨rfl,us,SqL.of hb⟩,vy,gy,b,us,vy,rfl,rfl,hb,by rw[<- hrs.length,zdD];exact hl,p1 _ _ _ _ s' r' (by unfold Rep;rfl)⟩
      ·exact waO p1
     ·exact waO p1
    ·exact waO p1
   ·exact waO p1
  ·exact p.elim
end
theorem zsV:bootBuiltins "len"=some (.builtin "len"):=PySem.boot_len
theorem zvF:bootBuiltins "max"=some (.builtin "max"):=PyProof.Rows.boot_max
theorem zxh:bootBuiltins "min"=some (.builtin "min"):=PyProof.Rows.boot_min
theorem zwm:bootBuiltins "all"=some (.builtin "all"):=PyProof.Rows.boot_all
theorem zew:bootBuiltins "isinstance"=some (.builtin "isinstance"):=PyProof.Rows.boot_isinstance
theorem zgg:bootBuiltins "tuple"=some (.type "tuple"):=by decide +kernel
theorem zka:bootBuiltins "list"=some (.type "list"):=by decide +kernel
theorem zqP:bootBuiltins "int"=some (.type "int"):=by decide +kernel
theorem zmz:bootBuiltins "bool"=some (.type "bool"):=by decide +kernel
theorem zaE{X:Cx}{E:XK}:ze1 CX0 X E:=λ_ _ _ _ _ _ _ h=>h.elim
section
variable{X:Cx}{C:Cn}{a b e:Expr}{fa fb:De}{p pos:Pos}
theorem zeA(hm:X.mg "len"=none)(ha:JE X C e fa)(hg:Gl X "len":=by rfl)(hs:starEach [e] X.env=(false,eval e X.env)::starEach [] X.env:=by rfl)(hpl:(backTo pos (starEach [] X.env)).any (·.1)=false:=by rfl):JE X C (.Call (.Name "len" p) [e] [] pos) (dFn zc3 (dA fa dA0)) :=
 zgZ zwu zwx (zeD.or zgF) hg hm zsV (zao ha za2 hs) xwd xwd hs hpl
theorem zw4(hc:X.calm=true)(hm:X.mg "max"=none)(ha:JE X C a fa)(hb:JE X C b fb)(hg:Gl X "max":=by rfl)(hs:starEach [a,b] X.env=(false,eval a X.env)::starEach [b] X.env:=by rfl)(hs2:starEach [b] X.env=(false,eval b X.env)::starEach [] X.env:=by rfl)(hpl:(backTo pos (starEach [b] X.env)).any (·.1)=false:=by rfl):JE X C (.Call (.Name "max" p) [a,b] [] pos) (dFn zki (dA fa (dA fb dA0))) :=
 zgZ zuG ztR (zqI hc) hg hm zvF (zao ha (zao hb za2 hs2) hs) xwd xwd hs hpl
theorem zxx(hc:X.calm=true)(hm:X.mg "min"=none)(ha:JE X C a fa)(hb:JE X C b fb)(hg:Gl X "min":=by rfl)(hs:starEach [a,b] X.env=(false,eval a X.env)::starEach [b] X.env:=by rfl)(hs2:starEach [b] X.env=(false,eval b X.env)::starEach [] X.env:=by rfl)(hpl:(backTo pos (starEach [b] X.env)).any (·.1)=false:=by rfl):JE X C (.Call (.Name "min" p) [a,b] [] pos) (dFn zjs (dA fa (dA fb dA0))) :=
 zgZ zuy ztH (zq4 hc) hg hm zxh (zao ha (zao hb za2 hs2) hs) xwd xwd hs hpl
theorem zyx(hc:X.calm=true)(hm:X.mg "all"=none)(ha:JE X C e fa)(hg:Gl X "all":=by rfl)(hs:starEach [e] X.env=(false,eval e X.env)::starEach [] X.env:=by rfl)(hpl:(backTo pos (starEach [] X.env)).any (·.1)=false:=by rfl):JE X C (.Call (.Name "all" p) [e] [] pos) (dFn ztp (dA fa dA0)) :=
 zgZ zw3 zxz (zp6 hc) hg hm zwm (zao ha za2 hs) xwd xwd hs hpl
theorem zfz(hm:X.mg "tuple"=none)(ha:JE X C e fa)(hg:Gl X "tuple":=by rfl)(hs:starEach [e] X.env=(false,eval e X.env)::starEach [] X.env:=by rfl)(hpl:(backTo pos (starEach [] X.env)).any (·.1)=false:=by rfl):JE X C (.Call (.Name "tuple" p) [e] [] pos) (dFn zdd (dA fa dA0)) :=
 zpl zsD zrC zjG hg hm zgg (zao ha za2 hs) xwd xwd hs hpl
theorem zq2(hm:X.mg "list"=none)(ha:JE X C e fa)(hg:Gl X "list":=by rfl)(hs:starEach [e] X.env=(false,eval e X.env)::starEach [] X.env:=by rfl)(hpl:(backTo pos (starEach [] X.env)).any (·.1)=false:=by rfl):JN X C (.Call (.Name "list" p) [e] [] pos) (ze3 ziq (dA fa dA0)) :=
 zqu zur zue zlh hg hm zka (zao ha za2 hs) xwd xwd hs hpl
end
theorem zds{nw:Bool}{P:Program}{w:World}{K:W.Frag}{mg:Str->Option Value}{base:Heap}{CX:CXT}{xv:Nat->Value}{k:Nat}{x qual:Str}{st:Stmt}{f:Addr}{fd:FuncData}{ps:List Str}{ks:List Bool}(hl:ps.length=ks.length)(U:Fun K x qual st f fd)(hm:mg x=some (.ref f))(hb:zkd K fd ps []) :
  Dfn nw P w K mg base CX xv k x ks (λ_=>.no) :=
 ⟨f,fd,ps,⟨λvs H Q E ⟨_,_,_,h,_⟩=>h.trans hl.symm,λ_ _ _ _ _ _ _ _ _ _ _ _ _ ⟨_,_,_,_,_,_,h⟩=>waO h⟩,hm,U.kp,hb,λbs h=>absurd rfl h⟩
theorem zfU{k:Nat}{A:Around}(hr:zfK k A):A.units+64<cLine:=by have:=hr.un;lia
theorem zt7{k:Nat}{A:Around}(hr:zfK k A):A.units+65<cLine:=by have:=hr.un;lia
theorem zbg{names:List (Str×NameKind)}(h:(names.all λy=>y.2 != .cell || (names.lookup y.1 == some .cell))=true):∀ y∈names,y.2=.cell->names.lookup y.1=some .cell:=λy hy z=>by rw[List.all_eq_true] at h;have:=h y hy;rw[z] at this;simpa using this
theorem zbX{names:List (Str×NameKind)}(h:(names.all λy=>y.2 != .local || (names.lookup y.1 == some .local))=true):∀ y∈names,y.2=.local->names.lookup y.1=some .local:=λy hy z=>by rw[List.all_eq_true] at h;have:=h y hy;rw[z] at this;simpa using this
theorem zbW{names:List (Str×NameKind)}{env:Env}(h:(names.all λy=>y.2 != .free || (env.kindOf y.1 == some .cell || env.kindOf y.1 == some .free))=true):∀ y∈names,y.2=.free->env.kindOf y.1=some .cell\/env.kindOf y.1=some .free:=λy hy z=>by rw[List.all_eq_true] at h;have:=h y hy;rw[z] at this;simpa using this
end PV
end
section
namespace PV
open PySem PySem.Spec L2 PyProof.Rows
section
variable{X:Cx}{C:Cn}{a b:Expr}{fa fb:De}{pos:Pos}
def zis:Dt->Dt->R Dt
 |.tup x,.tup y=>if x.length+y.length<=16777216 then .ok (.tup (x++y)) else .no
 |_,_=>.no
def zxa(K:W.Frag):R2:=λx y H Q=>∃ a b xs ys,x=.ref a/\y=.ref b/\SqT K H a xs/\SqT K H b ys/\xs.length+ys.length<=sizeLine /\
 (xs=[]->Q (.ref b) H)/\(xs≠[]->ys=[]->Q (.ref a) H)/\(xs≠[]->ys≠[]->∀ p,H p=none->Q (.ref p) (upd H p (.tup (xs++ys))))
theorem zsk{prog:Program}{w:World}{A:Around}{E:Value->Shared->Prop}{s:Shared}{t b:Addr}{ws:List Value}{Q:Value->Shared->Prop}(ht:IsTup s.heap t ([]:List Value).toArray)(hb:IsTup s.heap b ws.toArray)(h:Q (.ref b) s) :
  wpAny (model prog w) A (binaryOp .Add (.ref t) (.ref b)) Q E s:=by
 obtain ⟨⟨c1,d1,dt1,sl1⟩,e1,q1,n1,r1⟩:=id ht;obtain ⟨⟨c2,d2,dt2,sl2⟩,e2,q2,n2,r2⟩:=id hb;simp only at q1 r1 q2 r2;subst q1 r1 q2 r2;exact concat_meets ⟨_,e1,rfl⟩ ⟨_,e2,rfl⟩ noFill_tuple_add seq_tuple_add F.slot_tuple_add F.entry_tuple_add (F.args_tuple_add_2 _ _) (tuple_addW0 t b ([]:List Value).toArray ws.toArray n1 n2 d1 d2 sl1 sl2 rfl) ⟨e1,e2,h⟩
theorem zvp:OpR X (binaryOp .Add) (zxa X.K):=by
 intro pS s Y H x y v u Q I rx ry h;obtain ⟨a,b,xs,ys,rfl,rfl,ha,hb,hz,q0,q1,q2⟩:=h;by_cases hx:xs=[]
 ·subst hx;cases rx;cases ry;obtain ⟨its,r1,p1,_⟩:=I.tuple ha;obtain ⟨its2,r2,p2,_⟩:=I.tuple hb;obtain rfl:its=[]:=by cases r1;rfl
  exact zsk p1 p2 ⟨.ref b,H,I,rfl,q0 rfl⟩
 ·exact zvw pS s Y H _ _ v u Q I rx ry ⟨a,b,xs,ys,rfl,rfl,ha,hb,hx,hz,q1 hx,q2 hx⟩
theorem zrK:Op2 X.K (zxa X.K) zis:=λG H x y dx dy z Q sm hx hy e k=>by
 unfold zis at e;split at e
 ·rename_i l l';split at e
  ·rename_i hl;cases e;obtain ⟨a,vs,rfl,h1,h2⟩:=zb4 hx;obtain ⟨b,us,rfl,h3,h4⟩:=zb4 hy;have nil_of:∀{m:List Dt}{ws:List V},za4 X.K G m ws->ws=[]->m=[]:=λ{m ws} r z=>by have:=r.length;rw[z] at this;exact List.length_eq_zero_iff.mp this
   refine ⟨a,b,vs,us,rfl,rfl,zaK sm h1,zaK sm h3,by rw[<- h2.length,<- h4.length,zdD];exact hl,λz=>?_,λ_ z=>?_,λ_ _ p hp=>?_⟩
   ·rw[nil_of h2 z] at k;exact k _ G H (.refl sm) hy
   ·rw[nil_of h4 z,List.append_nil] at k;exact k _ G H (.refl sm) hx
   ·have gr:ze6 G H (upd G p (.tup (vs++us))) (upd H p (.tup (vs++us))):=.new sm hp;exact k _ _ _ gr (by unfold Rep;exact ⟨p,_,rfl,zjo.of zar,(h2.same gr.g).append (h4.same gr.g)⟩)
  ·cases e
 ·cases e
theorem zpG:zmw zis:=λx y n h=>by
 unfold zis at h;split at h
 ·split at h <;> cases h
 ·cases h
theorem zqh(ha:JE X C a fa)(hb:JE X C b fb):JE X C (.BinOp a .Add b pos) (dOp zis fa fb):=zin zvp zrK zpG ha hb
end
end PV
end
section
namespace PV
open PySem PySem.Spec L2
open AutoSeq1 (wpAny_loadPart')
section
variable{X:Cx}{C:Cn}{a b o e:Expr}{es:List Expr}{fa fb:De}{pos apos cpos:Pos}{name:Str}{id:String}{to:TE}{t:TA}{r:V->List V->Hp->VK->Prop}
end
section
variable{X:Cx}{C:Cn}{e1 e2:Expr}{fk fv:De}{pos ps apos:Pos}{x:Str}
theorem zou{y1 y2:V}{us:List Value}(h:zaY [y1,y2] us):∃ u1 u2,us=[u1,u2]/\zch y1 u1/\zch y2 u2:=by
 cases h with
 |cons h1 t=>cases t with
  |cons h2 t2=>cases t2;exact ⟨_,_,rfl,h1,h2⟩
end
def Ite(K:W.Frag)(a:Addr):It :=
 ⟨λi H=>∃ xs x,SqL K H a xs/\xs[i]? = some x,
   λi H v H'=>∃ p x,v=.ref p/\H p=none/\H'=upd H p (.tup [.int (i:Nat),x])/\∀ xs,SqL K H a xs->xs[i]? = some x,
   λi H=>∃ xs,SqL K H a xs/\xs.length<=i⟩
structure Ep(h:Heap)(e it l:Addr)(i:Nat):Prop where
 e:∃ old,IsEnum h e it i old
 a:h.IsListIter it l i
theorem Ep.keep{h h':Heap}{e it l:Addr}{i:Nat}(p:Ep h e it l i)(k:∀ b∈[e,it],∀ o,h.get? b=some o->h'.get? b=some o):Ep h' e it l i :=
 ⟨let ⟨old,q⟩:=p.e;⟨old,k e xws _ q⟩,p.a.at λo q=>k it xws o q⟩
theorem znB{X:Cx}{pS:List (Addr×Obj)}{Y:L2.St}{H:Hp}{s:Shared}{a b:Addr}{xs:List V}(I:L2.Inv X pS Y H s)(hf:zfm X pS H b)(hs:SqL X.K H a xs):b≠a:=by
 rintro rfl;rcases hs with (h|⟨o,h⟩)|⟨o,its,n,h,_⟩
 ·rw[hf.1] at h;cases h
 ·rw[hf.1] at h;cases h
 ·have hb:=I.mod.kin b o h;rcases hf.2.2.2.1 with z|z
  ·exact I.ok.noex b o hb z
  ·exact absurd (was (wai hb) (waN I.ok.bsz z)) (waL _)
theorem zql{P:Program}{w:World}{K:W.Frag}{elts:List Expr}{x1}{ps:Pos}{a e it:Addr}(hne:e≠it):zpy P w K (.Tuple elts x1 ps) (Ite K a) [e,it] e (λi h=>Ep h e it a i) where
 mem:=by simp
 obj:=λi h st c hc=>by
  obtain ⟨⟨old,s1⟩,⟨o4,s4,_,d4⟩⟩:=st;simp only[wap,wak,or_false] at hc;rcases hc with rfl|rfl
  ·exact ⟨_,s1,λv q=>by cases q⟩
  ·exact ⟨_,s4,λv q=>by rw[d4] at q;cases q⟩
 keep:=λi h h' st k=>st.keep k
 item:=by
  intro X hP hw hK hc i pS s Y H E I hf st hg;subst hP hw hK;obtain ⟨xs,x,q1,hx⟩:=hg;obtain ⟨its,rv,p,hz⟩:=I.list q1;obtain ⟨u,hu,ru⟩:=rv.get hx;obtain ⟨old,he⟩:=st.e;refine wpAny_pyNext_enum_item he st.a p.isList (x:=u) (by simpa using hu) hne λh' a1 a2 a3 a4 a5=>?_;refine ⟨_,rfl,wpAny_letOwnedTupleGo_enum a1 λh2 he2 sb=>?_⟩;have hel:e<s.heap.objs.size:=wai he;have hitl:it<s.heap.objs.size:=by obtain ⟨o,ho,_⟩:=st.a;exact wai ho
  have hzp:∀ c∈[e,it],c≠s.heap.objs.size:=λc hc q=>by
   simp only[wap,wak,or_false] at hc;rcases hc with rfl|rfl
   ·exact absurd (q ▸ hel) (waL _)
   ·exact absurd (q ▸ hitl) (waL _)
  have st2:Ep h2 e it a (i+1):=⟨⟨_,he2⟩,a2.extBut sb.extBut (Ne.symm hne)⟩
  have hk2:∀ c ob,c∉[e,it]->s.heap.get? c=some ob->h2.get? c=some ob:=λc ob nc q=>by simp only[wap,wak,or_false,not_or] at nc;exact sb.extBut _ _ nc.1 (a5 c ob nc.1 nc.2 q)
  have hth:∀ c ob,s.heap.get? c=some ob->∃ ob',h2.get? c=some ob':=λc ob q=>by
   by_cases nc:c∈[e,it]
   ·simp only[wap,wak,or_false] at nc;obtain ⟨⟨o1,s1⟩,⟨o4,s4,_⟩⟩:=st2;rcases nc with rfl|rfl
    ·exact ⟨_,s1⟩
    ·exact ⟨_,s4⟩
   ·exact ⟨ob,hk2 c ob nc q⟩
  have hnew:h2.get? s.heap.objs.size=some { cls:=.type "tuple",data:=.seq #[.int i s.toks,u] }:=sb.extBut _ _ (Ne.symm (hzp e xws)) a3;have IN:L2.Inv X pS Y (upd H s.heap.objs.size (.tup [.int (i:Nat),x])) { s with heap:=h2,toks:=s.toks+1 }:=zf6 (s:=s) (t':=s.toks+1) (o:=.tup [.int (i:Nat),x]) I hf hk2 (wal _) hth ⟨by show 2<=sizeLine;decide,[.int i s.toks,u],.cons ⟨_,rfl⟩ (.cons ru .nil),0,hnew⟩;exact ⟨.ref s.heap.objs.size,_,IN,rfl,
   ⟨_,x,rfl,I.hok.fresh (wal _),rfl,λzs q=>by rw[I.list_inj q q1];exact hx⟩,st2,λc hc=>by rw[zat (hzp c hc)];exact (hf c hc).1⟩
 done:=by
  intro X hP hw hK hc i pS s Y H E I hf st hg;subst hP hw hK;obtain ⟨xs,q1,hx⟩:=hg;obtain ⟨its,rv,p,hz⟩:=I.list q1;have hl:=rv.length;obtain ⟨old,he⟩:=st.e;refine wpAny_pyNext_enum_end (I.ok.hd hc) he st.a p.isList (by simp;lia) λh' hk=>⟨rfl,?_⟩
  refine zem (t':=s.toks) I hf λc ob nc q=>?_;simp only[wap,wak,or_false,not_or] at nc;exact hk c ob nc.2 q
 self:=λ_ _ _ _ _ st h=>let ⟨_,he⟩:=st.e;wpAny_pyIter_enum he h
def znZ(l:List Dt):List Dt:=(List.range l.length).zip l |>.map λz=>.tup [.int (z.1:Nat),z.2]
def zoe(fa:De):DA:=λZ=>(fa Z).bind λa=>match a.1 with
 |.lst l=>.ok (znZ l,a.2)
 |_=>.no
theorem zw2{K:W.Frag}{G:Hp}{a:Addr}{vs:List V}{ds:List Dt}(hs:G a=some (.lst vs))(q:za4 K G ds vs):zoC K (Ite K a) G (znZ ds):=λi G1 H s1 s2=>by
 have h1:SqL K H a vs:=SqL.of (s2 _ _ (s1 _ _ hs));refine ⟨λd e=>?_,λh=>⟨vs,h1,?_⟩⟩
 ·unfold znZ at e;rw[List.getElem?_map] at e;have hi:i<ds.length:=by
   by_cases hi:i<ds.length
   ·exact hi
   ·rw[List.getElem?_eq_none (by rw[List.length_zip,List.length_range];lia)] at e;cases e
  have z1:(List.range ds.length)[i]? = some i:=by simp[hi]
  have z2:ds[i]? = some ds[i]:=by simp[hi]
  obtain ⟨v,e1,e2⟩:=q.get z2;have ed:d=.tup [.int (i:Nat),ds[i]]:=by rw[(List.getElem?_zip_eq_some (z:=(i,ds[i]))).mpr ⟨z1,z2⟩] at e;exact (waA e).symm
  refine ⟨⟨vs,v,h1,e1⟩,λx H' y=>?_⟩;obtain ⟨p,x',rfl,hp,rfl,k1⟩:=y;have kx:=k1 vs h1;rw[e1] at kx;cases kx;have gr:ze6 G1 H (upd G1 p (.tup [.int (i:Nat),v])) (upd H p (.tup [.int (i:Nat),v])):=.new s2 hp;refine ⟨_,gr,?_⟩;rw[ed];unfold Rep;exact ⟨p,[.int (i:Nat),v],rfl,zjo.of zar,za4.cons (za7 _) (za4.cons ((e2.same s1).same gr.g) za4.nil)⟩
 ·rw[<- q.length];unfold znZ at h;simpa using h
section
variable{X:Cx}{C:Cn}{elts:List Expr}{x1:Nat}{pt:Pos}{a:Expr}{fa:De}{p pos:Pos}
theorem ztG(hg:Gl X "enumerate")(hm:X.mg "enumerate"=none)(ha:JE X C a fa)(hs:starEach [a] X.env=(false,eval a X.env)::starEach [] X.env:=by rfl)(hpl:(backTo pos (starEach [] X.env)).any (·.1)=false:=by rfl) :
  JI X C (.Tuple elts x1 pt) (.Call (.Name "enumerate" p) [a] [] pos) (zoe fa):=by
 intro pS s Y H R I ⟨G,w,Z,r,pp⟩;refine PyProof.Rows.Call_ (zdA I hg hm PyProof.Rows.boot_enumerate (PyProof.Rows.callWith_type1 (thn (zao ha za2 hs pos pS s Y H (λvs H1=>∃(l1:Addr)(xs:List V),vs=[.ref l1]/\SqL X.K H1 l1 xs/\R (Ite X.K l1) H1) I ?_) λus s1 ⟨vs,H1,I1,r1,q1⟩=>?_) hs hpl))
 ·refine ⟨G,w,Z,r,?_⟩;unfold zoe at pp;unfold dA dA0;cases e:fa Z with
  |ok x =>
   obtain ⟨d,Z1⟩:=x;rw[e] at pp;simp only[PV.R.bind_ok] at pp ⊢;intro vs G1 H1 w1 s1 r1 q;obtain ⟨v,rfl,k1⟩:=zfM q;cases d with
   |lst l =>
    obtain ⟨a1,xs,rfl,m1,m2⟩:=zaR k1;exact ⟨a1,xs,rfl,SqL.of (r1.gh _ _ m1),pp _ G1 H1 w1 s1 r1 (zw2 m1 m2)⟩
   |_=>exact waO pp
  |er n=>rw[e] at pp;exact pp
  |no=>rw[e] at pp;exact pp
 ·obtain ⟨l1,xs,rfl,k1,q⟩:=q1;obtain ⟨u1,rfl,c1⟩:=zfv r1;cases c1;obtain ⟨its,rv,p1,_⟩:=I1.list k1;refine call_enumerate_list p1.isList λh' he hit hz hk=>?_;refine wpAny_pyIter_enum he ?_;refine ⟨s1.heap.objs.size+1,[s1.heap.objs.size+1,s1.heap.objs.size],_,_,H1,rfl,I1.kept (t':=s1.toks) hk,zql (by intro h;have h:(s1.heap.objs.size+1:Nat)=s1.heap.objs.size:=h;lia),⟨⟨_,he⟩,hit⟩,λc hc=>?_,q⟩;have hle:s1.heap.objs.size<=c:=by
   simp only[wap,wak,or_false] at hc;rcases hc with rfl|rfl
   ·exact waT ..
   ·exact wal _
  exact I1.fpOk hle (I1.hok.fresh hle)
end
end PV
end
section
namespace PV
open PySem PySem.Spec L2 PyProof.Rows
section
variable{X:Cx}{C:Cn}{a b:Expr}{fa fb:De}{pos:Pos}
end
section
variable{prog:Program}{w:World}{A:Around}{E:Value->Shared->Prop}{s:Shared}
theorem zfu{t sl:Addr}{items:Array Value}{vl vu:Value}{lo hi:Option Int}{Q:Value->Shared->Prop}(ht:IsTup s.heap t items)(hs:s.heap.IsSliceOf sl vl vu .none)(pl:IsPart vl lo)(pu:IsPart vu hi)
  (hw:HT.sIx items.size 0 lo=0/\HT.sIx items.size items.size hi=items.size) (h:Q (.ref t) s):wpAny (model prog w) A (getItem (.ref t) (.ref sl)) Q E s:=by
 obtain ⟨os,hos,hcs,hds⟩:=id hs;have hTs:s.TypeIs (.ref sl) "slice":=⟨os,hos,hcs⟩
 unfold getItem
 try with_reducible refine wpAny_holding ?_
 first|refine wab (wad ?_)|skip
 refine wab (wpAny_sequenceKey ht.typeIs xwd ?_);refine wab (wpAny_callSpecial?_slot (name:=Str.ofString "__getitem__") ht.typeIs PyProof.Rows.slot_tuple_getitem
  (wpAny_call_entry PyProof.Rows.slot_tuple_getitem ht.typeIs entry_tuple_getitem ?_ (args_tuple_getitem _ _)))
 show wpAny _ _ (Builtin.Tuple.tupleItemsOf (.ref t) >>= _) _ _ s;refine wab (tupleItemsOf_ ht ?_);refine wab (wpAny_typeOf hTs ?_);rw[if_pos xwd];refine wab (HT.sliceApplied_gen hs pl pu ?_);have hyes:(((HT.sIx items.size 0 lo:Nat):Int) == 0 && (1:Int) == 1 && (HT.sIx items.size items.size hi-HT.sIx items.size 0 lo) == items.size)=true:=by rw[hw.1,hw.2];simp
 show wpAny _ _ (if (((HT.sIx items.size 0 lo:Nat):Int) == 0 && (1:Int) == 1 && (HT.sIx items.size items.size hi-HT.sIx items.size 0 lo) == items.size)=true then _ else _) _ _ s;rw[if_pos hyes];refine wab ?_;unfold Builtin.Tuple.tupleIsExact;refine wab (wpAny_typeOf ht.typeIs (wad ?_));rw[if_pos xwd];refine wab (wpAny_rule ?_);exact wad ⟨_,rfl,wad h⟩
end
section
variable{X:Cx}{C:Cn}{a b e:Expr}{fa fb:De}{pos:Pos}
def rSlW(K:W.Frag):V->Option Int->Option Int->Hp->VK->Prop:=λx lo hi H Q=>∃ a xs,x=.ref a/\SqT K H a xs /\
 (HT.sIx xs.length 0 lo=0/\HT.sIx xs.length xs.length hi=xs.length)/\Q (.ref a) H
theorem zsb:SlR X (rSlW X.K):=by
 intro pS s Y H x v vl vu lo hi sl Q I rx hs pl pu h;obtain ⟨a,xs,rfl,hx,hw,q⟩:=h;cases rx;obtain ⟨its,r,ht,hz⟩:=I.tuple hx;have hlen:its.toArray.size=xs.length:=by rw[List.size_toArray];exact r.length.symm
 refine ⟨"tuple",_,PyProof.Rows.slot_tuple_getitem.lookup,ht.typeIs,?_⟩;exact zfu ht hs pl pu (by rw[hlen];exact hw) ⟨.ref a,H,I,rfl,q⟩
def zgu(fa:De)(fl fh:DO):De:=λZ=>(fa Z).bind λa=>(fl a.2).bind λl=>(fh l.2).bind λh=>match a.1 with
 |.tup ds=>.ok (.tup (zih ds l.1 h.1),h.2)
 |_=>.no
theorem zm9{lo hi:Option Expr}{fl fh:DO}{p2:Pos}(ha:JE X C a fa)(hl:JO X C lo fl)(hh:JO X C hi fh):JE X C (.Subscript a (.Slice lo hi none p2) pos) (zgu fa fl fh) :=
 PE.weak (znD (zwz.or zsb) ha hl hh) λY H Q ⟨G,w,Z,r,p⟩=>by
  refine ze4 (κ:=λG H w=>kE X.K C Y Q G H w) zcr r p λd Z1 v G1 H1 w1 r1 s1 q1 p1=>?_;refine zxD (κ:=λG H w=>kE X.K C Y Q G H w) zcr r1 p1 λl Z2 G2 H2 w2 r2 s2 p2=>?_;refine zxD (κ:=λG H w=>kE X.K C Y Q G H w) zcr r2 p2 λh Z3 G3 H3 w3 r3 s3 p3=>?_;cases d with
  |tup ds =>
   have q3:=q1.same (s2.g.trans s3.g);obtain ⟨ad,vs,rfl,h1,h2⟩:=zeX q3;dsimp only at p3;by_cases hw:HT.sIx ds.length 0 l=0/\HT.sIx ds.length ds.length h=ds.length
   ·refine .inr ⟨ad,vs,rfl,zaK r3.gh h1.sq,by rw[<- h2.length];exact hw,?_⟩;have e:zih ds l h=ds:=by unfold zih;rw[hw.1,hw.2,List.drop_zero,Nat.sub_zero,List.take_length]
    rw[e] at p3;exact p3 _ G3 H3 w3 (.refl _ _ _) r3 q3
   ·have fin:∀ p,H3 p=none->Q (.ref p) (upd H3 p (.tup (zoG vs l h))):=λp hp=>by have gr:ze6 G3 H3 (upd G3 p (.tup (zoG vs l h))) (upd H3 p (.tup (zoG vs l h))):=.new r3.gh hp;exact p3 _ _ _ w3 gr.step (r3.grow gr) (by unfold Rep;exact ⟨p,_,rfl,zjo.of zar,(zn5 h2 l h).same gr.g⟩)
    exact .inl ⟨ad,vs,rfl,zaK r3.gh h1.sq,by rw[<- h2.length];exact hw,fin⟩
  |_=>exact p3.elim
end
section
variable{prog:Program}{w:World}{A:Around}{E:Value->Shared->Prop}{s:Shared}
theorem zmj{l:Addr}{vs:List Value}{Q:List Value->Shared->Prop}(hl:s.heap.IsTuple l vs.toArray)
  (h:Q vs { s with heap:=(s.heap.push (seqObj "list" #[] 0)).update s.heap.objs.size (Obj.mapSeq (·++vs.toArray)) }) (hsz:vs.length<=sizeLine) :
  wpAny (model prog w) A (collect (.ref l)) Q E s:=by
 obtain ⟨o,ho,hc,n,hd⟩:=id hl;unfold collect;refine wab (wpAny_runValue (codeAny_builtin entry_proto_collect' ?_));show wpAny _ _ (do again (.builtin "list.__iadd__" ⟨[<- newList [],.ref l],[]⟩)) _ _ s;refine wab (wpAny_newList (wad ⟨Code.quiet_builtin _ xwD,codeAny_builtin entry_list_iadd' ?_⟩));show wpAny _ _ (Builtin.List.listExtendWith (.ref s.heap.objs.size) (.ref l) (.ref s.heap.objs.size)) _ _ { s with heap:=s.heap.push (seqObj "list" #[] 0) };unfold Builtin.List.listExtendWith;have ho':(s.heap.push (seqObj "list" #[] 0)).get? l=some o:=waa _ ho;refine wab (wpAny_typeOf (T:="tuple") ⟨o,ho',hc⟩ ?_);have ht:(Value.type "tuple" == Value.type "tuple")=true:=by rfl
 rw[if_pos (by rw[ht];simp)];refine wab (listItems_at ho' hd ?_);refine wab (listItems_at (xs:=#[]) (n:=0) (waj _ rfl) rfl ?_);rw[if_neg xws];refine wab (listUpdate_at (xs:=#[]) (n:=0) (waj _ rfl) rfl ?_ (Nat.zero_le _) (by show (#[]++vs.toArray).size<=sizeLine+1;simp only[Array.size_append,waf,List.length_nil];lia));refine wad ?_;show wpAny (model prog w) A (do
   let o <- load s.heap.objs.size
   match o.data with
   |.seq xs _=>pure xs.toList
   |_=>unsupported "internal:collect") Q E { s with heap:=(s.heap.push (seqObj "list" #[] 0)).update s.heap.objs.size (Obj.mapSeq (·++vs.toArray)) }
 refine wab (wpAny_load (get?_update_seq (waj _ rfl) _) ?_);show wpAny _ _ (pure ((#[]:Array Value)++vs.toArray).toList) Q E _;rw[show ((#[]:Array Value)++vs.toArray).toList=vs by simp];exact wad h
theorem zlk{l:Addr}{vs:List Value}{ns:List Int}{Q:Value->Shared->Prop}(hl:s.heap.IsTuple l vs.toArray)(hI:IntsAre vs ns)(h64:vs.length<64)
  (h:∀(out:Array Value)(ns':List Int),IntsAre out.toList ns'->ns'.Perm ns->ns'.Pairwise (· <= ·)->Q (.ref (s.heap.objs.size+1)) { s with heap:=sortedAll s.heap vs out }) :
  wpAny (model prog w) A (call (.builtin "sorted") [.ref l]) Q E s:=by
 refine Calls.call_function_entry kind_sorted plain_sorted entry_sorted (args_sorted1 _) ?_;unfold Builtin.«sorted»;refine wab (m:=checkCount "sorted" 1 1 _) (wad ?_);refine wab (zmj hl ?_ (by rw[zdD];lia));refine wab (wpAny_newList ?_);have hsz:((s.heap.push (seqObj "list" #[] 0)).update s.heap.objs.size (Obj.mapSeq (·++vs.toArray))).objs.size=s.heap.objs.size+1:=by rw[Heap.size_update,size_push']
 have hoL:(((s.heap.push (seqObj "list" #[] 0)).update s.heap.objs.size (Obj.mapSeq (·++vs.toArray))).push (seqObj "list" vs.toArray 0)).get? (s.heap.objs.size+1)=some (seqObj "list" vs.toArray 0):=by rw[<- hsz];exact waj _ rfl
 show wpAny _ _ _ _ _ { s with heap:=((s.heap.push (seqObj "list" #[] 0)).update s.heap.objs.size (Obj.mapSeq (·++vs.toArray))).push (seqObj "list" vs.toArray 0) };rw[hsz];refine wab (wpAny_holding (wpAny_call_entry slot_list_sort ⟨_,hoL,rfl⟩ entry_list_sort (list_sort_tree hoL hI h64 λout ns' a1 a2 a3=>⟨_,rfl,?_⟩) (args_list_sort _)));exact wad ⟨_,rfl,h out ns' a1 a2 a3⟩
end
section
variable{X:Cx}{C:Cn}{a b e:Expr}{fa fb:De}{pos:Pos}
theorem zos:zdl X (.builtin "sorted") (λxs H Q=>∃(p:Addr)(ns:List Int),xs=[.ref p]/\SqT X.K H p (ns.map V.int)/\ns.length<64/\∀ l,H l=none->Q (.ref l) (upd H l (.lst ((zbd ns).map V.int)))):=by
 intro pS s Y H xs us Q I r h;obtain ⟨p,ns,rfl,hq,hl,q⟩:=h;obtain ⟨u,rfl,ru⟩:=zfv r;cases ru;obtain ⟨its,rv,pl,hz⟩:=I.tuple hq;have hlen:its.length=ns.length:=by rw[<- rv.length];simp
 refine zlk (show s.heap.IsTuple p its.toArray from pl) (PV.intsAre_of rv) xwl λout ns' a1 a2 a3=>?_;have e:ns'=zbd ns:=W.lks_uniq (a2.trans (zaO ns).symm) a3 (zdG ns);subst e;obtain ⟨c,hc⟩:=PyProof.Rows.sortedAll_at s.heap its out;refine ⟨.ref (s.heap.objs.size+1),_,I.laid (t':=s.toks) (λb o=>PyProof.Rows.sortedAll_old) (Nat.le_succ _) (o:=.lst ((zbd ns).map V.int)) ⟨?_,out.toList,c,PV.vals_ints a1,?_⟩,rfl,q _ (I.hok.fresh (Nat.le_succ _))⟩
 ·rw[List.length_map,(zaO ns).length_eq,zdD];lia
 ·simpa using hc
def zd9:List Dt->R (List Dt)
 |[.tup l]=>match zii l with
  |some ns=>if ns.length<64 then .ok ((zbd ns).map .int) else .no
  |none=>.no
 |_=>.no
theorem zs8{K:W.Frag}:FnN K (λxs H Q=>∃(p:Addr)(ns:List Int),xs=[.ref p]/\SqT K H p (ns.map V.int)/\ns.length<64/\∀ l,H l=none->Q (.ref l) (upd H l (.lst ((zbd ns).map V.int)))) zd9:=λG H vs ds z Q gh hr e k=>by
 unfold zd9 at e;split at e
 ·split at e
  ·rename_i ns en;split at e
   ·rename_i hl;obtain ⟨v,rfl,h1⟩:=zfM hr;obtain ⟨a,us,rfl,h2,h3⟩:=zeX h1;cases e;rw[zkh h3 en] at h2;exact ⟨a,ns,rfl,zaK gh h2.sq,hl,λl hl=>k l _ hl (zht _)⟩
   ·cases e
  ·cases e
 ·cases e
theorem zs3:zlY zd9:=λx n h=>by
 unfold zd9 at h;split at h
 ·split at h
  ·split at h <;> cases h
  ·cases h
 ·cases h
theorem zrU{x:Expr}{p:Pos}(hg:Gl X "sorted")(hm:X.mg "sorted"=none)(ha:JE X C x fa)(hs:starEach [x] X.env=(false,eval x X.env)::starEach [] X.env:=by rfl)(hpl:(backTo pos (starEach [] X.env)).any (·.1)=false:=by rfl) :
  JN X C (.Call (.Name "sorted" p) [x] [] pos) (ze3 zd9 (dA fa dA0)) :=
 zjv zs8 zs3 zos hg hm PyProof.Rows.boot_sorted (zao ha za2 hs) xwd xwd hs hpl
end
end PV
end
section
namespace PV
open PySem PySem.Spec L2
structure ZpL(h:Heap)(z TI TO i1 i2 l1 l2:Addr)(f0:Value)(k:Nat):Prop where
 z:IsZip h z TI TO f0
 ti:IsPair h TI (.ref i1) (.ref i2)
 to:∃ a b,IsPair h TO a b
 a1:h.IsListIter i1 l1 k
 a2:h.IsListIter i2 l2 k
theorem ZpL.keep{h h':Heap}{z TI TO i1 i2 l1 l2:Addr}{f0:Value}{k:Nat}(p:ZpL h z TI TO i1 i2 l1 l2 f0 k)(e:∀ b∈[z,TI,TO,i1,i2],∀ o,h.get? b=some o->h'.get? b=some o):ZpL h' z TI TO i1 i2 l1 l2 f0 k :=
 ⟨e z xws _ p.z,e TI xws _ p.ti,let ⟨a,b,q⟩:=p.to;⟨a,b,e TO xws _ q⟩,p.a1.at λo q=>e i1 xws o q,p.a2.at λo q=>e i2 xws o q⟩
theorem zgi{z TI TO i1 i2 l1 l2:Addr}(D:ZpD z TI TO i1 i2)(n1:∀ b∈[z,TI,TO,i1,i2],b≠l1)(n2:∀ b∈[z,TI,TO,i1,i2],b≠l2):ZipApart z TI TO i1 i2 l1 l2 :=
 ⟨D.d1,D.d2,D.d3,D.d4,D.d5,D.d6,D.d7,D.d8,D.d9,D.d0,(n1 z xws).symm,(n1 TO xws).symm,(n1 i1 xws).symm,(n1 i2 xws).symm,(n2 z xws).symm,(n2 TO xws).symm,(n2 i1 xws).symm,(n2 i2 xws).symm⟩
def Itl(K:W.Frag)(a b:Addr):It :=
 ⟨λi H=>∃ xs ys x y,SqL K H a xs/\SqL K H b ys/\xs[i]? = some x/\ys[i]? = some y,
   λi H v H'=>∃ p x y,v=.ref p/\H p=none/\H'=upd H p (.tup [x,y])/\(∀ xs,SqL K H a xs->xs[i]? = some x)/\∀ ys,SqL K H b ys->ys[i]? = some y,
   λi H=>∃ xs ys,SqL K H a xs/\SqL K H b ys/\xs.length<=i⟩
theorem zpY{P:Program}{w:World}{K:W.Frag}{elts:List Expr}{x1}{ps:Pos}{a b z TI TO i1 i2:Addr}(D:ZpD z TI TO i1 i2):zpy P w K (.Tuple elts x1 ps) (Itl K a b) [z,TI,TO,i1,i2] z (λi h=>ZpL h z TI TO i1 i2 a b .none i) where
 mem:=by simp
 obj:=λi h st c hc=>by
  obtain ⟨s1,s2,⟨oa,ob,s3⟩,⟨o4,s4,_,d4⟩,⟨o5,s5,_,d5⟩⟩:=st;simp only[wap,wak,or_false] at hc;rcases hc with rfl|rfl|rfl|rfl|rfl
  ·exact ⟨_,s1,λv q=>by cases q⟩
  ·exact ⟨_,s2,λv q=>by cases q⟩
  ·exact ⟨_,s3,λv q=>by cases q⟩
  ·exact ⟨_,s4,λv q=>by rw[d4] at q;cases q⟩
  ·exact ⟨_,s5,λv q=>by rw[d5] at q;cases q⟩
 keep:=λi h h' st k=>st.keep k
 item:=by
  intro X hP hw hK hc i pS s Y H E I hf st hg;subst hP hw hK;obtain ⟨xs,ys,x,y,q1,q2,hx,hy⟩:=hg;obtain ⟨its,rv,p,hz⟩:=I.list q1;obtain ⟨jts,rw',p',hz'⟩:=I.list q2;obtain ⟨u,hu,ru⟩:=rv.get hx;obtain ⟨v,hv,rv'⟩:=rw'.get hy;obtain ⟨oa0,ob0,hto⟩:=st.to;have AP:=zgi D (λc hc=>znB I (hf c hc) q1) (λc hc=>znB I (hf c hc) q2);refine wpAny_pyNext_zip_item (x:=u) (y:=v) AP st.z st.ti hto st.a1 st.a2 p.isList p'.isList (by simpa using hu) (by simpa using hv) λh' b1 b2 b3 b4 ht b6 hk=>?_;refine ⟨_,rfl,wpAny_letOwnedTupleGo_zip b1 λh2 hz2 sb=>?_⟩;have hzp:∀ c∈[z,TI,TO,i1,i2],c≠s.heap.objs.size:=λc hc q=>by
   obtain ⟨s1,s2,⟨oa,ob,s3⟩,⟨o4,s4,_⟩,⟨o5,s5,_⟩⟩:=st;simp only[wap,wak,or_false] at hc;subst q;rcases hc with rfl|rfl|rfl|rfl|rfl
   ·exact absurd (wai s1) (waL _)
   ·exact absurd (wai s2) (waL _)
   ·exact absurd (wai s3) (waL _)
   ·exact absurd (wai s4) (waL _)
   ·exact absurd (wai s5) (waL _)
  have st2:ZpL h2 z TI TO i1 i2 a b .none (i+1) :=
   ⟨hz2,sb.extBut _ _ D.d1 (hk TI _ D.d1 D.d5 D.d6 D.d7 st.ti),⟨_,_,sb.extBut _ _ D.d2 b2⟩,b3.extBut sb.extBut D.d3,b4.extBut sb.extBut D.d4⟩
  have hk2:∀ c ob,c∉[z,TI,TO,i1,i2]->s.heap.get? c=some ob->h2.get? c=some ob:=λc ob nc e=>by simp only[wap,wak,or_false,not_or] at nc;exact sb.extBut _ _ nc.1 (hk c ob nc.1 nc.2.2.1 nc.2.2.2.1 nc.2.2.2.2 e)
  have hth:∀ c ob,s.heap.get? c=some ob->∃ ob',h2.get? c=some ob':=λc ob e=>by
   by_cases nc:c∈[z,TI,TO,i1,i2]
   ·obtain ⟨s1,s2,⟨oa,ob,s3⟩,⟨o4,s4,_⟩,⟨o5,s5,_⟩⟩:=st2;simp only[wap,wak,or_false] at nc;rcases nc with rfl|rfl|rfl|rfl|rfl
    ·exact ⟨_,s1⟩
    ·exact ⟨_,s2⟩
    ·exact ⟨_,s3⟩
    ·exact ⟨_,s4⟩
    ·exact ⟨_,s5⟩
   ·exact ⟨ob,hk2 c ob nc e⟩
  have hnew:h2.get? s.heap.objs.size=some { cls:=.type "tuple",data:=.seq #[u,v] }:=sb.extBut _ _ (Ne.symm (hzp z xws)) ht;have IN:L2.Inv X pS Y (upd H s.heap.objs.size (.tup [x,y])) { s with heap:=h2 }:=zf6 (s:=s) (t':=s.toks) (o:=.tup [x,y]) I hf hk2 (wal _) hth ⟨by show 2<=sizeLine;decide,[u,v],.cons ru (.cons rv' .nil),0,hnew⟩;exact ⟨.ref s.heap.objs.size,_,IN,rfl,
   ⟨_,x,y,rfl,I.hok.fresh (wal _),rfl,λzs q=>by rw[I.list_inj q q1];exact hx,λzs q=>by rw[I.list_inj q q2];exact hy⟩,st2,λc hc=>by rw[zat (hzp c hc)];exact (hf c hc).1⟩
 done:=by
  intro X hP hw hK hc i pS s Y H E I hf st hg;subst hP hw hK;obtain ⟨xs,ys,q1,q2,hx⟩:=hg;obtain ⟨its,rv,p,hz⟩:=I.list q1;obtain ⟨jts,rw',p',hz'⟩:=I.list q2;have hl:=rv.length;obtain ⟨oa0,ob0,hto⟩:=st.to;have AP:=zgi D (λc hc=>znB I (hf c hc) q1) (λc hc=>znB I (hf c hc) q2);refine wpAny_pyNext_zip_end (I.ok.hd hc) AP st.z st.ti hto st.a1 st.a2 p.isList p'.isList (.inl (by simp;lia)) λh' hk=>⟨rfl,?_⟩
  refine zem (t':=s.toks) I hf λc ob nc e=>?_;simp only[wap,wak,or_false,not_or] at nc;exact hk c ob nc.1 nc.2.2.1 nc.2.2.2.1 nc.2.2.2.2 e
 self:=λ_ _ _ _ _ st h=>wpAny_pyIter_zip st.z h
theorem zxr{K:W.Frag}{G:Hp}{a b:Addr}{vs us:List V}{ds es:List Dt}(hs:G a=some (.lst vs))(ht:G b=some (.lst us))(q:za4 K G ds vs)(q':za4 K G es us)(hl:ds.length=es.length):zoC K (Itl K a b) G ((ds.zip es).map λz=>.tup [z.1,z.2]):=λi G1 H s1 s2=>by
 have h1:SqL K H a vs:=SqL.of (s2 _ _ (s1 _ _ hs));have h2:SqL K H b us:=SqL.of (s2 _ _ (s1 _ _ ht));refine ⟨λd e=>?_,λh=>⟨vs,us,h1,h2,?_⟩⟩
 ·rw[List.getElem?_map] at e;have hi:i<ds.length:=by
   by_cases hi:i<ds.length
   ·exact hi
   ·rw[List.getElem?_eq_none (by rw[List.length_zip];lia)] at e;cases e
  have z1:ds[i]? = some ds[i]:=by simp[hi]
  have z2:es[i]? = some (es[i]'xwl):=by simp[show i<es.length by lia]
  obtain ⟨v,e1,e2⟩:=q.get z1;obtain ⟨u,e3,e4⟩:=q'.get z2;have ed:d=.tup [ds[i],es[i]'xwl]:=by rw[(List.getElem?_zip_eq_some (z:=(ds[i],es[i]'xwl))).mpr ⟨z1,z2⟩] at e;exact (waA e).symm
  refine ⟨⟨vs,us,v,u,h1,h2,e1,e3⟩,λx H' y=>?_⟩;obtain ⟨p,x',y',rfl,hp,rfl,k1,k2⟩:=y;have kx:=k1 vs h1;have ky:=k2 us h2;rw[e1] at kx;rw[e3] at ky;cases kx;cases ky;have gr:ze6 G1 H (upd G1 p (.tup [v,u])) (upd H p (.tup [v,u])):=.new s2 hp;refine ⟨_,gr,?_⟩;rw[ed];unfold Rep;exact ⟨p,[v,u],rfl,zjo.of zar,za4.cons ((e2.same s1).same gr.g) (za4.cons ((e4.same s1).same gr.g) za4.nil)⟩
 ·rw[<- q.length];simpa [hl] using h
def zmp(fa fb:De):DA:=λZ=>(fa Z).bind λa=>(fb a.2).bind λb=>match a.1,b.1 with
 |.tup l,.tup r=>if l.length=r.length then .ok ((l.zip r).map λz=>.tup [z.1,z.2],b.2) else .no
 |.lst l,.lst r=>if l.length=r.length then .ok ((l.zip r).map λz=>.tup [z.1,z.2],b.2) else .no
 |_,_=>.no
section
variable{X:Cx}{C:Cn}{elts:List Expr}{x1:Nat}{pt:Pos}{a b:Expr}{fa fb:De}{p pos:Pos}
theorem zu7(hg:Gl X "zip")(hm:X.mg "zip"=none)(ha:JE X C a fa)(hb:JE X C b fb)(hs:starEach [a,b] X.env=(false,eval a X.env)::starEach [b] X.env:=by rfl)(hs2:starEach [b] X.env=(false,eval b X.env)::starEach [] X.env:=by rfl)(hpl:(backTo pos (starEach [b] X.env)).any (·.1)=false:=by rfl) :
  JI X C (.Tuple elts x1 pt) (.Call (.Name "zip" p) [a,b] [] pos) (zmp fa fb):=by
 intro pS s Y H R I ⟨G,w,Z,r,pp⟩;refine PyProof.Rows.Call_ (zdA I hg hm PyProof.Rows.boot_zip (PyProof.Rows.callWith_type1 (thn (zao ha (zao hb za2 hs2) hs pos pS s Y H (λvs H1=>∃(l1 l2:Addr)(xs ys:List V),vs=[.ref l1,.ref l2]/\((SqT X.K H1 l1 xs/\SqT X.K H1 l2 ys/\R (Itz X.K l1 l2) H1)\/(SqL X.K H1 l1 xs/\SqL X.K H1 l2 ys/\R (Itl X.K l1 l2) H1))) I ?_) λus s1 ⟨vs,H1,I1,r1,q1⟩=>?_) hs hpl))
 ·refine ⟨G,w,Z,r,?_⟩;unfold zmp at pp;unfold dA dA0;cases e:fa Z with
  |ok x =>
   obtain ⟨d,Z1⟩:=x;rw[e] at pp;simp only[PV.R.bind_ok] at pp ⊢;cases e2:fb Z1 with
   |ok y =>
    obtain ⟨d2,Z2⟩:=y;rw[e2] at pp;simp only[PV.R.bind_ok] at pp ⊢;intro vs G1 H1 w1 s1 r1 q;obtain ⟨v,u,rfl,k1,k2⟩:=zuX q;cases d with
    |tup l =>
     cases d2 with
     |tup l' =>
      dsimp only at pp;by_cases hl:l.length=l'.length
      ·rw[if_pos hl] at pp;obtain ⟨a1,xs,rfl,m1,m2⟩:=zb4 k1;obtain ⟨a2,ys,rfl,m3,m4⟩:=zb4 k2;exact ⟨a1,a2,xs,ys,rfl,.inl ⟨zaK r1.gh m1,zaK r1.gh m3,pp _ G1 H1 w1 s1 r1 (zwA m1 m3 m2 m4 hl)⟩⟩
      ·rw[if_neg hl] at pp;exact pp.elim
     |_=>exact waO pp
    |lst l =>
     cases d2 with
     |lst l' =>
      dsimp only at pp;by_cases hl:l.length=l'.length
      ·rw[if_pos hl] at pp;obtain ⟨a1,xs,rfl,m1,m2⟩:=zaR k1;obtain ⟨a2,ys,rfl,m3,m4⟩:=zaR k2;exact ⟨a1,a2,xs,ys,rfl,.inr ⟨SqL.of (r1.gh _ _ m1),SqL.of (r1.gh _ _ m3),pp _ G1 H1 w1 s1 r1 (zxr m1 m3 m2 m4 hl)⟩⟩
      ·rw[if_neg hl] at pp;exact pp.elim
     |_=>exact waO pp
    |_=>exact waO pp
   |er n=>rw[e2] at pp;exact pp
   |no=>rw[e2] at pp;exact pp
  |er n=>rw[e] at pp;exact pp
  |no=>rw[e] at pp;exact pp
 ·obtain ⟨l1,l2,xs,ys,rfl,q⟩:=q1;obtain ⟨u1,u2,rfl,c1,c2⟩ : ∃ u1 u2,us=[u1,u2]/\zch (.ref l1) u1/\zch (.ref l2) u2:=by
   cases r1 with
   |cons h1 t=>cases t with
    |cons h2 t2=>cases t2;exact ⟨_,_,rfl,h1,h2⟩
  cases c1;cases c2;have D:ZpD (s1.heap.objs.size+4) (s1.heap.objs.size+2) (s1.heap.objs.size+3) s1.heap.objs.size (s1.heap.objs.size+1):=zxo _;have hfp:∀ c∈[s1.heap.objs.size+4,s1.heap.objs.size+2,s1.heap.objs.size+3,s1.heap.objs.size,s1.heap.objs.size+1],zfm X pS H1 c:=λc hc=>by
   have hle:s1.heap.objs.size<=c:=by
    simp only[wap,wak,or_false] at hc;rcases hc with rfl|rfl|rfl|rfl|rfl
    ·exact waT ..
    ·exact waT ..
    ·exact waT ..
    ·exact wal _
    ·exact waT ..
   exact I1.fpOk hle (I1.hok.fresh hle)
  rcases q with ⟨k1,k2,q⟩|⟨k1,k2,q⟩
  ·obtain ⟨its,rv,p1,_⟩:=I1.tuple k1;obtain ⟨jts,rw',p2,_⟩:=I1.tuple k2;refine zuh (show s1.heap.IsTuple l1 its.toArray from p1) (show s1.heap.IsTuple l2 jts.toArray from p2) λh' zp hk=>?_;refine wpAny_pyIter_zip zp.z ?_;exact ⟨s1.heap.objs.size+4,[s1.heap.objs.size+4,s1.heap.objs.size+2,s1.heap.objs.size+3,s1.heap.objs.size,s1.heap.objs.size+1],_,_,H1,rfl,I1.kept (t':=s1.toks) hk,zsu D,zp,hfp,q⟩
  ·obtain ⟨its,rv,p1,_⟩:=I1.list k1;obtain ⟨jts,rw',p2,_⟩:=I1.list k2;refine call_zip_2 p1.isList p2.isList λh' b1 b2 b3 b4 b5 b6 hk=>?_;refine wpAny_pyIter_zip b1 ?_;exact ⟨s1.heap.objs.size+4,[s1.heap.objs.size+4,s1.heap.objs.size+2,s1.heap.objs.size+3,s1.heap.objs.size,s1.heap.objs.size+1],_,_,H1,rfl,I1.kept (t':=s1.toks) hk,zpY D,⟨b1,b2,⟨_,_,b3⟩,b4,b5⟩,hfp,q⟩
end
end PV
end
section
end
section
end
section
namespace PV
open PySem PySem.Spec L2 PyProof.Rows
def zjf(i:Nat)(fb:De)(F:FD):De:=λZ=>match Z[i]? with
 |some (some (.own _))=>(fb Z).bind λb=>match b.2[i]? with
  |some (some (.own l))=>match F [.val (.lst l),.val b.1] with
   |.ok (.bl c,_)=>.ok (.bl c,b.2)
   |_=>.no
  |_=>.no
 |_=>.no
section
variable{X:Cx}{C:Cn}{CX:CXT}{k k':Nat}{ks:List Bool}{Fd:FD}{x a:Str}{eb:Expr}{fb:De}{p pos pa:Pos}
theorem zrl(i:Nat)(D:Dfn false X.prog X.w X.K X.mg X.base CX C.xv k x ks Fd)(hr:zfK k' X.A)(hk:k<=k')(hx:ze1 CX X (EXc C))(hb:JE X C eb fb)(hN:X.N[i]? = some a:=by rfl)
  (hv:Vis X.env.scope a:=by exact xwV)
  (d1:(a == ("__debug__" : Str))=false:=by decide) (d2:(a == ("__classdict__" : Str))=false:=by decide)
  (hg:Gl X x:=by rfl) (hdb:(x == ("__debug__" : Str))=false:=by decide) (he:starEach [.Name a pa,eb] X.env=(false,eval (.Name a pa) X.env)::starEach [eb] X.env:=by rfl) (he2:starEach [eb] X.env=(false,eval eb X.env)::starEach [] X.env:=by rfl)
  (hpl:(backTo pos (starEach [eb] X.env)).any (·.1)=false:=by rfl):JE X C (.Call (.Name x p) [.Name a pa,eb] [] pos) (zjf i fb Fd):=by
 obtain ⟨f,fd,ps,h1,h2,h3,h4,h5⟩:=D.ex;refine PE.weak (zjn h1 (hr.mono hk) hg h2 h3 h4 .nil hx (zbj (zdk (i:=i) hN hv d1 d2) (zbj hb zcY he2) he) hdb he hpl) λY H Q ⟨G,w,Z,r,q⟩=>?_;unfold zjf at q;split at q
 case h_2=>exact q.elim
 rename_i l0 ei0;obtain ⟨al,vs0,e1,_,_,_⟩:=zcK r ei0;refine ⟨.ref al,e1,?_⟩;refine ze4 (κ:=λG H w=>kE X.K C Y Q G H w) zcr r q λd Z1 v G1 H1 w1 r1 s1 q1 p1=>?_;dsimp only at p1;split at p1
 case h_2=>exact p1.elim
 rename_i l ei;obtain ⟨al',vs,e1',e2,e3,e4⟩:=zcK r1 ei;rw[e1] at e1';cases e1';have hgl:G1 al=none:=r1.wg al (by rw[e2];simp);have sg:zd8 G1 (upd G1 al (.lst vs)):=λb u e=>by rw[zat (zas e hgl)];exact e
 split at p1
 case h_2=>exact p1.elim
 rename_i bb bs' eF;have hks:zdo [.val (.lst l),.val d]=ks:=h5 _ (by rw[eF];exact λz=>by cases z);refine ⟨upd G1 al (.lst vs),λ_=>none,[.val (.lst l),.val d],by rw[<- hks];rfl,hks,⟨λb u e=>?_,λb e=>absurd rfl e,λb e=>absurd rfl e,rfl,λjj bz vz g1 g2=>?_⟩,?_⟩
 ·by_cases hb:b=al
  ·subst hb;rw[zar] at e;cases e;exact e3
  ·rw[zat hb] at e;exact r1.gh b u e
 ·match jj with
  |0 =>
   cases g1;cases g2;show Rep X.K _ (.lst l) (.ref al);unfold Rep;exact ⟨al,vs,rfl,zar,e4.same sg⟩
  |1 =>
   cases g1;cases g2;exact Rep.same sg q1
  |n+2=>simp at g1
 ·rw[eF];intro v' G' H' w' s' pb rt;have ev:v'=.bl bb:=zet (K:=X.K) (G:=G') rt;subst ev;have st:zbA G1 H1 w1 G1 H' w1:=⟨.refl _,λb u e=>.inl (by rw[e];simp),λb u e _=>s'.h b u e rfl,λ_ e=>.inl e,s'.k⟩
  refine p1 _ G1 H' w1 st ⟨λb u e=>s'.h b u (r1.gh b u e) rfl,r1.wg,λb e z=>r1.wh b e (s'.k b z),r1.len,λi' b' e=>?_,r1.en.trans st,r1.pin⟩ (by unfold Rep;rfl);obtain ⟨v2,g1,g2⟩:=r1.sl i' b' e;exact ⟨v2,g1,g2.grow (.refl _) λa' o q1 q2=>⟨s'.h a' o q2 rfl,q1⟩⟩
end
def zsE:Dt->Bool
 |.non=>true
 |_=>false
theorem zpb{K:W.Frag}{G:Hp}:∀{d:Dt}{v:V},Rep K G d v->decide (v=V.non)=zsE d
 |.non,v,h=>by unfold Rep at h;subst h;rfl
 |.bl _,v,h=>by unfold Rep at h;subst h;rfl
 |.int _,v,h=>by unfold Rep at h;subst h;rfl
 |.str _,v,h=>by unfold Rep at h;subst h;rfl
 |.tup _,v,h=>by unfold Rep at h;obtain ⟨a,vs,rfl,_⟩:=h;rfl
 |.lst _,v,h=>by unfold Rep at h;obtain ⟨a,vs,rfl,_⟩:=h;rfl
 |.dct _,v,h=>by unfold Rep at h;obtain ⟨a,rfl,_⟩:=h;rfl
 |.scr _,v,h=>by unfold Rep at h;obtain ⟨a,rfl,_⟩:=h;rfl
def zu6(b:Bool)(fa:De):DT:=λZ=>(fa Z).bind λa=>.ok (b == zsE a.1,a.2)
section
variable{X:Cx}{C:Cn}{a:Expr}{fa:De}{pos pn:Pos}{j:Nat}
theorem zqL(ha:JE X C a fa):JT X C (.Compare a [.Is] [.Constant .none j pn] pos) (zu6 true fa) :=
 PT.weak (zwR (zwc ha)) λY H Q ⟨G,w,Z,r,p⟩=>by
  unfold zu6 at p;refine ze4 (κ:=λG H w=>kT X.K C Y Q G H w) zqo r p λd Z1 v G1 H1 w1 r1 s1 q1 p1=>⟨_,rfl,?_⟩
  rw[zpb q1];have:=p1 _ _ _ (.refl _ _ _) r1;simpa using this
end
def zrE(i:Nat)(f2 f3:De)(F:FD):De:=λZ=>match Z[i]? with
 |some (some (.own _))=>(f2 Z).bind λb=>(f3 b.2).bind λc=>match c.2[i]? with
  |some (some (.own l))=>match F [.val (.lst l),.val b.1,.val c.1] with
   |.ok (.lst ds,_)=>.ok (.int ds.length,c.2)
   |_=>.no
  |_=>.no
 |_=>.no
section
variable{X:Cx}{C:Cn}{CX:CXT}{k k':Nat}{ks:List Bool}{Fd:FD}{x a:Str}{e2 e3:Expr}{f2 f3:De}{p pl pos posl pa:Pos}
theorem ztL(i:Nat)(D:Dfn false X.prog X.w X.K X.mg X.base CX C.xv k x ks Fd)(hr:zfK k' X.A)(hk:k<=k')(hx:ze1 CX X (EXc C))(hml:X.mg "len"=none)(hb:JE X C e2 f2)(hc:JE X C e3 f3)(hN:X.N[i]? = some a:=by rfl)
  (hv:Vis X.env.scope a:=by exact xwV)
  (d1:(a == ("__debug__" : Str))=false:=by decide) (d2:(a == ("__classdict__" : Str))=false:=by decide)
  (hg:Gl X x:=by rfl) (hgl:Gl X "len":=by rfl) (hdb:(x == ("__debug__" : Str))=false:=by decide) (he:starEach [.Name a pa,e2,e3] X.env=(false,eval (.Name a pa) X.env)::starEach [e2,e3] X.env:=by rfl) (he2:starEach [e2,e3] X.env=(false,eval e2 X.env)::starEach [e3] X.env:=by rfl) (he3:starEach [e3] X.env=(false,eval e3 X.env)::starEach [] X.env:=by rfl)
  (hpl:(backTo pos (starEach [e2,e3] X.env)).any (·.1)=false:=by rfl)
  (hsl:starEach [.Call (.Name x p) [.Name a pa,e2,e3] [] pos] X.env=(false,eval (.Call (.Name x p) [.Name a pa,e2,e3] [] pos) X.env)::starEach [] X.env:=by rfl) (hpl2:(backTo posl (starEach [] X.env)).any (·.1)=false:=by rfl) :
  JE X C (.Call (.Name "len" pl) [.Call (.Name x p) [.Name a pa,e2,e3] [] pos] [] posl) (zrE i f2 f3 Fd):=by
 obtain ⟨f,fd,ps,h1,h2,h3,h4,h5⟩:=D.ex;refine PE.weak (zeW (zeD.or zgF) hgl hml zsV (zbj (zjn h1 (hr.mono hk) hg h2 h3 h4 .nil hx (zbj (zdk (i:=i) hN hv d1 d2) (zbj hb (zbj hc zcY he3) he2) he) hdb he hpl) zcY hsl) xwd xwd hsl hpl2) λY H Q ⟨G,w,Z,r,q⟩=>?_;unfold zrE at q;split at q
 case h_2=>exact q.elim
 rename_i l0 ei0;obtain ⟨al,vs0,e1,_,_,_⟩:=zcK r ei0;refine ⟨.ref al,e1,?_⟩;refine ze4 (κ:=λG H w=>kE X.K C Y Q G H w) zcr r q λd Z1 v G1 H1 w1 r1 s1 q1 p1=>?_;refine ze4 (κ:=λG H w=>kE X.K C Y Q G H w) zcr r1 p1 λd' Z2 v2 G2 H2 w2 r2 s2 q2 p2=>?_;dsimp only at p2;split at p2
 case h_2=>exact p2.elim
 rename_i l ei;obtain ⟨al',vs,e1',e2,e3,e4⟩:=zcK r2 ei;rw[e1] at e1';cases e1';have hgl:G2 al=none:=r2.wg al (by rw[e2];simp);have sg:zd8 G2 (upd G2 al (.lst vs)):=λb u e=>by rw[zat (zas e hgl)];exact e
 split at p2
 case h_2=>exact p2.elim
 rename_i ds bs' eF;have hks:zdo [.val (.lst l),.val d,.val d']=ks:=h5 _ (by rw[eF];exact λz=>by cases z);refine ⟨upd G2 al (.lst vs),λ_=>none,[.val (.lst l),.val d,.val d'],by rw[<- hks];rfl,hks,⟨λb u e=>?_,λb e=>absurd rfl e,λb e=>absurd rfl e,rfl,λjj bz vz g1 g2=>?_⟩,?_⟩
 ·by_cases hb:b=al
  ·subst hb;rw[zar] at e;cases e;exact e3
  ·rw[zat hb] at e;exact r2.gh b u e
 ·match jj with
  |0 =>
   cases g1;cases g2;show Rep X.K _ (.lst l) (.ref al);unfold Rep;exact ⟨al,vs,rfl,zar,e4.same sg⟩
  |1 =>
   cases g1;cases g2;exact Rep.same sg (q1.same s2.g)
  |2 =>
   cases g1;cases g2;exact Rep.same sg q2
  |n+3=>simp at g1
 ·rw[eF];intro v' G' H' w' s' pb rt;obtain ⟨a',us,ea,h6,h7⟩:=zaR (K:=X.K) (G:=G') rt;subst ea;have st:zbA G2 H2 w2 G2 H' w2:=⟨.refl _,λb u e=>.inl (by rw[e];simp),λb u e _=>s'.h b u e rfl,λ_ e=>.inl e,s'.k⟩
  refine .inl ⟨a',us,rfl,.inl (SqL.of (pb.gh _ _ h6)),?_⟩;rw[<- h7.length];refine p2 _ G2 H' w2 st ⟨λb u e=>s'.h b u (r2.gh b u e) rfl,r2.wg,λb e z=>r2.wh b e (s'.k b z),r2.len,λi' b' e=>?_,r2.en.trans st,r2.pin⟩ (by unfold Rep;rfl);obtain ⟨v2,g1,g2⟩:=r2.sl i' b' e;exact ⟨v2,g1,g2.grow (.refl _) λa' o q1 q2=>⟨s'.h a' o q2 rfl,q1⟩⟩
end
end PV
end
section
namespace PV
open PySem PySem.Spec PyProof.Rows L2
namespace RV
theorem zh5:Manifest.owners.lookup "reversed"=some Manifest.sig_reversed:=by kernel_rfl
theorem zeH:Slot "reversed" "__next__" "reversed.__next__" :=
 .of (owner:="reversed") (n:="__next__") (by rw[typeLookup_type,builtinLookup_eq_fast];kernel_rfl) xwD xwD xwD
  (by first|exact .inl xwD|exact .inr xwD) (by rw[isSubtype_type];kernel_rfl)
theorem ziX:entryFor table "reversed.__next__"=some Builtin.«reversed.__next__» := entryFor_of_tree xwk
theorem zkq(a:Value):argsOk "reversed.__next__" ⟨[a],[]⟩:=by unfold argsOk;rw[signature?_of (id:="reversed.__next__") (n:=['_','_','t','x','e','n','_','_']) (o:=['d','e','s','r','e','v','e','r']) xwk zh5];kernel_rfl
theorem zlB:Slot "reversed" "__iter__" "reversed.__iter__" :=
 .of (owner:="reversed") (n:="__iter__") (by rw[typeLookup_type,builtinLookup_eq_fast];kernel_rfl) xwD xwD xwD
  (by first|exact .inl xwD|exact .inr xwD) (by rw[isSubtype_type];kernel_rfl)
theorem zq5(a:Value):argsOk "reversed.__iter__" ⟨[a],[]⟩:=by unfold argsOk;rw[signature?_of (id:="reversed.__iter__") (n:=['_','_','r','e','t','i','_','_']) (o:=['d','e','s','r','e','v','e','r']) xwk zh5];kernel_rfl
theorem znO:entryFor table "reversed.__iter__"=some Builtin.«dict_keyiterator.__iter__» :=
 entryFor_alias (id':="dict_keyiterator.__iter__") xwk (by first|rfl|decide +kernel|(unfold String.splitOn;simp +decide [String.splitOnAux])) xwD xwk
theorem zwn:typeLookup (.type "reversed") "__len__"=pure none:=by rw[typeLookup_type,builtinLookup_eq_fast];kernel_rfl
theorem hint:typeLookup (.type "reversed") "__length_hint__"=pure (some (.builtin "reversed.__length_hint__")):=by rw[typeLookup_type,builtinLookup_eq_fast];kernel_rfl
theorem zwN:typeLookup (.type "tuple") "__reversed__"=pure none:=by rw[typeLookup_type,builtinLookup_eq_fast];kernel_rfl
theorem zpu:Slot "reversed" "__init__" "object.__init__" :=
 .of (owner:="object") (n:="__init__") (by rw[typeLookup_type,builtinLookup_eq_fast];kernel_rfl) xwD xwD xwD
  (by first|exact .inl xwD|exact .inr xwD) (by rw[isSubtype_type];kernel_rfl)
theorem zxe:TypeCalled "reversed" "reversed.__new__" "object.__init__":=⟨xwD,F.create_reversed,⟨_,_,F.mro_reversed⟩,F.made_reversed,F.plain_reversed_new,F.sub_reversed_self,zpu⟩
theorem tup_at{h h':Heap}{t:Addr}{items:Array Value}(x:IsTup h t items)(e:∀ o,h.get? t=some o->h'.get? t=some o):IsTup h' t items:=let ⟨o,ho,r⟩:=x;⟨o,e _ ho,r⟩
def rvObj(t:Addr)(i:Int):Obj:={ cls:=.type "reversed",data:=.fields #[.ref t,rawInt i] }
def IsRv(h:Heap)(a t:Addr)(i:Int):Prop:=h.get? a=some (rvObj t i)
theorem zqA(t:Addr)(items:Array Value)(hn:(items.size:Int)<2 ^ 62) :
  Meets (Builtin.«reversed.__new__» ⟨[.type "reversed",.ref t],[]⟩) (λ_ R s=>IsTup s.heap t items/\R (.ok (.ret (.ref s.heap.objs.size))) { s with heap:=s.heap.push (rvObj t ((items.size:Int)-1)),toks:=s.toks+1+1 }) :=
 .of_wp λprog w A R s h=>by
  obtain ⟨ht,h⟩:=h;have hT:s.TypeIs (.ref t) "tuple":=ht.typeIs;unfold Builtin.«reversed.__new__»;refine wab (wpAny_of_eq (newClass_reversed _) ?_)
  try dsimp only
  refine wab (wpAny_of_eq (a:=()) (by first|rfl|kernel_rfl) ?_);refine wab (wpAny_of_eq (a:=()) (by first|rfl|kernel_rfl) ?_)
  try dsimp only
  refine wab (wpAny_specialOf hT zwN ?_)
  try dsimp only
  refine wab ?_
  wp_delta
  refine wab (wpAny_isInstance (T:="tuple") (b:=false) hT (by rw[isSubtype_type];kernel_rfl) ?_);refine wpAny_ite_split (λh=>absurd h xwd) (λ_=>?_)
  try dsimp only
  refine wab (wpAny_specialOf hT F.slot_tuple_getitem.lookup ?_)
  try dsimp only
  refine wpAny_ite_split (λ_=>?_) (λh=>absurd xwD h);refine wad ?_;refine wpAny_ite_split (λh=>absurd h xwd) (λ_=>?_);refine wab (len_tuple ht xwo ?_);refine wab (wpAny_of_eq (a:=some (items.size:Int)) rfl ?_)
  try dsimp only
  refine wab (show wpAny _ _ (newObj (.type "reversed") (.fields #[.ref t,rawInt ((items.size:Int)-1)])) _ _ _ from ?_);exact wpAny_newObj_type (wad ⟨_,rfl,h⟩)
section
variable{prog:Program}{w:World}{A:Around}{E:Value->Shared->Prop}{s:Shared}
theorem IsRv.typeIs{a t:Addr}{i:Int}(x:IsRv s.heap a t i):s.TypeIs (.ref a) "reversed":=⟨_,x,rfl⟩
theorem call_new{t:Addr}{items:Array Value}{Q:Value->Shared->Prop}(ht:IsTup s.heap t items)(hn:(items.size:Int)<2 ^ 62)(h:Q (.ref s.heap.objs.size) { s with heap:=s.heap.push (rvObj t ((items.size:Int)-1)),toks:=s.toks+1+1 }) :
  wpAny (model prog w) A (call (.type "reversed") [.ref t]) Q E s :=
 callType_new zxe xwd (F.typeCall_reversed_1 _) (F.newCall_reversed_1 _) (λobj=>F.args_object_init_2 obj _) F.entry_reversed_new (zqA t items hn) ⟨ht,⟨_,waj _ rfl,rfl⟩,h⟩
theorem zqQ{it t:Addr}{i:Nat}{items:Array Value}{x:Value}{Q:Option Value->Shared->Prop}(hit:IsRv s.heap it t (i:Int))(ht:IsTup s.heap t items)(hn:(items.size:Int)<2 ^ 62)(hx:items[i]? = some x)
  (hQ:∀ h' tk,IsRv h' it t ((i:Int)-1)->Heap.SameBut it s.heap h'->Q (some x) { s with heap:=h',toks:=tk }):wpAny (model prog w) A (pyNext (.ref it)) Q E s:=by
 have hT:s.TypeIs (.ref t) "tuple":=ht.typeIs;have hlt:i<items.size:=by obtain ⟨h,_⟩:=Array.getElem?_eq_some_iff.mp hx;exact h
 unfold pyNext;refine wab (wpAny_attempt (wpAny_callSpecial?_slot (name:=Str.ofString "__next__") (IsRv.typeIs hit) zeH
  (wpAny_call_entry zeH (IsRv.typeIs hit) ziX ?_ (zkq _))))
 unfold Builtin.«reversed.__next__»;refine wab (wpAny_of_eq (a:=(Value.ref it,[])) rfl ?_)
 try dsimp only
 refine wab (wpAny_field hit (show (rvObj t (i:Int)).data=.fields #[.ref t,rawInt (i:Int)] from rfl) (x:=.ref t) rfl ?_);refine wab (wpAny_field hit (show (rvObj t (i:Int)).data=.fields #[.ref t,rawInt (i:Int)] from rfl) (x:=rawInt (i:Int)) rfl ?_);show wpAny _ _ (if (i:Int)<0 then _ else _) _ _ s;rw[if_neg xwo];refine wab (wpAny_specialOf hT F.slot_tuple_getitem.lookup ?_);refine wpAny_ite_split (λh=>absurd h xwd) (λ_=>?_);refine wab (wpAny_mkInt ?_);have hk:seqIndex? (i:Int) items.size=some i:=by
  unfold seqIndex?;simp only
  first|(rw[if_neg xwo];simp;omega)|(simp;omega)
 refine wab (wpAny_attempt (getItem_tuple ht xwo xwo hk hx ?_))
 try dsimp only
 refine wab (wpAny_field hit (show (rvObj t (i:Int)).data=.fields #[.ref t,rawInt (i:Int)] from rfl) (x:=rawInt (i:Int)) rfl ?_);show wpAny _ _ (setField (.ref it) 1 (rawInt ((i:Int)-1)) >>= _) _ _ _;refine wab (wpAny_setField hit (show (rvObj t (i:Int)).data=.fields #[.ref t,rawInt (i:Int)] from rfl) xws ?_);refine wad ⟨x,rfl,wad (hQ _ _ ?_ (Heap.SameBut.update ..))⟩;exact (Heap.get?_update_self _ hit (Obj.isFreed_of_fields (Obj.data_mapFields (show (rvObj t (i:Int)).data=.fields #[.ref t,rawInt (i:Int)] from rfl) _))).trans rfl
theorem zsh{it t:Addr}{Q:Option Value->Shared->Prop}(hh:A.handled=none)(hit:IsRv s.heap it t (-1))
  (hQ:∀ h',Heap.ExtBut it s.heap h'->Q none { s with heap:=h' }):wpAny (model prog w) A (pyNext (.ref it)) Q E s:=by
 unfold pyNext;refine wab (wpAny_attempt (wpAny_callSpecial?_slot (name:=Str.ofString "__next__") (IsRv.typeIs hit) zeH
  (wpAny_call_entry zeH (IsRv.typeIs hit) ziX ?_ (zkq _))))
 unfold Builtin.«reversed.__next__»;refine wab (wpAny_of_eq (a:=(Value.ref it,[])) rfl ?_)
 try dsimp only
 refine wab (wpAny_field hit (show (rvObj t (-1)).data=.fields #[.ref t,rawInt (-1)] from rfl) (x:=.ref t) rfl ?_);refine wab (wpAny_field hit (show (rvObj t (-1)).data=.fields #[.ref t,rawInt (-1)] from rfl) (x:=rawInt (-1)) rfl ?_);show wpAny _ _ (if (-1:Int)<0 then _ else _) _ _ s;rw[if_pos xwd];refine wab (wpAny_rule ?_);refine wab ?_
 wp_delta
 refine wab (wpAny_setField hit (show (rvObj t (-1)).data=.fields #[.ref t,rawInt (-1)] from rfl) xws ?_);have h1:(s.heap.update it (Obj.mapFields λfs=>fs.set! 1 (rawInt (-1)))).get? it=some (rvObj t (-1)):=(Heap.get?_update_self _ hit (Obj.isFreed_of_fields (Obj.data_mapFields (show (rvObj t (-1)).data=.fields #[.ref t,rawInt (-1)] from rfl) _))).trans rfl;refine wpAny_setField h1 (show (rvObj t (-1)).data=.fields #[.ref t,rawInt (-1)] from rfl) xws ?_;refine wab ?_;show wpAny _ _ (newExc (.type "StopIteration") [] >>= _) _ _ _;refine wab ?_;simp only[newExc,newTuple];refine wab (wpAny_newObj_type ?_ (by size_fits));refine wab (m:=firstArgMember _ _) (wpAny_of_eq (a:=Value.none) (by first|rfl|(simp only[firstArgMember];rfl)) ?_);refine wpAny_newObj_type ?_ (by size_fits);simp only[raiseNew];refine wab (wpAny_handled ?_)
 first|rw[show A.in1.handled=none from hh]|rw[hh]
 refine wab (wad (wpAny_throw ?_));refine wab (wpAny_isInstance (T:="StopIteration") (b:=true) ⟨_,waj _ rfl,rfl⟩ isSubtype_stop ?_);refine wad (hQ _ ?_);have e0:Heap.ExtBut it s.heap ((s.heap.update it (Obj.mapFields λfs=>fs.set! 1 (rawInt (-1)))).update it (Obj.mapFields λfs=>fs.set! 0 Value.none)):=λb o hb e=>(Heap.get?_update_other _ _ (Ne.symm hb)).trans ((Heap.get?_update_other _ _ (Ne.symm hb)).trans e);exact (e0.push _).push _
theorem zlt{it t:Addr}{i:Int}{Q:Value->Shared->Prop}(hit:IsRv s.heap it t i)(h:Q (.ref it) s):wpAny (model prog w) A (pyIter (.ref it)) Q E s:=by refine wpAny_pyIter_slot (IsRv.typeIs hit) zlB (wpAny_call_entry zlB (IsRv.typeIs hit) znO ?_ (zq5 _));show wpAny _ _ (ret (.ref it)) _ _ s;exact wad ⟨_,rfl,"reversed",_,IsRv.typeIs hit,zeH.lookup,h⟩
end
theorem IsRv.at{h h':Heap}{a t:Addr}{i:Int}(x:IsRv h a t i)(e:∀ o,h.get? a=some o->h'.get? a=some o):IsRv h' a t i:=e _ x
theorem zyz{prog:Program}{w:World}{A:Around}(hh:A.handled=none)(I t:Addr)(hne:t≠I)(items:Array Value)(hn:(items.size:Int)<2 ^ 62) :
  Walks prog w A I [I,t] [I] items.size (λi v=>items[items.size-1-i]? = some v) (λi h=>i<=items.size/\IsRv h I t ((items.size:Int)-1-(i:Int))/\IsTup h t items) where
 sub:=λb hb=>by simp at hb;simp[hb]
 frame:=λ_ _ _ x hk=>⟨x.1,IsRv.at x.2.1 λo e=>hk I xws o e,tup_at x.2.2 λo e=>hk t xws o e⟩
 item:=λi s Q E hi x hQ=>by
  have e:(items.size:Int)-1-(i:Int)=((items.size-1-i:Nat):Int):=by omega
  have hit:=x.2.1;rw[e] at hit;have hx:items[items.size-1-i]? = some (items[items.size-1-i]'xwo):=Array.getElem?_eq_getElem xwo;refine zqQ hit x.2.2 hn hx λh' tk hit' hs'=>?_;have e2:((items.size-1-i:Nat):Int)-1=(items.size:Int)-1-((i+1:Nat):Int):=by omega
  rw[e2] at hit';exact hQ _ h' tk hx ⟨hi,hit',tup_at x.2.2 λo e=>(hs'.2 t hne).trans e⟩ λb o hb eo=>hs'.extBut b o (λh=>hb (by simp[h])) eo
 done:=λs Q E x hQ=>by
  have e:(items.size:Int)-1-(items.size:Int) = -1:=by omega
  have hit:=x.2.1;rw[e] at hit;exact zsh hh hit λh' he'=>hQ h' s.toks λb o hb eo=>he' b o (λh=>hb (by simp[h])) eo
 self:=λ_ _ _ _ x hQ=>zlt x.2.1 hQ
theorem zqn(a:Value):argsOk "reversed.__length_hint__" ⟨[a],[]⟩:=by unfold argsOk;rw[signature?_of (id:="reversed.__length_hint__") (n:=['_','_','t','n','i','h','_','h','t','g','n','e','l','_','_']) (o:=['d','e','s','r','e','v','e','r']) xwk zh5];kernel_rfl
theorem zlz:Slot "reversed" "__length_hint__" "reversed.__length_hint__" :=
 .of (owner:="reversed") (n:="__length_hint__") hint xwD xwD xwD
  (by first|exact .inl xwD|exact .inr xwD) (by rw[isSubtype_type];kernel_rfl)
theorem zoa:entryFor table "reversed.__length_hint__"=some Builtin.«reversed.__length_hint__» := entryFor_of_tree xwk
section
variable{prog:Program}{w:World}{A:Around}{E:Value->Shared->Prop}{s:Shared}
theorem zqd{it t:Addr}{items:Array Value}{Q:Value->Shared->Prop}(hit:IsRv s.heap it t ((items.size:Int)-1))(ht:IsTup s.heap t items)(hn:(items.size:Int)<2 ^ 62)
  (h:∀ tk tk',Q (.int (items.size:Int) tk) { s with toks:=tk' }):wpAny (model prog w) A (call (.builtin "reversed.__length_hint__") [.ref it]) Q E s:=by
 refine wpAny_call_entry zlz (IsRv.typeIs hit) zoa ?_ (zqn _);unfold Builtin.«reversed.__length_hint__»;refine wab (wpAny_of_eq (a:=Value.ref it) rfl ?_);refine wab (wpAny_field hit (show (rvObj t ((items.size:Int)-1)).data=.fields #[.ref t,rawInt ((items.size:Int)-1)] from rfl) (x:=.ref t) rfl ?_);refine wpAny_ite_split (λh=>absurd (show (Value.ref t == Value.none)=true from h) Bool.false_ne_true) (λ_=>?_);refine wab (len_tuple ht xwo ?_);refine wab (wpAny_of_eq (a:=some (items.size:Int)) rfl ?_)
 try dsimp only
 refine wab (wpAny_field hit (show (rvObj t ((items.size:Int)-1)).data=.fields #[.ref t,rawInt ((items.size:Int)-1)] from rfl) (x:=rawInt ((items.size:Int)-1)) rfl ?_);show wpAny _ _ (if (items.size:Int)<(items.size:Int)-1+1 then _ else _) _ _ _;rw[if_neg xwo];rw[show (items.size:Int)-1+1=items.size by omega];exact wab (wpAny_mkInt (wad ⟨_,rfl,h _ _⟩))
theorem zwI{R:Result->Shared->Prop}{it t:Addr}{items:Array Value}(hh:A.handled=none)(hit:IsRv s.heap it t ((items.size:Int)-1))(ht:IsTup s.heap t items)(hne:t≠it)(hpos:0<items.size)(S:Addr)(res:Value)(c₀:Nat)(hS:s.heap.get? S=some { cls:=.type "list",data:=.seq #[] c₀ })(hSl:S≠t)
  (hn:items.size<=sizeLine)
  (hR:∀ h' tk acc' c',(∀ b o,b≠S->b≠it->s.heap.get? b=some o->h'.get? b=some o)->h'.get? S=some { cls:=.type "list",dict:=none,data:=.seq acc' c',slots:=#[] } ->
   ItemsOf (λi v=>items[items.size-1-i]? = some v) acc' items.size->R (.ok (.ret res)) { s with heap:=h',toks:=tk }) :
  wpAny (model prog w) A.in1 (Builtin.List.listExtendWith (.ref S) (.ref it) res)
   (λfin s'=>match fin with|.done f=>R (.ok f) s'|.again c'=>c'.quiet=true/\codeAny (model prog w) A c' R s') (λe s'=>R (.error e) s') s:=by
 have hn62:(items.size:Int)<2 ^ 62:=by unfold sizeLine at hn;omega
 have hSI:S≠it:=λe=>by rw[e,hit] at hS;have:=congrArg Obj.cls (waA hS);exact absurd (show Value.type "reversed"=Value.type "list" from this) xwD
 have hSf:S∉[it,t]:=λhm=>by
  rcases wap.mp hm with z|z
  ·exact hSI z
  ·exact hSl (List.mem_singleton.mp z)
 unfold Builtin.List.listExtendWith;refine wab (wpAny_typeOf (T:="reversed") (IsRv.typeIs hit) ?_);have h1:Builtin.List.listSameRef (.ref S) (.ref it)=false:=by simp[Builtin.List.listSameRef,hSI]
 have h2:(Value.type "reversed" == Value.type "list")=false:=by decide +kernel
 have h3:(Value.type "reversed" == Value.type "tuple")=false:=by decide +kernel
 simp only[h1,h2,h3,Bool.or_false,Bool.false_eq_true,if_false];refine wab (zlt hit ?_);refine wab (wpAny_holding ?_);unfold Builtin.List.listLengthHint;refine wab (wpAny_specialOf (IsRv.typeIs hit) zwn ?_);show wpAny _ A.in1 (specialOf (Value.ref it) (Str.ofString "__length_hint__") >>= _) _ _ _;refine wab (wpAny_specialOf (IsRv.typeIs hit) hint ?_)
 wp_delta
 refine wab (wpAny_isInstance (T:="reversed") (b:=true) (IsRv.typeIs hit) (by rw[isSubtype_type];kernel_rfl) ?_);refine wpAny_ite_split (λh=>absurd h xwd) (λ_=>?_);refine wpAny_ite_split (λh=>absurd h xwD) (λ_=>?_);refine wab (wpAny_rule ?_);refine wab (wpAny_of_eq (zlz.bind _) ?_)
 try dsimp only
 refine wab (wpAny_attempt (zqd hit ht hn62 λtk tk'=>?_));generalize hz:(items.size:Int)=z
 try dsimp only
 refine wab (wpAny_of_eq (a:=some z) rfl ?_)
 try dsimp only
 have hf:Builtin.List.listFitsIndex z=true:=by unfold Builtin.List.listFitsIndex;rw[Bool.and_eq_true,decide_eq_true_eq,decide_eq_true_eq];omega
 have hlo:Builtin.List.listTooLong z.toNat=false:=by rw[<- hz,Int.toNat_natCast];unfold Builtin.List.listTooLong;rw[decide_eq_false_iff_not];exact Nat.not_lt.mpr hn
 refine wpAny_ite_split (λh=>absurd h (by rw[hf];decide)) (λ_=>?_);refine wpAny_ite_split (λh=>absurd h xwo) (λ_=>?_);refine wpAny_ite_split (λh=>absurd h (by rw[hlo];decide)) (λ_=>?_);refine wad ?_;rw[show (z != 0:Bool)=true by rw[bne_iff_ne];omega,Bool.true_or,if_pos rfl];refine wab (wpAny_rule ?_);refine wab ?_;show wpAny _ A.in1 (updateSeq S (·.push .none) >>= λ_=>updateSeq S (·.pop)) _ _ _;refine wab (wpAny_updateSeq hS rfl ?_);have hS2:=Heap.get?_update_self (Obj.mapSeq (·.push Value.none)) hS rfl;refine wpAny_updateSeq (hz:=by seq_fits) hS2 rfl ?_;have hS3:=Heap.get?_update_self (Obj.mapSeq (·.pop)) hS2 rfl;have oth:∀ b o,b≠S->s.heap.get? b=some o->((s.heap.update S (Obj.mapSeq (·.push Value.none))).update S (Obj.mapSeq (·.pop))).get? b=some o :=
  λb o hb e=>(Heap.get?_update_other _ _ (Ne.symm hb)).trans ((Heap.get?_update_other _ _ (Ne.symm hb)).trans e)
 have W:=(zyz (prog:=prog) (w:=w) (A:=A.in1) hh it t hne items hn62).toS;refine wad ⟨plainId_quiet F.plain_extend_loop _,codeAny_extend_loopS W hn _ hSf _ items.size 0 _ _ _ rfl (Nat.zero_le _) ⟨Nat.zero_le _,by rw[show (items.size:Int)-1-((0:Nat):Int)=(items.size:Int)-1 by omega];exact oth it _ (Ne.symm hSI) hit,tup_at ht λo e=>oth t o (Ne.symm hSl) e⟩ hS3 (ItemsOf.nil _) λs' acc' c' hm hS' hacc=>?_⟩;rw[Moved.eq_with hm];refine hR s'.heap s'.toks acc' c' (λb ob hb hb2 e=>hm.heap b ob (λhmem=>?_) (oth b ob hb e)) hS' hacc;rcases wap.mp hmem with e'|hmem
 ·exact hb e'
 ·exact hb2 (List.mem_singleton.mp hmem)
theorem zui{R:Result->Shared->Prop}{it t:Addr}{items:Array Value}(hh:A.handled=none)(hit:IsRv s.heap it t ((items.size:Int)-1))(ht:IsTup s.heap t items)(hne:t≠it)(hpos:0<items.size)(S:Addr)(hS:s.heap.get? S=some { cls:=.type "list",data:=.seq #[] })(hSl:S≠t)(hSI:S≠it)
  (hn:items.size<=sizeLine)
  (hR:∀ h' tk acc' c',(∀ b o,b≠S->b≠it->s.heap.get? b=some o->h'.get? b=some o)->h'.get? S=some { cls:=.type "list",dict:=none,data:=.seq acc' c',slots:=#[] } ->
   ItemsOf (λi v=>items[items.size-1-i]? = some v) acc' items.size->R (.ok (.ret .none)) { s with heap:=h',toks:=tk }) :
  wpAny (model prog w) A.in1 (Builtin.«list.__init__» ⟨[.ref S,.ref it],[]⟩)
   (λfin s'=>match fin with|.done f=>R (.ok f) s'|.again c'=>c'.quiet=true/\codeAny (model prog w) A c' R s') (λe s'=>R (.error e) s') s:=by
 show wpAny _ _ (do let old <- Builtin.List.listItems (.ref S);Builtin.List.listUpdate (.ref S) (λ_=>#[]);letGo old.toList.reverse;Builtin.List.listExtendWith (.ref S) (.ref it) .none) _ _ s;refine wab ?_;unfold Builtin.List.listItems;refine wab (wpAny_seqItems hS rfl (wad ?_));show wpAny _ _ (updateSeq S (λ_=>#[]) >>= λ_=>letGo (#[]:Array Value).toList.reverse >>= λ_=>Builtin.List.listExtendWith (.ref S) (.ref it) .none) _ _ s;refine wab (wpAny_updateSeq hS rfl ?_);have k2:=Heap.get?_update_self (Obj.mapSeq (λ_=>(#[]:Array Value))) hS rfl;have oth:∀ b o,b≠S->s.heap.get? b=some o->(s.heap.update S (Obj.mapSeq (λ_=>(#[]:Array Value)))).get? b=some o :=
  λb o hb e=>(Heap.get?_update_other _ _ (Ne.symm hb)).trans e
 refine wab (wpAny_letGo ?_);exact zwI hh (IsRv.at hit λo e=>oth it o (Ne.symm hSI) e) (tup_at ht λo e=>oth t o (Ne.symm hSl) e) hne hpos S .none _ k2 hSl hn λh' tk acc' c' hk hS' hacc=>hR h' tk acc' c' (λb o hb hb2 e=>hk b o hb hb2 (oth b o hb e)) hS' hacc
theorem list_rv{Q:Value->Shared->Prop}{it t:Addr}{items:Array Value}(hh:A.handled=none)(hit:IsRv s.heap it t ((items.size:Int)-1))(ht:IsTup s.heap t items)(hne:t≠it)(hpos:0<items.size)(hn:items.size<=sizeLine)
  (hQ:∀ h' tk acc' c',(∀ b o,b≠it->s.heap.get? b=some o->h'.get? b=some o) ->
   h'.get? s.heap.objs.size=some { cls:=.type "list",dict:=none,data:=.seq acc' c',slots:=#[] }->ItemsOf (λi v=>items[items.size-1-i]? = some v) acc' items.size->Q (.ref s.heap.objs.size) { s with heap:=h',toks:=tk }) :
  wpAny (model prog w) A (call (.type "list") [.ref it]) Q E s:=by
 refine callType_codes (Q₁:=λobj s₁=>obj=.ref s.heap.objs.size/\s₁={ s with heap:=s.heap.push { cls:=.type "list",data:=.seq #[] } }) F.called_list (F.typeCall_list_1 _) F.entry_list_init
  (code_list_new _ ⟨rfl,rfl⟩) λobj s₁ h₁=>?_
 obtain ⟨rfl,rfl⟩:=h₁;have kS:(s.heap.push { cls:=.type "list",data:=.seq #[] }).get? s.heap.objs.size=some { cls:=.type "list",data:=.seq #[] }:=waj _ rfl;have lt1:t≠s.heap.objs.size:=by obtain ⟨o,e,_⟩:=ht;exact waM (wai e)
 have lt2:it≠s.heap.objs.size:=waM (wai hit);refine ⟨⟨_,kS,rfl⟩,F.args_list_init_2 _ _,zui (A:=A.in1) hh (IsRv.at hit λo e=>waa _ e) (tup_at ht λo e=>waa _ e) hne hpos _ kS (Ne.symm lt1) (Ne.symm lt2) hn λh' tk acc' c' hk hS' hacc=>?_⟩;exact ⟨rfl,hQ h' tk acc' c' (λb o hb e=>hk b o (waM (wai e)) hb (waa _ e)) hS' hacc⟩
end
end RV
def zp2(fa:De):DN:=λZ=>(fa Z).bind λa=>match a.1 with
 |.tup ds=>if ds.length=0 then .no else .ok (ds.reverse,a.2)
 |_=>.no
section
variable{X:Cx}{C:Cn}{a:Expr}{fa:De}{pos:Pos}
theorem zrj{p1 p2 pos2:Pos}(hc:X.calm=true)(hg:Gl X "list")(hm:X.mg "list"=none)(hg2:Gl X "reversed")(hm2:X.mg "reversed"=none)(ha:JE X C a fa)(hs:starEach [a] X.env=[(false,eval a X.env)]:=by rfl)
  (hs2:starEach [.Call (.Name "reversed" p2) [a] [] pos2] X.env=[(false,eval (.Call (.Name "reversed" p2) [a] [] pos2) X.env)]:=by rfl) :
  JN X C (.Call (.Name "list" p1) [.Call (.Name "reversed" p2) [a] [] pos2] [] pos) (zp2 fa):=by
 intro pS s Y H Q I ⟨G,w,Z,r,p⟩;refine PyProof.Rows.Call_ (zdA I hg hm PyProof.Rows.boot_list (PyProof.Rows.callWith_type1 ?_ hs2 rfl));rw[hs2];show wpAny _ _ (spliced ((false,eval (.Call (.Name "reversed" p2) [a] [] pos2) X.env)::backTo pos (starEach [] X.env))) _ _ s;refine Calls.spliced_cons (PyProof.Rows.Call_ (zdA I hg2 hm2 zmP (PyProof.Rows.callWith_type1 (thn (zao ha za2 hs pos2 pS s Y H (λvs H1=>∃(ad:Addr)(zs:List V),vs=[.ref ad]/\zs≠[]/\SqT X.K H1 ad zs/\∀ p,H1 p=none->Q (.ref p) (upd H1 p (.lst zs.reverse))) I ?_) λus s1 ⟨vs,H1,I1,r1,q1⟩=>?_) hs rfl)))
 ·refine ⟨G,w,Z,r,?_⟩;unfold zp2 at p;unfold dA dA0;cases e:fa Z with
  |ok x =>
   obtain ⟨d,Z1⟩:=x;rw[e] at p;intro vs G1 H1 w1 s1 r1 q;obtain ⟨v,t,rfl,q1,q2⟩:=q.cons_inv;rw[q2.nil_inv];have p1:=zcD.step (κ:=λG H w=>kN X.K C Y Q G H w) zfk s1 p;cases d with
   |tup ds =>
    obtain ⟨ad,zs,rfl,h1,h2⟩:=zb4 q1;simp only[R.bind_ok] at p1;by_cases h0:ds.length=0
    ·rw[if_pos h0] at p1;exact waO p1
    rw[if_neg h0] at p1;refine ⟨ad,zs,rfl,λz=>h0 (by have:=h2.length;rw[z] at this;simpa using this),zaK r1.gh h1,λp hp=>?_⟩;have gr:ze6 G1 H1 G1 (upd H1 p (.lst zs.reverse)):=.newH r1.gh hp;exact p1 p _ G1 _ w1 gr.step (r1.grow gr) hp zar (r1.gh.free hp) (ze7 r1 hp) h2.reverse
   |_=>exact waO p1
  |er n=>rw[e] at p;exact p
  |no=>rw[e] at p;exact p
 ·obtain ⟨ad,zs,rfl,hz0,hq,q⟩:=q1;obtain ⟨u,rfl,ru⟩:=zfv r1;cases ru;obtain ⟨its,rv,pl,hz⟩:=I1.tuple hq;have hlen:=rv.length;have h62:(its.toArray.size:Int)<2 ^ 62:=by rw[List.size_toArray];unfold sizeLine at hz;omega
  refine RV.call_new pl h62 ?_;refine Calls.spliced_nil ?_;have ne:ad≠s1.heap.objs.size:=by obtain ⟨o,e,_⟩:=id pl;exact waM (wai e)
  have hit:RV.IsRv (s1.heap.push (RV.rvObj ad ((its.toArray.size:Int)-1))) s1.heap.objs.size ad ((its.toArray.size:Int)-1):=waj _ rfl;have hl2:IsTup (s1.heap.push (RV.rvObj ad ((its.toArray.size:Int)-1))) ad its.toArray:=RV.tup_at pl λo e=>waa _ e;have hp0:0<its.toArray.size:=by rw[List.size_toArray,<- hlen];exact List.length_pos_iff.mpr hz0
  refine RV.list_rv (s:={ s1 with heap:=s1.heap.push (RV.rvObj ad ((its.toArray.size:Int)-1)),toks:=s1.toks+1+1 }) (I.ok.hd hc) hit hl2 ne hp0 (by rw[List.size_toArray];omega) λh' tk acc c' hk hS hacc=>?_;have hsz:(s1.heap.push (RV.rvObj ad ((its.toArray.size:Int)-1))).objs.size=s1.heap.objs.size+1:=Heap.size_push ..;have hS':h'.get? (s1.heap.objs.size+1)=some { cls:=.type "list",dict:=none,data:=.seq acc c',slots:=#[] }:=by rw[<- hsz];exact hS
  show EP X pS Y Q (.ref (s1.heap.push (RV.rvObj ad ((its.toArray.size:Int)-1))).objs.size) _;rw[hsz];refine ⟨.ref (s1.heap.objs.size+1),_,I1.laid (h':=h') (t':=tk) (o:=.lst zs.reverse) (λb o e=>hk b o (waM (wai e)) (waa _ e)) (Nat.le_succ _) ⟨?_,acc.toList,c',znr rv hacc,by simpa using hS'⟩,rfl,q _ (I1.hok.fresh (Nat.le_succ _))⟩;rw[List.length_reverse];exact hz
end
end PV
end
section
namespace Ts
open PySem PySem.W PyProof.Rows
inductive IL:List Value->List Int->Prop
 |nil:IL [] []
 |cons {a:Int} {t:Tok} {vs:List Value} {l:List Int} (h:IL vs l):IL (.int a t::vs) (a::l)
theorem IL.len{vs:List Value}{l:List Int}(h:IL vs l):vs.length=l.length:=by
 induction h with
 |nil=>rfl
 |cons h ih=>simp[ih]
def lxB:List Int->List Int->Bool
 |[],[]=>false
 |[],_::_=>true
 |_::_,[]=>false
 |x::xs,y::ys=>if x=y then lxB xs ys else decide (x<y)
def zx7{α:Type}(c:Nat->Nat->Bool)(n:Nat):KasT α->Option α
 |.ret a=>some a
 |.ask i j k=>if i<n/\j<n then zx7 c n (k (c i j)) else none
theorem zt9{α:Type}{c:Nat->Nat->Bool}{n:Nat}{cmp:Nat->Nat->(Bool->Shared->Prop)->Shared->Prop}{s:Shared}(hc:∀ i j,i<n->j<n->∀ C,C (c i j) s->cmp i j C s){a:α}{Q:α->Shared->Prop}(q:Q a s):∀ t:KasT α,zx7 c n t=some a->t.kasWp cmp Q s
 |.ret b,h=>by cases h;exact q
 |.ask i j k,h=>by
  unfold zx7 at h;split at h
  ·rename_i z;exact hc i j z.1 z.2 _ (zt9 hc q _ h)
  ·cases h
section
variable{prog:Program}{w:World}{A:Around}{E:Value->Shared->Prop}{s:Shared}
theorem zrH{c:Bool}{a b:Int}{t u:Tok}{Q:Bool->Shared->Prop}(h:Q (decide (a<b)) s):wpAny (model prog w) A (oneLt' c (.int a t) (.int b u)) Q E s:=by
 cases c with
 |true=>exact oneLt_int h
 |false =>
  rw[oneLt'_eq];simp only[Bool.false_eq_true,if_false];exact wab (richCompare_gives (op:=.Lt) (typeIs_int s _ t) (typeIs_int s _ u) PySem.F.slot_int_lt PySem.F.entry_int_lt (PySem.F.args_int_lt_2 _ _) (gives_int_lt _ _ t u) (λx=>nomatch x) (wpAny_truthy_bool h))
theorem zro{c:Bool}{Q:Bool->Shared->Prop}{xs:List Value}{l:List Int}(hx:IL xs l):∀{ys:List Value}{m:List Int}{i:Nat}{fin:Bool},IL ys m->fin=decide (l.length<m.length)->Q (lxB l m) s->KatLex prog w A c fin Q (xs.zip ys) i s:=by
 induction hx with
 |nil =>
  intro ys m i fin hy hf q;rw[List.zip_nil_left];refine kat_nil ?_;cases hy with
  |nil=>rw[hf];exact q
  |cons h=>rw[hf];simpa [lxB] using q
 |@cons a t vs l h ih =>
  intro ys m i fin hy hf q;cases hy with
  |nil=>rw[List.zip_nil_right];refine kat_nil ?_;rw[hf];simpa [lxB] using q
  |@cons b u ws k h' =>
   rw[List.zip_cons_cons];refine kat_cons (wpAny_eqBool_int (kat_go (λe=>kat_yes (ih h' (by rw[hf];simp) ?_)) λe=>kat_no (zrH ?_)))
   ·rw[beq_iff_eq] at e;unfold lxB at q;rw[if_pos e] at q;exact q
   ·have e':¬ a=b:=by simpa using e
    unfold lxB at q;rw[if_neg e'] at q;exact q
structure TupAt(h:Heap)(v:Value)(l:List Int):Prop where
 ex:∃ x o xs n,v=.ref x/\h.get? x=some o/\o.cls=.type "tuple"/\o.data=.seq xs n/\IL xs.toList l
 ne:l≠[]
theorem TupAt.keep{h h':Heap}{v:Value}{l:List Int}(k:∀ b o,h.get? b=some o->h'.get? b=some o)(t:TupAt h v l):TupAt h' v l:=by obtain ⟨x,o,xs,n,e,ho,hc,hd,hi⟩:=t.ex;exact ⟨⟨x,o,xs,n,e,k _ _ ho,hc,hd,hi⟩,t.ne⟩
theorem zr7{vs:List Value}{ls:List (List Int)}(hl:vs.length=ls.length)(ht:∀ i,i<vs.length->TupAt s.heap (vs.getD i .none) (ls.getD i []))(i j:Nat)(hi:i<vs.length)(hj:j<vs.length)(C:Bool->Shared->Prop)(h:C (lxB (ls.getD i []) (ls.getD j [])) s):kas_ask prog w A (tuples' true) vs i j C s:=by obtain ⟨x,o,xs,n,e,ho,hc,hd,il⟩:=(ht i hi).ex;obtain ⟨x',o',xs',n',e',ho',hc',hd',il'⟩:=(ht j hj).ex;unfold kas_ask;rw[e,e'];refine kat_lt ho hd ho' hd' (zro il il' ?_ h);rw[<- il.len,<- il'.len,Array.length_toList,Array.length_toList]
theorem ztA{h:Heap}:∀{vs:List Value},(∀ v∈vs,∃ l,TupAt h v l)->∃ fs,KatTups h vs fs/\fs.length=vs.length/\∀ f∈fs,∃ a t,f=.int a t
 |[],_=>⟨[],.nil,rfl,xws⟩
 |v::vs,H=>by
  obtain ⟨fs,h1,h2,h3⟩:=ztA (vs:=vs) λv hv=>H v (wah _ hv);obtain ⟨l,t⟩:=H v wau;obtain ⟨x,o,xs,n,rfl,ho,hc,hd,hi⟩:=t.ex;have:∃ a k,xs[0]? = some (.int a k):=by
   have hx:xs.toList[0]? = xs[0]? := by rw[Array.getElem?_toList]
   rw[<- hx];have:=t.ne;revert hi;generalize xs.toList=ys;intro hi;cases hi with
   |nil=>exact absurd rfl this
   |cons h=>exact ⟨_,_,rfl⟩
  obtain ⟨a,k,hf⟩:=this;refine ⟨_,KatTups.cons ho hc hd hf h1,by simp[h2],λf hf=>?_⟩;rcases wap.mp hf with rfl|hf
  ·exact ⟨a,k,rfl⟩
  ·exact h3 f hf
def ordA(ls:List (List Int)):Option (List Nat) :=
 if ls.length<2 then some (List.range ls.length) else if ls.length<64 then
  match zx7 (λi j=>lxB (ls.getD i []) (ls.getD j [])) ls.length (kas_sort ls.length) with
  |some p=>if p.size=ls.length then some p.toList else none
  |none=>none
 else none
theorem zq9{vs:List Value}(h:vs.length<2):vs.toArray=((List.range vs.length).map λi=>vs.getD i Value.none).toArray:=by
 match vs,h with
 |[],_=>rfl
 |[a],_=>rfl
theorem zsl{x:Addr}{vs:List Value}{ls:List (List Int)}{o:List Nat}{n:Nat}{P:PySem.Fin->Shared->Prop}(ho:s.heap.get? x=some (seqObj "list" vs.toArray n))(hz:vs.length<=sizeLine)(hl:vs.length=ls.length)(hr:ordA ls=some o)
  (ht:∀(h':Heap),(∀ b o,b≠x->s.heap.get? b=some o->h'.get? b=some o)->∀ i,i<vs.length->TupAt h' (vs.getD i .none) (ls.getD i []))
  (h:P (.done (.ret .none)) { s with heap:=sortedHeap s.heap x vs (o.map λi=>vs.getD i .none).toArray }) :
  wpAny (model prog w) A (Builtin.«list.sort» ⟨[.ref x],[]⟩) P E s:=by
 have hz':vs.toArray.size<=sizeLine:=by rw[List.size_toArray];exact hz
 unfold ordA at hr;rw[list_sort_plain];refine wab (listItems_at ho rfl (wab (listUpdate_at ho rfl ?_ hz')));have g1:=get?_update_seq ho λ_=>(#[]:Array Value)
 have keep:∀ b o,b≠x->s.heap.get? b=some o->(s.heap.update x (Obj.mapSeq λ_=>#[])).get? b=some o:=λb o hb e=>((Heap.SameBut.update s.heap x (Obj.mapSeq λ_=>#[])).2 b hb).trans e;refine wab (seqEpoch_at g1 rfl (wab (wpAny_newTuple (wab (wpAny_newList (wpAny_holding ?_))) hz)));have k6:∀ b o,b≠x->s.heap.get? b=some o->(((s.heap.update x (Obj.mapSeq λ_=>#[])).push (seqObj "tuple" vs.toArray 0)).push (seqObj "list" #[] 0)).get? b=some o:=λb o hb e=>waa _ (waa _ (keep b o hb e));have g6:=waa (seqObj "list" #[] 0) (waa (seqObj "tuple" vs.toArray 0) g1);have T6:=ht _ k6;show wpAny _ A _ P E { s with heap:=((s.heap.update x (Obj.mapSeq λ_=>#[])).push (seqObj "tuple" vs.toArray 0)).push (seqObj "list" #[] 0) };dsimp only;by_cases h2:vs.length<2
 ·have hn2:vs.toArray.size<2:=by rw[List.size_toArray];exact h2
  rw[if_pos xwl] at hr;cases hr;rw[<- hl,<- zq9 h2] at h;rw[if_pos hn2];refine wab (wad ?_);rw[if_pos hn2,StateT.run_pure];refine wab (wad (wab (seqEpoch_at g6 rfl (wab (listUpdate_at g6 rfl ?_ (hsz2:=by rw[Array.size_map];show (pairsOf vs).size<=_;rw[pairsOf_size,sizeLine_eq];lia))))));simp only[bne_self_eq_false,Bool.false_eq_true,if_false];refine wad ?_;have e:(pairsOf vs).map (·.2)=vs.toArray:=by
   unfold pairsOf;apply Array.ext
   ·simp
   ·intro i h1 h2;simp
  have h':P (.done (.ret .none)) { s with heap:=sortedHeap s.heap x vs ((pairsOf vs).map (·.2)) }:=by rw[e];exact h
  exact h'
 ·have hn2:¬ vs.toArray.size<2:=by rw[List.size_toArray];exact h2
  rw[if_neg xwl] at hr;split at hr
  ·rename_i h64;split at hr
   ·rename_i p hp;split at hr
    ·cases hr;rw[if_neg hn2];obtain ⟨fs,f1,f2,f3⟩:=ztA (h:=((s.heap.update x (Obj.mapSeq λ_=>#[])).push (seqObj "tuple" vs.toArray 0)).push (seqObj "list" #[] 0)) (vs:=vs) λv hv=>by obtain ⟨i,hi,e⟩:=List.mem_iff_getElem.mp hv;refine ⟨ls.getD i [],?_⟩;have:=T6 i hi;rwa [show vs.getD i .none=v by simp[List.getD,hi,e]] at this
     refine wab (kat_kind (T:=.type "int") f1 xwl (λv hv=>by obtain ⟨a,t,rfl⟩:=f3 v hv;exact Looks.of_pure rfl) rfl ?_)
     rw[if_neg hn2];rw[<- hl] at hp;have run:=kat_run (E:=E) (prog:=prog) (w:=w) (A:=A) (κ:=tuples' true) (ks:=vs) (vs:=vs) (s:={ s with heap:=((s.heap.update x (Obj.mapSeq λ_=>#[])).push (seqObj "tuple" vs.toArray 0)).push (seqObj "list" #[] 0) }) (G:=λp' s'=>p'=p/\s'={ s with heap:=((s.heap.update x (Obj.mapSeq λ_=>#[])).push (seqObj "tuple" vs.toArray 0)).push (seqObj "list" #[] 0) })
      (Q:=λst' s'=>(p.size=vs.length/\(arrOf st').map (·.2)=List.toArray (p.toList.map λi=>vs.getD i Value.none)/\failedOf st'=none)/\s'={ s with heap:=((s.heap.update x (Obj.mapSeq λ_=>#[])).push (seqObj "tuple" vs.toArray 0)).push (seqObj "list" #[] 0) }) rfl xwl xwl
      (λp' st' s' a1 a2 a3 a4=>by obtain ⟨rfl,a5⟩:=a4;exact ⟨⟨a1,kat_snds rfl a2,a3⟩,a5⟩) (zt9 (zr7 hl T6) ⟨rfl,rfl⟩ _ hp)
     refine wab (wpAny_mono run ?_ λ_ _ e=>e);rintro ⟨⟨⟩,st'⟩ s' ⟨⟨z1,z2,z3⟩,rfl⟩;dsimp only at z2 z3 ⊢;rw[z2];refine wab (seqEpoch_at g6 rfl (wab (listUpdate_at g6 rfl ?_ (hsz2:=by rw[List.size_toArray,List.length_map,Array.length_toList,z1,sizeLine_eq];lia))));rw[z3];simp only[bne_self_eq_false,Bool.false_eq_true,if_false];exact wad h
    ·cases hr
   ·cases hr
  ·cases hr
theorem sorted_ask{l:Addr}{vs:List Value}{ls:List (List Int)}{o:List Nat}{Q:Value->Shared->Prop}(hl:s.heap.IsList l vs.toArray)(hz:vs.length<=sizeLine)(he:vs.length=ls.length)(hr:ordA ls=some o)(ht:∀ i,i<vs.length->TupAt s.heap (vs.getD i .none) (ls.getD i []))
  (h:Q (.ref (s.heap.objs.size+1)) { s with heap:=sortedAll s.heap vs (o.map λi=>vs.getD i .none).toArray }) :
  wpAny (model prog w) A (call (.builtin "sorted") [.ref l]) Q E s:=by
 have keep0:∀ b o,s.heap.get? b=some o->(((s.heap.push (seqObj "list" #[] 0)).update s.heap.objs.size (Obj.mapSeq (·++vs.toArray))).push (seqObj "list" vs.toArray 0)).get? b=some o:=λb o e=>waa _ (((Heap.SameBut.update (s.heap.push (seqObj "list" #[] 0)) s.heap.objs.size (Obj.mapSeq (·++vs.toArray))).2 b (waM (wai e))).trans (waa _ e));have zz:((s.heap.push (seqObj "list" #[] 0)).update s.heap.objs.size (Obj.mapSeq (·++vs.toArray))).objs.size=s.heap.objs.size+1:=(Heap.size_update ..).trans (size_push' ..);have ff:(((s.heap.push (seqObj "list" #[] 0)).update s.heap.objs.size (Obj.mapSeq (·++vs.toArray))).push (seqObj "list" vs.toArray 0)).get? ((s.heap.push (seqObj "list" #[] 0)).update s.heap.objs.size (Obj.mapSeq (·++vs.toArray))).objs.size=some (seqObj "list" vs.toArray 0):=waj _ rfl;rw[zz] at ff;refine Calls.call_function_entry kind_sorted plain_sorted entry_sorted (args_sorted1 (.ref l)) (by unfold Builtin.«sorted»;refine wab (m:=checkCount "sorted" 1 1 _) (wad (wab (collect_list hl (wab (wpAny_newList ?_ hz)))));show wpAny _ _ _ _ _ { s with heap:=((s.heap.push (seqObj "list" #[] 0)).update s.heap.objs.size (Obj.mapSeq (·++vs.toArray))).push (seqObj "list" vs.toArray 0) };rw[zz];refine wab (wpAny_holding (wpAny_call_entry slot_list_sort ⟨_,ff,rfl⟩ entry_list_sort (zsl ff hz he hr (λh' k i hi=>(ht i hi).keep λb o e=>k b o (λz=>absurd (wai e) (by rw[z];exact Nat.not_lt.mpr (Nat.le_succ _))) (keep0 b o e)) ⟨_,rfl,wad ⟨_,rfl,h⟩⟩) (args_list_sort _))))
end
theorem ord_len{ls:List (List Int)}{o:List Nat}(h:ordA ls=some o):o.length=ls.length:=by
 unfold ordA at h;split at h
 ·cases h;simp
 ·split at h
  ·split at h
   ·split at h
    ·rename_i e;cases h;simpa using e
    ·cases h
   ·cases h
  ·cases h
end Ts
end
section
namespace PV
open PySem PySem.Spec L2
def ztq(K:W.Frag):List V->Hp->VK->Prop:=λxs H Q=>∃(p:Addr)(vs:List V)(ls:List (List Int))(o:List Nat),xs=[.ref p]/\SqL K H p vs/\vs.length=ls.length/\(∀ i,i<ls.length->∃ a,vs[i]? = some (.ref a)/\SqT K H a ((ls.getD i []).map V.int)/\ls.getD i []≠[])/\Ts.ordA ls=some o /\
 ∀ l,H l=none->Q (.ref l) (upd H l (.lst (o.map λi=>vs.getD i .non)))
theorem zw0:∀{ns:List Int}{us:List Value},zaY (ns.map V.int) us->Ts.IL us ns
 |[],_,.nil=>.nil
 |n::ns,_,.cons ⟨t,h⟩ r=>by subst h;exact .cons (zw0 r)
theorem zh4:∀{vs:List V}{us:List Value}(i:Nat),zaY vs us->zch (vs.getD i .non) (us.getD i .none)
 |[],_,i,.nil=>by simp[zch]
 |v::vs,_,0,.cons h r=>h
 |v::vs,_,i+1,.cons h r=>zh4 (vs:=vs) i r
theorem zoA{X:Cx}:zdl X (.builtin "sorted") (ztq X.K):=by
 intro pS s Y H xs us Q I r h;obtain ⟨p,vs,ls,o,rfl,hq,hl,ht,hr,q⟩:=h;obtain ⟨u,rfl,ru⟩:=zfv r;cases ru;obtain ⟨its,rv,pl,hz⟩:=I.list hq;have el:its.length=ls.length:=by rw[<- rv.length,hl]
 have tup:∀ i,i<its.length->Ts.TupAt s.heap (its.getD i .none) (ls.getD i []):=λi hi=>by
  obtain ⟨a,h0,h1,h2⟩:=ht i xwl;obtain ⟨its',rv',⟨o,ho,hc,n,hd⟩,hz'⟩:=I.tuple h1;have e:its.getD i .none=.ref a:=by have:=zh4 i rv;rw[show vs.getD i .non=.ref a by simp[List.getD,h0]] at this;exact this
  exact ⟨⟨a,o,its'.toArray,n,e,ho,hc,hd,by simpa using zw0 rv'⟩,h2⟩
 have hlen:its.length<=sizeLine:=by rw[<- rv.length];exact hz
 refine Ts.sorted_ask pl.isList hlen el hr tup ?_;obtain ⟨c,hc⟩:=PyProof.Rows.sortedAll_at s.heap its (o.map λi=>its.getD i .none).toArray;refine ⟨.ref (s.heap.objs.size+1),_,I.laid (t':=s.toks) (λb o=>PyProof.Rows.sortedAll_old) (Nat.le_succ _) (o:=.lst (o.map λi=>vs.getD i .non)) ⟨?_,(o.map λi=>its.getD i .none),c,?_,?_⟩,rfl,q _ (I.hok.fresh (Nat.le_succ _))⟩
 ·rw[List.length_map,Ts.ord_len hr,<- el];exact hlen
 ·clear hr q hc
  induction o with
  |nil=>exact .nil
  |cons i o ih=>exact .cons (zh4 i rv) ih
 ·simpa using hc
def zso:List Dt->Option (List (List Int))
 |[]=>some []
 |.tup x::r=>match zii x,zso r with
  |some (a::l),some ls=>some ((a::l)::ls)
  |_,_=>none
 |_=>none
def zhr:List Dt->R (List Dt)
 |[.lst l]=>match zso l with
  |some ls=>match Ts.ordA ls with
   |some o=>.ok (o.map λi=>l.getD i .non)
   |none=>.no
  |none=>.no
 |_=>.no
theorem znq{K:W.Frag}{G:Hp}:∀{ds:List Dt}{vs:List V}{ls:List (List Int)},za4 K G ds vs->zso ds=some ls->vs.length=ls.length/\∀ i,i<ls.length->∃ a,vs[i]? = some (.ref a)/\zjo K G a ((ls.getD i []).map V.int)/\ls.getD i []≠[]
 |[],_,ls,h,e=>by rw[h.nil_inv];simp[zso] at e;subst e;exact ⟨rfl,xws⟩
 |d::r,_,ls,h,e=>by
  obtain ⟨v,t,rfl,h1,h2⟩:=h.cons_inv;unfold zso at e;split at e
  ·rename_i e0;cases e0
  ·rename_i x r' e0;cases e0;split at e
   ·rename_i a l ls' e1 e2;cases e;obtain ⟨q1,q2⟩:=znq h2 e2;obtain ⟨ad,us,rfl,m1,m2⟩:=zeX h1;rw[zkh m2 e1] at m1;refine ⟨by simp[q1],λi hi=>?_⟩;cases i with
    |zero=>exact ⟨ad,rfl,m1,xws⟩
    |succ i=>exact q2 i (by simpa using hi)
   ·cases e
  ·cases e
theorem zln{K:W.Frag}{G:Hp}:∀{ds:List Dt}{vs:List V}(i:Nat),za4 K G ds vs->Rep K G (ds.getD i .non) (vs.getD i .non)
 |[],_,i,h=>by rw[h.nil_inv];simp[Rep]
 |d::r,_,i,h=>by
  obtain ⟨v,t,rfl,h1,h2⟩:=h.cons_inv;cases i with
  |zero=>exact h1
  |succ i=>exact zln i h2
theorem zrm{K:W.Frag}:FnN K (ztq K) zhr:=λG H vs ds z Q gh hr e k=>by
 unfold zhr at e;split at e
 ·split at e
  ·rename_i l ls el;split at e
   ·rename_i o eo;obtain ⟨v,rfl,h1⟩:=zfM hr;obtain ⟨a,us,rfl,h2,h3⟩:=zaR h1;cases e;obtain ⟨e1,e2⟩:=znq h3 el;refine ⟨a,us,ls,o,rfl,SqL.of (gh _ _ h2),e1,λi hi=>?_,eo,λb hb=>k b _ hb ?_⟩
    ·obtain ⟨c,m1,m2,m3⟩:=e2 i hi;exact ⟨c,m1,zaK gh m2.sq,m3⟩
    ·clear eo k
     induction o with
     |nil=>exact za4.nil
     |cons i o ih=>exact za4.cons (zln i h3) ih
   ·cases e
  ·cases e
 ·cases e
theorem zrq:zlY zhr:=λx n h=>by
 unfold zhr at h;split at h
 ·split at h
  ·split at h <;> cases h
  ·cases h
 ·cases h
def zvI:Dt->Dt->R Dt
 |.int i,.int j=>if 0<=j/\j<=1000000/\i.natAbs<2 ^ 64 then .ok (.int (i * 2 ^ j.toNat)) else .no
 |_,_=>.no
def zvP:Dt->Dt->R Dt
 |.int i,.int j=>if 0<=j then .ok (.int (i / 2 ^ j.toNat)) else .no
 |_,_=>.no
def zp3:Dt->Dt->R Dt
 |.int i,.int j=>.ok (.int (Builtin.bitAnd i j))
 |_,_=>.no
section
variable{K:W.Frag}
theorem ztT:Op2 K (rI zx9 λi j=>.int (i * 2 ^ j.toNat)) zvI:=λG H x y dx dy z Q gh hx hy e k=>by
 unfold zvI at e;split at e
 ·split at e
  ·rename_i h;cases e;exact ⟨_,_,zaz hx,zaz hy,h,k _ G H (.refl gh) (za7 _)⟩
  ·cases e
 ·cases e
theorem ztY:Op2 K (rI (λ_ j=>0<=j) λi j=>.int (i / 2 ^ j.toNat)) zvP:=λG H x y dx dy z Q gh hx hy e k=>by
 unfold zvP at e;split at e
 ·split at e
  ·rename_i h;cases e;exact ⟨_,_,zaz hx,zaz hy,h,k _ G H (.refl gh) (za7 _)⟩
  ·cases e
 ·cases e
theorem zrA:Op2 K (rI0 λi j=>.int (Builtin.bitAnd i j)) zp3:=λG H x y dx dy z Q gh hx hy e k=>by
 unfold zp3 at e;split at e
 ·cases e;exact ⟨_,_,zaz hx,zaz hy,k _ G H (.refl gh) (za7 _)⟩
 ·cases e
end
section
variable{X:Cx}{C:Cn}{a b:Expr}{fa fb:De}{pos:Pos}
theorem zny{x:Expr}{p:Pos}(hg:Gl X "sorted")(hm:X.mg "sorted"=none)(ha:JE X C x fa)(hs:starEach [x] X.env=(false,eval x X.env)::starEach [] X.env:=by rfl)(hpl:(backTo pos (starEach [] X.env)).any (·.1)=false:=by rfl) :
  JN X C (.Call (.Name "sorted" p) [x] [] pos) (ze3 zhr (dA fa dA0)) :=
 zjv zrm zrq zoA hg hm PyProof.Rows.boot_sorted (zao ha za2 hs) xwd xwd hs hpl
theorem zwK(ha:JE X C a fa)(hb:JE X C b fb):JE X C (.BinOp a .LShift b pos) (dOp zvI fa fb):=zin zxd ztT (λx y n h=>by unfold zvI at h;split at h <;> first|cases h|(split at h <;> cases h)) ha hb
theorem zxc(ha:JE X C a fa)(hb:JE X C b fb):JE X C (.BinOp a .RShift b pos) (dOp zvP fa fb):=zin zwV ztY (λx y n h=>by unfold zvP at h;split at h <;> first|cases h|(split at h <;> cases h)) ha hb
theorem zuU(ha:JE X C a fa)(hb:JE X C b fb):JE X C (.BinOp a .BitAnd b pos) (dOp zp3 fa fb):=zin zvC zrA (λx y n h=>by unfold zp3 at h;split at h <;> cases h) ha hb
end
end PV
end
section
namespace Lw
open PySem PySem.Spec L2 PV
def top(i:Nat):Stmt:=PySem.Challenge.pw_standtogether_k13_all_parties_held.main.body.getD i (.Pass ⟨0,0,0,0⟩)
abbrev Uf(K:W.Frag)(mg:Str->Option Value)(x:String)(i:Nat):Prop:=∃ f fd,Fun K (Str.ofString x) (Str.ofString x) (top i) f fd/\mg (Str.ofString x)=some (.ref f)
structure Tx(K:W.Frag)(mg:Str->Option Value):Prop where
 u_is_whole:Uf K mg "is_whole" 5
 u_check_guests:Uf K mg "check_guests" 6
 u_is_leaf:Uf K mg "is_leaf" 8
 u_row_as_written:Uf K mg "row_as_written" 9
 u_guests_in:Uf K mg "guests_in" 10
 u_least_guest:Uf K mg "least_guest" 11
 u_put_least:Uf K mg "put_least" 12
 u_least_form:Uf K mg "least_form" 13
 u_share:Uf K mg "share" 18
 u_with_share:Uf K mg "with_share" 19
 u_bunched:Uf K mg "bunched" 20
 u_leaning_order:Uf K mg "leaning_order" 21
 u_laid:Uf K mg "laid" 23
 u_leaned:Uf K mg "leaned" 22
 u_touching:Uf K mg "touching" 24
 u_tighten_any:Uf K mg "tighten_any" 25
 u_tighten_row:Uf K mg "tighten_row" 26
 u_tighten_within:Uf K mg "tighten_within" 27
 u_tighten:Uf K mg "tighten" 28
 u_tightened:Uf K mg "tightened" 29
 u_holds_in:Uf K mg "holds_in" 30
 u_all_parties:Uf K mg "all_parties" 32
 u_kept_parties:Uf K mg "kept_parties" 33
 u__law_cell_at:Uf K mg "_law_cell_at" 35
 u__law_state:Uf K mg "_law_state" 36
 u__law_take:Uf K mg "_law_take" 37
 u__law_mixed_row:Uf K mg "_law_mixed_row" 38
 u__law_tree:Uf K mg "_law_tree" 39
 u__law_perms:Uf K mg "_law_perms" 40
 u__law_leaves:Uf K mg "_law_leaves" 41
 u__law_of_tree:Uf K mg "_law_of_tree" 42
 u__law_rows_by:Uf K mg "_law_rows_by" 43
 u__law_sits:Uf K mg "_law_sits" 44
 u__law_same:Uf K mg "_law_same" 45
 u__law_all_parties:Uf K mg "_law_all_parties" 46
 u_law:Uf K mg "law" 47
 b_all:mg (Str.ofString "all")=none
 b_bool:mg (Str.ofString "bool")=none
 b_enumerate:mg (Str.ofString "enumerate")=none
 b_int:mg (Str.ofString "int")=none
 b_isinstance:mg (Str.ofString "isinstance")=none
 b_len:mg (Str.ofString "len")=none
 b_list:mg (Str.ofString "list")=none
 b_max:mg (Str.ofString "max")=none
 b_min:mg (Str.ofString "min")=none
 b_range:mg (Str.ofString "range")=none
 b_reversed:mg (Str.ofString "reversed")=none
 b_sorted:mg (Str.ofString "sorted")=none
 b_tuple:mg (Str.ofString "tuple")=none
 b_zip:mg (Str.ofString "zip")=none
 g_MOST_GUESTS:∃ t,mg (Str.ofString "MOST_GUESTS")=some (.int 7 t)
 g_NONE_OF_THEM:∃ t,mg (Str.ofString "NONE_OF_THEM")=some (.int 0 t)
 g_SOME_OF_THEM:∃ t,mg (Str.ofString "SOME_OF_THEM")=some (.int 1 t)
 g_ALL_OF_THEM:∃ t,mg (Str.ofString "ALL_OF_THEM")=some (.int 2 t)
section
variable{P:Program}{w:World}{K:W.Frag}{mg:Str->Option Value}{base:Heap}{xv:Nat->Value}{cls:Nat->Addr}
abbrev zop:List Str:=["thing"]
abbrev zg3:List Str:=["thing"]
theorem zm1:za6 zop zg3 (zak (top 5)):=⟨rfl,rfl,rfl,xwD,rfl,xwD,xwD⟩
noncomputable def zji:DS:=(zbt (zw8 (zg0 "int" (zab 0)) (zxA (zg0 "bool" (zab 0)))))
noncomputable def zdN:FD:=za1 false [false] 0 zji
theorem znT(T:Tx K mg):Dfn false P w K mg base CX0 xv 3 (Str.ofString "is_whole") [false] zdN:=by obtain ⟨f,fd,U,hm⟩:=T.u_is_whole;refine ⟨f,fd,zg3,?_,hm,U.kp,U.binds (ps:=zg3) λ_ _ _ _ _ _ us hl=>match us,hl with|[_],_=>rfl,zap⟩;refine zaC (k:=2) false zaB U zm1 rfl rfl λX C hX hpp hxv hnw hr hx hpo=>?_;subst hxv;obtain ⟨cdv,A,outer,s,H,E,rfl⟩:=hX;exact (zah (zaA hnw (zsX (zeC zmo rfl T.b_isinstance zew rfl T.b_int zqP (zaa 0)) (zqG (ztk (zeC zjH rfl T.b_isinstance zew rfl T.b_bool zmz (zaa 0)))))))
abbrev ziy:List Str:=["n"]
abbrev zd1:List Str:=["n"]
theorem zhM:za6 ziy zd1 (zak (top 6)):=⟨rfl,rfl,rfl,xwD,rfl,xwD,xwD⟩
noncomputable def zfs:DS:=(dIf (zo3 (zhX (dTB (zai zdN (dR (zab 0) dR0)))) (zo3 (dTB (dOp gLt (zab 0) (dC (.int 1)))) (dTB (dOp gGt (zab 0) (dC (.int 7)))))) dNo dNx)
noncomputable def zbv:FD:=za1 false [false] 0 zfs
theorem zd3(T:Tx K mg):Dfn false P w K mg base CX0 xv 6 (Str.ofString "check_guests") [false] zbv:=by obtain ⟨f,fd,U,hm⟩:=T.u_check_guests;refine ⟨f,fd,zd1,?_,hm,U.kp,U.binds (ps:=zd1) λ_ _ _ _ _ _ us hl=>match us,hl with|[_],_=>rfl,zap⟩;refine zaC (k:=5) false zaB U zhM rfl rfl λX C hX hpp hxv hnw hr hx hpo=>?_;subst hxv;obtain ⟨cdv,A,outer,s,H,E,rfl⟩:=hX;exact (zah (zcd (JW.jt (zrV (znh (zez (zaL (znT T) hr xwo zaE (zae (zaa 0) zaq)))) (zrV (zvc (zaa 0) zam) (zqF (zp8 (zaa 0) (zbG rfl T.g_MOST_GUESTS.choose_spec)))))) (zah zsa) zaQ))
abbrev zqw:List Str:=["tree"]
abbrev zhT:List Str:=["tree"]
theorem zoj:za6 zqw zhT (zak (top 8)):=⟨rfl,rfl,rfl,xwD,rfl,xwD,xwD⟩
noncomputable def zpt:DS:=(zbt (zxA (zg0 "tuple" (zab 0))))
noncomputable def zc6:FD:=za1 false [false] 0 zpt
theorem zk2(T:Tx K mg):Dfn false P w K mg base CX0 xv 3 (Str.ofString "is_leaf") [false] zc6:=by obtain ⟨f,fd,U,hm⟩:=T.u_is_leaf;refine ⟨f,fd,zhT,?_,hm,U.kp,U.binds (ps:=zhT) λ_ _ _ _ _ _ us hl=>match us,hl with|[_],_=>rfl,zap⟩;refine zaC (k:=2) false zaB U zoj rfl rfl λX C hX hpp hxv hnw hr hx hpo=>?_;subst hxv;obtain ⟨cdv,A,outer,s,H,E,rfl⟩:=hX;exact (zah (zaA hnw (ztk (zeC zfQ rfl T.b_isinstance zew rfl T.b_tuple zgg (zaa 0)))))
abbrev zgM:List Str:=["tree","guests","branch"]
abbrev zbQ:List Str:=["tree"]
theorem zcp:za6 zgM zbQ (zak (top 9)):=⟨rfl,rfl,rfl,xwD,rfl,xwD,xwD⟩
noncomputable def zep(F_self:FD):DS:=(za3 (dIf (dTB (zai zc6 (dR (zab 0) dR0))) (zbt (dFz (zdg (dA (zab 0) dA0)))) dNx) (za3 (zck 1 (zdg dA0)) (za3 (zgE (dIt (dOp gIx (zab 0) (dC (.int 1)))) (zb7 2) (dEx (zgH 1 (zai F_self (dR (zab 2) dR0))))) (zbt (zfl 1)))))
noncomputable def zbu:Nat->FD
 |0=>λ_=>.no
 |n+1=>za1 false [false] 2 (zep (zbu n))
theorem zex(T:Tx K mg):∀ n,Dfn false P w K mg base CX0 xv (n+5) (Str.ofString "row_as_written") [false] (zbu n)
 |0=>by obtain ⟨f,fd,U,hm⟩:=T.u_row_as_written;exact zds rfl U hm (U.binds (ps:=zbQ) λ_ _ _ _ _ _ us hl=>match us,hl with|[_],_=>rfl)
 |n+1=>by have DS:=zex T n;obtain ⟨f,fd,U,hm⟩:=T.u_row_as_written;refine ⟨f,fd,zbQ,?_,hm,U.kp,U.binds (ps:=zbQ) λ_ _ _ _ _ _ us hl=>match us,hl with|[_],_=>rfl,zap⟩;refine zgt.mono (j:=(n+5)+1) ?_ xwo;refine zaC (k:=n+5) false zaB U zcp rfl rfl λX C hX hpp hxv hnw hr hx hpo=>?_;subst hxv;obtain ⟨cdv,A,outer,s,H,E,rfl⟩:=hX;exact (zaf (zcd (zez (zaL (zk2 T) hr xwo zaE (zae (zaa 0) zaq))) (zah (zaA hnw (za9 (zb8 (zao (zaa 0) za2))))) zaQ) (zaf (zcZ (i:=1) zcp.nd rfl xwO (by rw[hpp];decide) (zb8 za2)) (zaf (zev hpo rfl (zcB (zby (zaa 0) zam)) (zaV (i:=2) zcp.nd rfl xwO (by rw[hpp];decide)) (zah (zci (zmG 1 (zaL DS hr (wal _) zaE (zae (zaa 2) zaq)))))) (zah (zaA hnw (zeE 1))))))
abbrev zlR:List Str:=["tree"]
abbrev zfD:List Str:=["tree"]
theorem zkL:za6 zlR zfD (zak (top 10)):=⟨rfl,rfl,rfl,xwD,rfl,xwD,xwD⟩
noncomputable def zmI:DS:=(zbt (dFz (ze3 zbD (dA (zai (zbu 8) (dR (zab 0) dR0)) dA0))))
noncomputable def zdj:FD:=za1 false [false] 0 zmI
theorem zhq(T:Tx K mg):Dfn false P w K mg base CX0 xv 16 (Str.ofString "guests_in") [false] zdj:=by obtain ⟨f,fd,U,hm⟩:=T.u_guests_in;refine ⟨f,fd,zfD,?_,hm,U.kp,U.binds (ps:=zfD) λ_ _ _ _ _ _ us hl=>match us,hl with|[_],_=>rfl,zap⟩;refine zaC (k:=15) false zaB U zkL rfl rfl λX C hX hpp hxv hnw hr hx hpo=>?_;subst hxv;obtain ⟨cdv,A,outer,s,H,E,rfl⟩:=hX;exact (zah (zaA hnw (za9 (zhh rfl T.b_sorted (zaL (zex T 8) hr xwo zaE (zae (zaa 0) zaq))))))
abbrev zjz:List Str:=["tree"]
abbrev zei:List Str:=["tree"]
theorem zi1:za6 zjz zei (zak (top 11)):=⟨rfl,rfl,rfl,xwD,rfl,xwD,xwD⟩
noncomputable def zel:DS:=(zbt (dOp gIx (zai zdj (dR (zab 0) dR0)) (dC (.int 0))))
noncomputable def za8:FD:=za1 false [false] 0 zel
theorem zdX(T:Tx K mg):Dfn false P w K mg base CX0 xv 19 (Str.ofString "least_guest") [false] za8:=by obtain ⟨f,fd,U,hm⟩:=T.u_least_guest;refine ⟨f,fd,zei,?_,hm,U.kp,U.binds (ps:=zei) λ_ _ _ _ _ _ us hl=>match us,hl with|[_],_=>rfl,zap⟩;refine zaC (k:=18) false zaB U zi1 rfl rfl λX C hX hpp hxv hnw hr hx hpo=>?_;subst hxv;obtain ⟨cdv,A,outer,s,H,E,rfl⟩:=hX;exact (zah (zaA hnw (zby (zaL (zhq T) hr xwo zaE (zae (zaa 0) zaq)) zam)))
abbrev zmk:List Str:=["tree","branches"]
abbrev zed:List Str:=["tree"]
theorem zdw:za6 zmk zed (zak (top 12)):=⟨rfl,rfl,rfl,xwD,rfl,xwD,xwD⟩
abbrev ze2:List Str:=["tree","branches","branch"]
theorem zi0:ze2.Nodup:=by decide +kernel
noncomputable def zfI(F_self:FD):DS:=(za3 (dIf (dTB (zai zc6 (dR (zab 0) dR0))) (zbt (zab 0)) dNx) (za3 (zbi 1 (dFz (zb9 (dIt (dOp gIx (zab 0) (dC (.int 1)))) (zb7 2) dTT (zai F_self (dR (zab 2) dR0)) 1))) (za3 (dIf (dTB (dOp (gEq false) (dOp gIx (zab 0) (dC (.int 0))) (dC (.str (Str.ofString "any"))))) (zbi 1 (dFz (zk9 za8 (zab 1)))) (dIf (dTB (dOp gGt (zai za8 (dR (dOp gIx (zab 1) (dC (.int 0))) dR0)) (zai za8 (dR (dOp gIx (zab 1) (zqZ (dC (.int 1)))) dR0)))) (zbi 1 (dFz (zgI (zab 1)))) dNx)) (zbt (zfp (dA (dOp gIx (zab 0) (dC (.int 0))) (dA (dFn zdd (dA (zab 1) dA0)) dA0)))))))
noncomputable def zbs:Nat->FD
 |0=>λ_=>.no
 |n+1=>za1 false [false] 1 (zfI (zbs n))
theorem zfE(T:Tx K mg):∀ n,Dfn false P w K mg base CX0 xv (n+21) (Str.ofString "put_least") [false] (zbs n)
 |0=>by obtain ⟨f,fd,U,hm⟩:=T.u_put_least;exact zds rfl U hm (U.binds (ps:=zed) λ_ _ _ _ _ _ us hl=>match us,hl with|[_],_=>rfl)
 |n+1=>by have DS:=zfE T n;obtain ⟨f,fd,U,hm⟩:=T.u_put_least;refine ⟨f,fd,zed,?_,hm,U.kp,U.binds (ps:=zed) λ_ _ _ _ _ _ us hl=>match us,hl with|[_],_=>rfl,zap⟩;refine zgt.mono (j:=(n+21)+1) ?_ xwo;refine zaC (k:=n+21) false zaB U zdw rfl rfl λX C hX hpp hxv hnw hr hx hpo=>?_;subst hxv;obtain ⟨cdv,A,outer,s,H,E,rfl⟩:=hX;exact (zaf (zcd (zez (zaL (zk2 T) hr xwo zaE (zae (zaa 0) zaq))) (zah (zaA hnw (zaa 0))) zaQ) (zaf (zgz (i:=1) zdw.nd rfl xwO (by rw[hpp];decide) (zcB (zby (zaa 0) zam)) rfl (N':=ze2) (m:=1) xwk rfl (zbg xwk) (zbW xwk) (zbX xwk) (λcl L s H fp G H' w Y=>⟨(zaV (i:=2) zi0 rfl xwO (xwN rfl)),zg7,(zaL DS hr (wal _) zaE (zae (zaa 2) zaq))⟩)) (zaf (zcd (zfi (zfU hr) (zby (zaa 0) zam) zfV) (zah (zaP (i:=1) zdw.nd rfl xwO (by rw[hpp];decide) (za9 (zrN (zdX T) hr xwo zaE rfl T.b_sorted (zaa 1))))) (zah (zcd (zp8 (zaL (zdX T) hr xwo zaE (zae (zby (zaa 1) zam) zaq)) (zaL (zdX T) hr xwo zaE (zae (zby (zaa 1) (zpv zam)) zaq))) (zah (zaP (i:=1) zdw.nd rfl xwO (by rw[hpp];decide) (za9 (zoW rfl rfl T.b_list rfl T.b_reversed (zaa 1))))) zaQ))) (zah (zaA hnw (zdn (zao (zby (zaa 0) zam) (zao (zfz T.b_tuple (zaa 1)) za2))))))))
abbrev zlE:List Str:=["n","tree"]
abbrev ze9:List Str:=["n","tree"]
theorem zjM:za6 zlE ze9 (zak (top 13)):=⟨rfl,rfl,rfl,xwD,rfl,xwD,xwD⟩
noncomputable def zl0:DS:=(za3 (dEx (zai zbv (dR (zab 0) dR0))) (zbt (zai (zbs 8) (dR (zab 1) dR0))))
noncomputable def zeF:FD:=za1 false [false,false] 0 zl0
theorem zku(T:Tx K mg):Dfn false P w K mg base CX0 xv 32 (Str.ofString "least_form") [false,false] zeF:=by obtain ⟨f,fd,U,hm⟩:=T.u_least_form;refine ⟨f,fd,ze9,?_,hm,U.kp,U.binds (ps:=ze9) λ_ _ _ _ _ _ us hl=>match us,hl with|[_,_],_=>rfl,zap⟩;refine zaC (k:=31) false zaB U zjM rfl rfl λX C hX hpp hxv hnw hr hx hpo=>?_;subst hxv;obtain ⟨cdv,A,outer,s,H,E,rfl⟩:=hX;exact (zaf (zci (zaL (zd3 T) hr xwo zaE (zae (zaa 0) zaq))) (zah (zaA hnw (zaL (zfE T 8) hr xwo zaE (zae (zaa 1) zaq)))))
end
section
variable{P:Program}{w:World}{K:W.Frag}{mg:Str->Option Value}{base:Heap}{xv:Nat->Value}{cls:Nat->Addr}
abbrev zuk:List Str:=["tree","party","guests","many"]
abbrev zmA:List Str:=["tree","party"]
theorem zjT:za6 zuk zmA (zak (top 18)):=⟨rfl,rfl,rfl,xwD,rfl,xwD,xwD⟩
abbrev zgB:List Str:=["tree","party","guests","many","guest"]
theorem znY:zgB.Nodup:=by decide +kernel
noncomputable def zvr:DS:=(za3 (zbi 2 (zai zdj (dR (zab 0) dR0))) (za3 (zbi 3 (dFn zc3 (dA (dFz (zb9 (dIt (zab 2)) (zb7 4) (dTB (dOp (gIn false) (zab 4) (zab 1))) (zab 4) 1)) dA0))) (za3 (dIf (dTB (dOp (gEq false) (zab 3) (dC (.int 0)))) (zbt (dC (.int 0))) dNx) (zbt (zk7 (dTB (dOp (gEq false) (zab 3) (dFn zc3 (dA (zab 2) dA0)))) (dC (.int 2)) (dC (.int 1)))))))
noncomputable def zbl:FD:=za1 false [false,false] 2 zvr
theorem zf4(T:Tx K mg):Dfn false P w K mg base CX0 xv 19 (Str.ofString "share") [false,false] zbl:=by obtain ⟨f,fd,U,hm⟩:=T.u_share;refine ⟨f,fd,zmA,?_,hm,U.kp,U.binds (ps:=zmA) λ_ _ _ _ _ _ us hl=>match us,hl with|[_,_],_=>rfl,zap⟩;refine zaC (k:=18) false zaB U zjT rfl rfl λX C hX hpp hxv hnw hr hx hpo=>?_;subst hxv;obtain ⟨cdv,A,outer,s,H,E,rfl⟩:=hX;exact (zaf (zaP (i:=2) zjT.nd rfl xwO (by rw[hpp];decide) (zaL (zhq T) hr xwo zaE (zae (zaa 0) zaq))) (zaf (zaP (i:=3) zjT.nd rfl xwO (by rw[hpp];decide) (zeA T.b_len (za9 (zcU (zcB (zaa 2)) rfl (N':=zgB) (m:=1) xwk rfl (zbg xwk) (zbW xwk) (zbX xwk) (λcl L s H fp G H' w Y=>⟨(zaV (i:=4) znY rfl xwO (xwN rfl)),(zea (zwa (zt7 hr) (zaa 4) (zaa 1))),(zaa 4)⟩))))) (zaf (zcd (zfi (zfU hr) (zaa 3) zam) (zah (zaA hnw (zbG rfl T.g_NONE_OF_THEM.choose_spec))) zaQ) (zah (zaA hnw (ziC (zfi (zfU hr) (zaa 3) (zeA T.b_len (zaa 2))) (zbG rfl T.g_ALL_OF_THEM.choose_spec) (zbG rfl T.g_SOME_OF_THEM.choose_spec)))))))
abbrev zlp:List Str:=["branches","party","wanted"]
abbrev zeQ:List Str:=["branches","party","wanted"]
theorem zjx:za6 zlp zeQ (zak (top 19)):=⟨rfl,rfl,rfl,xwD,rfl,xwD,xwD⟩
abbrev zdQ:List Str:=["branches","party","wanted","branch"]
theorem zhY:zdQ.Nodup:=by decide +kernel
noncomputable def zkr:DS:=(zbt (dFz (zb9 (dIt (zab 0)) (zb7 3) (dTB (dOp (gEq false) (zai zbl (dR (zab 3) (dR (zab 1) dR0))) (zab 2))) (zab 3) 1)))
noncomputable def zax:FD:=za1 false [false,false,false] 0 zkr
theorem zbo(T:Tx K mg):Dfn false P w K mg base CX0 xv 22 (Str.ofString "with_share") [false,false,false] zax:=by obtain ⟨f,fd,U,hm⟩:=T.u_with_share;refine ⟨f,fd,zeQ,?_,hm,U.kp,U.binds (ps:=zeQ) λ_ _ _ _ _ _ us hl=>match us,hl with|[_,_,_],_=>rfl,zap⟩;refine zaC (k:=21) false zaB U zjx rfl rfl λX C hX hpp hxv hnw hr hx hpo=>?_;subst hxv;obtain ⟨cdv,A,outer,s,H,E,rfl⟩:=hX;exact (zah (zaA hnw (za9 (zcU (zcB (zaa 0)) rfl (N':=zdQ) (m:=1) xwk rfl (zbg xwk) (zbW xwk) (zbX xwk) (λcl L s H fp G H' w Y=>⟨(zaV (i:=3) zhY rfl xwO (xwN rfl)),(zea (zfi (zfU hr) (zaL (zf4 T) hr xwo zaE (zae (zaa 3) (zae (zaa 1) zaq))) (zaa 2))),(zaa 3)⟩)))))
abbrev zpU:List Str:=["branches"]
abbrev zhQ:List Str:=["branches"]
theorem zoE:za6 zpU zhQ (zak (top 20)):=⟨rfl,rfl,rfl,xwD,rfl,xwD,xwD⟩
noncomputable def zpi:DS:=(za3 (dIf (dTB (dOp gLt (dFn zc3 (dA (zab 0) dA0)) (dC (.int 2)))) (ze5 (ze3 ziq (dA (zab 0) dA0))) dNx) (ze5 (zdg (dA (zfp (dA (dC (.str (Str.ofString "any"))) (dA (dFn zdd (dA (zab 0) dA0)) dA0))) dA0))))
noncomputable def zb6:FD:=za1 true [false] 0 zpi
theorem zgd(T:Tx K mg):Dfn true P w K mg base CX0 xv 3 (Str.ofString "bunched") [false] zb6:=by obtain ⟨f,fd,U,hm⟩:=T.u_bunched;refine ⟨f,fd,zhQ,?_,hm,U.kp,U.binds (ps:=zhQ) λ_ _ _ _ _ _ us hl=>match us,hl with|[_],_=>rfl,zap⟩;refine zaC (k:=2) true zaB U zoE rfl rfl λX C hX hpp hxv hnw hr hx hpo=>?_;subst hxv;obtain ⟨cdv,A,outer,s,H,E,rfl⟩:=hX;exact (zaf (zcd (zvc (zeA T.b_len (zaa 0)) zam) (zah (zd6 hnw (zq2 T.b_list (zaa 0)))) zaQ) (zah (zd6 hnw (zb8 (zao (zdn (zao zfV (zao (zfz T.b_tuple (zaa 0)) za2))) za2)))))
abbrev zhE:List Str:=["tree","party","branches","torn","ahead"]
abbrev zcV:List Str:=["tree","party"]
theorem zbP:za6 zhE zcV (zak (top 21)):=⟨rfl,rfl,rfl,xwD,rfl,xwD,xwD⟩
noncomputable def zeU:DS:=(za3 (zbi 2 (dOp gIx (zab 0) (dC (.int 1)))) (za3 (dIf (dTB (dOp (gEq false) (dOp gIx (zab 0) (dC (.int 0))) (dC (.str (Str.ofString "any"))))) (za3 (zbi 3 (zai zax (dR (zab 2) (dR (zab 1) (dR (dC (.int 1)) dR0))))) (za3 (zbi 4 (dFz (zbn zb6 (dR (zai zax (dR (zab 2) (dR (zab 1) (dR (dC (.int 0)) dR0)))) dR0)))) (ze5 (zig (dFz (zig (zab 4) (zab 3))) (dFz (zbn zb6 (dR (zai zax (dR (zab 2) (dR (zab 1) (dR (dC (.int 2)) dR0)))) dR0))))))) dNx) (za3 (dIf (dTB (dOp gGt (zai zbl (dR (dOp gIx (zab 2) (dC (.int 0))) (dR (zab 1) dR0))) (zai zbl (dR (dOp gIx (zab 2) (zqZ (dC (.int 1)))) (dR (zab 1) dR0))))) (ze5 (zp2 (zab 2))) dNx) (ze5 (ze3 ziq (dA (zab 2) dA0))))))
noncomputable def zdf:FD:=za1 true [false,false] 3 zeU
theorem zhx(T:Tx K mg):Dfn true P w K mg base CX0 xv 25 (Str.ofString "leaning_order") [false,false] zdf:=by obtain ⟨f,fd,U,hm⟩:=T.u_leaning_order;refine ⟨f,fd,zcV,?_,hm,U.kp,U.binds (ps:=zcV) λ_ _ _ _ _ _ us hl=>match us,hl with|[_,_],_=>rfl,zap⟩;refine zaC (k:=24) true zaB U zbP rfl rfl λX C hX hpp hxv hnw hr hx hpo=>?_;subst hxv;obtain ⟨cdv,A,outer,s,H,E,rfl⟩:=hX;exact (zaf (zaP (i:=2) zbP.nd rfl xwO (by rw[hpp];decide) (zby (zaa 0) zam)) (zaf (zcd (zfi (zfU hr) (zby (zaa 0) zam) zfV) (zaf (zaP (i:=3) zbP.nd rfl xwO (by rw[hpp];decide) (zaL (zbo T) hr xwo zaE (zae (zaa 2) (zae (zaa 1) (zae (zbG rfl T.g_SOME_OF_THEM.choose_spec) zaq))))) (zaf (zaP (i:=4) zbP.nd rfl xwO (by rw[hpp];decide) (za9 (zjk (zgd T) hr xwo zaE (zae (zaL (zbo T) hr xwo zaE (zae (zaa 2) (zae (zaa 1) (zae (zbG rfl T.g_NONE_OF_THEM.choose_spec) zaq)))) zaq)))) (zah (zd6 hnw (zg8 (za9 (zg8 (zaa 4) (zaa 3))) (za9 (zjk (zgd T) hr xwo zaE (zae (zaL (zbo T) hr xwo zaE (zae (zaa 2) (zae (zaa 1) (zae (zbG rfl T.g_ALL_OF_THEM.choose_spec) zaq)))) zaq)))))))) zaQ) (zaf (zcd (zp8 (zaL (zf4 T) hr xwo zaE (zae (zby (zaa 2) zam) (zae (zaa 1) zaq))) (zaL (zf4 T) hr xwo zaE (zae (zby (zaa 2) (zpv zam)) (zae (zaa 1) zaq)))) (zah (zd6 hnw (zrj rfl rfl T.b_list rfl T.b_reversed (zaa 2)))) zaQ) (zah (zd6 hnw (zq2 T.b_list (zaa 2)))))))
abbrev zvG:List Str:=["order","party","pieces","branch","more"]
abbrev zqx:List Str:=["order","party"]
theorem zhN:za6 zvG zqx (zak (top 23)):=⟨rfl,rfl,rfl,xwD,rfl,xwD,xwD⟩
noncomputable def ztc(F_m:FD):DS:=(za3 (zck 2 (zdg dA0)) (za3 (zgE (dIt (zab 0)) (zb7 3) (za3 (zbi 4 (zai F_m (dR (zab 3) (dR (zab 1) dR0)))) (za3 (dIf (dTB (dOp gGt (zrE 2 (zab 1) (dC (.int 2)) zax) (dC (.int 0)))) (zbi 4 (dFz (zgI (zab 4)))) dNx) (dEx (zgH 2 (zab 4)))))) (zbt (zfl 2))))
noncomputable def ziE(F_m:FD):FD:=za1 false [false,false] 3 (ztc F_m)
theorem zsM(T:Tx K mg){F_m:FD}{km:Nat}(hkm:22<=km)(DM:Dfn false P w K mg base CX0 xv km (Str.ofString "leaned") [false,false] F_m):Dfn false P w K mg base CX0 xv (km+3) (Str.ofString "laid") [false,false] (ziE F_m):=by obtain ⟨f,fd,U,hm⟩:=T.u_laid;refine ⟨f,fd,zqx,?_,hm,U.kp,U.binds (ps:=zqx) λ_ _ _ _ _ _ us hl=>match us,hl with|[_,_],_=>rfl,zap⟩;refine zaC (k:=km+2) false zaB U zhN rfl rfl λX C hX hpp hxv hnw hr hx hpo=>?_;subst hxv;obtain ⟨cdv,A,outer,s,H,E,rfl⟩:=hX;exact (zaf (zcZ (i:=2) zhN.nd rfl xwO (by rw[hpp];decide) (zb8 za2)) (zaf (zev hpo rfl (zcB (zaa 0)) (zaV (i:=3) zhN.nd rfl xwO (by rw[hpp];decide)) (zaf (zaP (i:=4) zhN.nd rfl xwO (by rw[hpp];decide) (zaL DM hr xwo zaE (zae (zaa 3) (zae (zaa 1) zaq)))) (zaf (zcd (zp8 (ztL 2 (zbo T) hr xwo zaE T.b_len (zaa 1) (zbG rfl T.g_ALL_OF_THEM.choose_spec)) zam) (zah (zaP (i:=4) zhN.nd rfl xwO (by rw[hpp];decide) (za9 (zoW rfl rfl T.b_list rfl T.b_reversed (zaa 4))))) zaQ) (zah (zci (zmG 2 (zaa 4))))))) (zah (zaA hnw (zeE 2)))))
abbrev zsp:List Str:=["tree","party"]
abbrev zgU:List Str:=["tree","party"]
theorem zqO:za6 zsp zgU (zak (top 22)):=⟨rfl,rfl,rfl,xwD,rfl,xwD,xwD⟩
noncomputable def zj0(F_self:FD):DS:=(za3 (dIf (dTB (dOp (gEq true) (zai zbl (dR (zab 0) (dR (zab 1) dR0))) (dC (.int 1)))) (zbt (dFz (zdg (dA (zab 0) dA0)))) dNx) (zbt (zai (ziE F_self) (dR (dFz (zbn zdf (dR (zab 0) (dR (zab 1) dR0)))) (dR (zab 1) dR0)))))
noncomputable def zdy:Nat->FD
 |0=>λ_=>.no
 |n+1=>za1 false [false,false] 0 (zj0 (zdy n))
theorem znI(T:Tx K mg):∀ n,Dfn false P w K mg base CX0 xv (4 * n+27) (Str.ofString "leaned") [false,false] (zdy n)
 |0=>by obtain ⟨f,fd,U,hm⟩:=T.u_leaned;exact zds rfl U hm (U.binds (ps:=zgU) λ_ _ _ _ _ _ us hl=>match us,hl with|[_,_],_=>rfl)
 |n+1=>by have DS:=znI T n;obtain ⟨f,fd,U,hm⟩:=T.u_leaned;refine ⟨f,fd,zgU,?_,hm,U.kp,U.binds (ps:=zgU) λ_ _ _ _ _ _ us hl=>match us,hl with|[_,_],_=>rfl,zap⟩;refine zgt.mono (j:=(4 * n+30)+1) ?_ xwo;refine zaC (k:=4 * n+30) false zaB U zqO rfl rfl λX C hX hpp hxv hnw hr hx hpo=>?_;subst hxv;obtain ⟨cdv,A,outer,s,H,E,rfl⟩:=hX;exact (zaf (zcd (znR (zfU hr) (zaL (zf4 T) hr xwo zaE (zae (zaa 0) (zae (zaa 1) zaq))) (zbG rfl T.g_SOME_OF_THEM.choose_spec)) (zah (zaA hnw (za9 (zb8 (zao (zaa 0) za2))))) zaQ) (zah (zaA hnw (zaL (zsM T xwo DS) hr xwo zaE (zae (za9 (zjk (zhx T) hr xwo zaE (zae (zaa 0) (zae (zaa 1) zaq)))) (zae (zaa 1) zaq))))))
abbrev zod:List Str:=["order","party","pieces","places"]
abbrev zgl:List Str:=["order","party"]
theorem zfB:za6 zod zgl (zak (top 24)):=⟨rfl,rfl,rfl,xwD,rfl,xwD,xwD⟩
abbrev zeR:List Str:=["order","party","pieces","places","place","piece"]
theorem zj3:zeR.Nodup:=by decide +kernel
noncomputable def ziU:DS:=(za3 (zbi 2 (zai (ziE (zdy 8)) (dR (zab 0) (dR (zab 1) dR0)))) (za3 (zbi 3 (dFz (zb9 (zoe (zab 2)) (zgo 4 5) (dTB (dOp (gEq false) (zai zbl (dR (zab 5) (dR (zab 1) dR0))) (dC (.int 2)))) (zab 4) 2))) (zbt (zk7 (dTB (dOp (gEq false) (dOp zk4 (dOp gIx (zab 3) (zqZ (dC (.int 1)))) (dOp gIx (zab 3) (dC (.int 0)))) (dOp zk4 (dFn zc3 (dA (zab 3) dA0)) (dC (.int 1))))) (zab 2) (dC .non)))))
noncomputable def zcT:FD:=za1 false [false,false] 2 ziU
theorem ziH(T:Tx K mg):Dfn false P w K mg base CX0 xv 65 (Str.ofString "touching") [false,false] zcT:=by obtain ⟨f,fd,U,hm⟩:=T.u_touching;refine ⟨f,fd,zgl,?_,hm,U.kp,U.binds (ps:=zgl) λ_ _ _ _ _ _ us hl=>match us,hl with|[_,_],_=>rfl,zap⟩;refine zaC (k:=64) false zaB U zfB rfl rfl λX C hX hpp hxv hnw hr hx hpo=>?_;subst hxv;obtain ⟨cdv,A,outer,s,H,E,rfl⟩:=hX;exact (zaf (zaP (i:=2) zfB.nd rfl xwO (by rw[hpp];decide) (zaL (zsM T xwo (znI T 8)) hr xwo zaE (zae (zaa 0) (zae (zaa 1) zaq)))) (zaf (zgz (i:=3) zfB.nd rfl xwO (by rw[hpp];decide) (ztG rfl T.b_enumerate (zaa 2)) rfl (N':=zeR) (m:=2) xwk rfl (zbg xwk) (zbW xwk) (zbX xwk) (λcl L s H fp G H' w Y=>⟨(zqN (i:=4) (j:=5) rfl zj3 rfl rfl xwO xwO (xwN rfl) (xwN rfl)),(zea (zfi (zfU hr) (zaL (zf4 T) hr xwo zaE (zae (zaa 5) (zae (zaa 1) zaq))) (zbG rfl T.g_ALL_OF_THEM.choose_spec))),(zaa 4)⟩)) (zah (zaA hnw (ziC (zfi (zfU hr) (zkD (zby (zaa 3) (zpv zam)) (zby (zaa 3) zam)) (zkD (zeA T.b_len (zaa 3)) zam)) (zaa 2) zja)))))
abbrev zjO:List Str:=["branches","party","torn","core","pieces","inner"]
abbrev zeb:List Str:=["branches","party"]
theorem zbK:za6 zjO zeb (zak (top 25)):=⟨rfl,rfl,rfl,xwD,rfl,xwD,xwD⟩
noncomputable def zfS:DS:=(za3 (zbi 2 (zai zax (dR (zab 0) (dR (zab 1) (dR (dC (.int 1)) dR0))))) (za3 (zbi 3 (dFz (zbn zb6 (dR (zai zax (dR (zab 0) (dR (zab 1) (dR (dC (.int 2)) dR0)))) dR0)))) (za3 (zbi 4 (zai zcT (dR (dFz (zig (dFz (zig (dFz (zk8 (zab 2) dO0 (dO1 (dC (.int 1))))) (zab 3))) (dFz (zk8 (zab 2) (dO1 (dC (.int 1))) dO0)))) (dR (zab 1) dR0)))) (za3 (dIf (zu6 true (zab 4)) (zbt (dC .non)) dNx) (za3 (zbi 5 (zk7 (dTB (dOp (gEq false) (dFn zc3 (dA (zab 4) dA0)) (dC (.int 1)))) (dOp gIx (zab 4) (dC (.int 0))) (zfp (dA (dC (.str (Str.ofString "row"))) (dA (dFn zdd (dA (zab 4) dA0)) dA0))))) (zbt (dOp gIx (dFz (zbn zb6 (dR (dFz (zig (zai zax (dR (zab 0) (dR (zab 1) (dR (dC (.int 0)) dR0)))) (dFz (zdg (dA (zab 5) dA0))))) dR0))) (dC (.int 0)))))))))
noncomputable def zcO:FD:=za1 false [false,false] 4 zfS
theorem zjp(T:Tx K mg):Dfn false P w K mg base CX0 xv 68 (Str.ofString "tighten_any") [false,false] zcO:=by obtain ⟨f,fd,U,hm⟩:=T.u_tighten_any;refine ⟨f,fd,zeb,?_,hm,U.kp,U.binds (ps:=zeb) λ_ _ _ _ _ _ us hl=>match us,hl with|[_,_],_=>rfl,zap⟩;refine zaC (k:=67) false zaB U zbK rfl rfl λX C hX hpp hxv hnw hr hx hpo=>?_;subst hxv;obtain ⟨cdv,A,outer,s,H,E,rfl⟩:=hX;exact (zaf (zaP (i:=2) zbK.nd rfl xwO (by rw[hpp];decide) (zaL (zbo T) hr xwo zaE (zae (zaa 0) (zae (zaa 1) (zae (zbG rfl T.g_SOME_OF_THEM.choose_spec) zaq))))) (zaf (zaP (i:=3) zbK.nd rfl xwO (by rw[hpp];decide) (za9 (zjk (zgd T) hr xwo zaE (zae (zaL (zbo T) hr xwo zaE (zae (zaa 0) (zae (zaa 1) (zae (zbG rfl T.g_ALL_OF_THEM.choose_spec) zaq)))) zaq)))) (zaf (zaP (i:=4) zbK.nd rfl xwO (by rw[hpp];decide) (zaL (ziH T) hr xwo zaE (zae (za9 (zg8 (za9 (zg8 (za9 (zl3 (zaa 2) zfJ (zdR zam))) (zaa 3))) (za9 (zl3 (zaa 2) (zdR zam) zfJ)))) (zae (zaa 1) zaq)))) (zaf (zcd (zqL (zaa 4)) (zah (zaA hnw zja)) zaQ) (zaf (zaP (i:=5) zbK.nd rfl xwO (by rw[hpp];decide) (ziC (zfi (zfU hr) (zeA T.b_len (zaa 4)) zam) (zby (zaa 4) zam) (zdn (zao zfV (zao (zfz T.b_tuple (zaa 4)) za2))))) (zah (zaA hnw (zby (za9 (zjk (zgd T) hr xwo zaE (zae (za9 (zg8 (zaL (zbo T) hr xwo zaE (zae (zaa 0) (zae (zaa 1) (zae (zbG rfl T.g_NONE_OF_THEM.choose_spec) zaq)))) (za9 (zb8 (zao (zaa 5) za2))))) zaq))) zam))))))))
abbrev zkc:List Str:=["branches","party","pieces"]
abbrev zej:List Str:=["branches","party"]
theorem zfq:za6 zkc zej (zak (top 26)):=⟨rfl,rfl,rfl,xwD,rfl,xwD,xwD⟩
noncomputable def zj1:DS:=(za3 (zbi 2 (zai zcT (dR (zab 0) (dR (zab 1) dR0)))) (zbt (zk7 (zu6 true (zab 2)) (dC .non) (zfp (dA (dC (.str (Str.ofString "row"))) (dA (dFn zdd (dA (zab 2) dA0)) dA0))))))
noncomputable def zcP:FD:=za1 false [false,false] 1 zj1
theorem zjX(T:Tx K mg):Dfn false P w K mg base CX0 xv 68 (Str.ofString "tighten_row") [false,false] zcP:=by obtain ⟨f,fd,U,hm⟩:=T.u_tighten_row;refine ⟨f,fd,zej,?_,hm,U.kp,U.binds (ps:=zej) λ_ _ _ _ _ _ us hl=>match us,hl with|[_,_],_=>rfl,zap⟩;refine zaC (k:=67) false zaB U zfq rfl rfl λX C hX hpp hxv hnw hr hx hpo=>?_;subst hxv;obtain ⟨cdv,A,outer,s,H,E,rfl⟩:=hX;exact (zaf (zaP (i:=2) zfq.nd rfl xwO (by rw[hpp];decide) (zaL (ziH T) hr xwo zaE (zae (zaa 0) (zae (zaa 1) zaq)))) (zah (zaA hnw (ziC (zqL (zaa 2)) zja (zdn (zao zfV (zao (zfz T.b_tuple (zaa 2)) za2)))))))
abbrev zgK:List Str:=["tree","party","branches","branch"]
abbrev zcG:List Str:=["tree","party"]
theorem zcw:za6 zgK zcG (zak (top 27)):=⟨rfl,rfl,rfl,xwD,rfl,xwD,xwD⟩
noncomputable def zcI(F_m:FD):DS:=(za3 (zck 2 (zdg dA0)) (za3 (zgE (dIt (dOp gIx (zab 0) (dC (.int 1)))) (zb7 3) (dIf (dTB (dOp (gEq false) (zai zbl (dR (zab 3) (dR (zab 1) dR0))) (dC (.int 0)))) (dEx (zcQ 2 (zab 3))) (dEx (zcQ 2 (zai F_m (dR (zab 3) (dR (zab 1) dR0))))))) (zbt (zk7 (dTB (zoH false 2 (dC .non))) (dC .non) (zfp (dA (dOp gIx (zab 0) (dC (.int 0))) (dA (dFn zdd (dA (zfl 2) dA0)) dA0)))))))
noncomputable def zbO(F_m:FD):FD:=za1 false [false,false] 2 (zcI F_m)
theorem zgR(T:Tx K mg){F_m:FD}{km:Nat}(hkm:19<=km)(DM:Dfn false P w K mg base CX0 xv km (Str.ofString "tighten") [false,false] F_m):Dfn false P w K mg base CX0 xv (km+3) (Str.ofString "tighten_within") [false,false] (zbO F_m):=by obtain ⟨f,fd,U,hm⟩:=T.u_tighten_within;refine ⟨f,fd,zcG,?_,hm,U.kp,U.binds (ps:=zcG) λ_ _ _ _ _ _ us hl=>match us,hl with|[_,_],_=>rfl,zap⟩;refine zaC (k:=km+2) false zaB U zcw rfl rfl λX C hX hpp hxv hnw hr hx hpo=>?_;subst hxv;obtain ⟨cdv,A,outer,s,H,E,rfl⟩:=hX;exact (zaf (zcZ (i:=2) zcw.nd rfl xwO (by rw[hpp];decide) (zb8 za2)) (zaf (zev hpo rfl (zcB (zby (zaa 0) zam)) (zaV (i:=3) zcw.nd rfl xwO (by rw[hpp];decide)) (zah (zcd (zfi (zfU hr) (zaL (zf4 T) hr xwo zaE (zae (zaa 3) (zae (zaa 1) zaq))) (zbG rfl T.g_NONE_OF_THEM.choose_spec)) (zah (zci (zf1 2 (zaa 3)))) (zah (zci (zf1 2 (zaL DM hr xwo zaE (zae (zaa 3) (zae (zaa 1) zaq))))))))) (zah (zaA hnw (ziC (zsR 2 (zt7 hr) zja) zja (zdn (zao (zby (zaa 0) zam) (zao (zfz T.b_tuple (zeE 2)) za2))))))))
abbrev zoL:List Str:=["tree","party","strange"]
abbrev zge:List Str:=["tree","party"]
theorem ziS:za6 zoL zge (zak (top 28)):=⟨rfl,rfl,rfl,xwD,rfl,xwD,xwD⟩
noncomputable def zh1(F_self:FD):DS:=(za3 (dIf (dTB (dOp (gEq false) (zai zbl (dR (zab 0) (dR (zab 1) dR0))) (dC (.int 2)))) (zbt (zab 0)) dNx) (za3 (zbi 2 (zai zax (dR (dOp gIx (zab 0) (dC (.int 1))) (dR (zab 1) (dR (dC (.int 0)) dR0))))) (za3 (dIf (dTB (dOp (gEq false) (dFn zc3 (dA (zab 2) dA0)) (dOp zk4 (dFn zc3 (dA (dOp gIx (zab 0) (dC (.int 1))) dA0)) (dC (.int 1))))) (zbt (zai (zbO F_self) (dR (zab 0) (dR (zab 1) dR0)))) dNx) (za3 (dIf (dTB (dOp (gEq false) (dOp gIx (zab 0) (dC (.int 0))) (dC (.str (Str.ofString "any"))))) (zbt (zai zcO (dR (dOp gIx (zab 0) (dC (.int 1))) (dR (zab 1) dR0)))) dNx) (zbt (zai zcP (dR (dOp gIx (zab 0) (dC (.int 1))) (dR (zab 1) dR0))))))))
noncomputable def zeN:Nat->FD
 |0=>λ_=>.no
 |n+1=>za1 false [false,false] 1 (zh1 (zeN n))
theorem zkw(T:Tx K mg):∀ n,Dfn false P w K mg base CX0 xv (4 * n+70) (Str.ofString "tighten") [false,false] (zeN n)
 |0=>by obtain ⟨f,fd,U,hm⟩:=T.u_tighten;exact zds rfl U hm (U.binds (ps:=zge) λ_ _ _ _ _ _ us hl=>match us,hl with|[_,_],_=>rfl)
 |n+1=>by have DS:=zkw T n;obtain ⟨f,fd,U,hm⟩:=T.u_tighten;refine ⟨f,fd,zge,?_,hm,U.kp,U.binds (ps:=zge) λ_ _ _ _ _ _ us hl=>match us,hl with|[_,_],_=>rfl,zap⟩;refine zgt.mono (j:=(4 * n+73)+1) ?_ xwo;refine zaC (k:=4 * n+73) false zaB U ziS rfl rfl λX C hX hpp hxv hnw hr hx hpo=>?_;subst hxv;obtain ⟨cdv,A,outer,s,H,E,rfl⟩:=hX;exact (zaf (zcd (zfi (zfU hr) (zaL (zf4 T) hr xwo zaE (zae (zaa 0) (zae (zaa 1) zaq))) (zbG rfl T.g_ALL_OF_THEM.choose_spec)) (zah (zaA hnw (zaa 0))) zaQ) (zaf (zaP (i:=2) ziS.nd rfl xwO (by rw[hpp];decide) (zaL (zbo T) hr xwo zaE (zae (zby (zaa 0) zam) (zae (zaa 1) (zae (zbG rfl T.g_NONE_OF_THEM.choose_spec) zaq))))) (zaf (zcd (zfi (zfU hr) (zeA T.b_len (zaa 2)) (zkD (zeA T.b_len (zby (zaa 0) zam)) zam)) (zah (zaA hnw (zaL (zgR T xwo DS) hr xwo zaE (zae (zaa 0) (zae (zaa 1) zaq))))) zaQ) (zaf (zcd (zfi (zfU hr) (zby (zaa 0) zam) zfV) (zah (zaA hnw (zaL (zjp T) hr xwo zaE (zae (zby (zaa 0) zam) (zae (zaa 1) zaq))))) zaQ) (zah (zaA hnw (zaL (zjX T) hr xwo zaE (zae (zby (zaa 0) zam) (zae (zaa 1) zaq)))))))))
abbrev zlU:List Str:=["n","tree","party","tight"]
abbrev zfw:List Str:=["n","tree","party"]
theorem zgG:za6 zlU zfw (zak (top 29)):=⟨rfl,rfl,rfl,xwD,rfl,xwD,xwD⟩
noncomputable def zlO:DS:=(za3 (dEx (zai zbv (dR (zab 0) dR0))) (za3 (zbi 3 (zai (zeN 8) (dR (zab 1) (dR (zab 2) dR0)))) (zbt (zk7 (zu6 true (zab 3)) (dC .non) (zai (zbs 8) (dR (zab 3) dR0))))))
noncomputable def zf7:FD:=za1 false [false,false,false] 1 zlO
theorem zmH(T:Tx K mg):Dfn false P w K mg base CX0 xv 105 (Str.ofString "tightened") [false,false,false] zf7:=by obtain ⟨f,fd,U,hm⟩:=T.u_tightened;refine ⟨f,fd,zfw,?_,hm,U.kp,U.binds (ps:=zfw) λ_ _ _ _ _ _ us hl=>match us,hl with|[_,_,_],_=>rfl,zap⟩;refine zaC (k:=104) false zaB U zgG rfl rfl λX C hX hpp hxv hnw hr hx hpo=>?_;subst hxv;obtain ⟨cdv,A,outer,s,H,E,rfl⟩:=hX;exact (zaf (zci (zaL (zd3 T) hr xwo zaE (zae (zaa 0) zaq))) (zaf (zaP (i:=3) zgG.nd rfl xwO (by rw[hpp];decide) (zaL (zkw T 8) hr xwo zaE (zae (zaa 1) (zae (zaa 2) zaq)))) (zah (zaA hnw (ziC (zqL (zaa 3)) zja (zaL (zfE T 8) hr xwo zaE (zae (zaa 3) zaq)))))))
abbrev zo8:List Str:=["n","tree","party"]
abbrev zg2:List Str:=["n","tree","party"]
theorem zlW:za6 zo8 zg2 (zak (top 30)):=⟨rfl,rfl,rfl,xwD,rfl,xwD,xwD⟩
noncomputable def znX:DS:=(zbt (dOp (gEq false) (zai zf7 (dR (zab 0) (dR (zab 1) (dR (zab 2) dR0)))) (zai zeF (dR (zab 0) (dR (zab 1) dR0)))))
noncomputable def zg1:FD:=za1 false [false,false,false] 0 znX
theorem zo9(T:Tx K mg):Dfn false P w K mg base CX0 xv 108 (Str.ofString "holds_in") [false,false,false] zg1:=by obtain ⟨f,fd,U,hm⟩:=T.u_holds_in;refine ⟨f,fd,zg2,?_,hm,U.kp,U.binds (ps:=zg2) λ_ _ _ _ _ _ us hl=>match us,hl with|[_,_,_],_=>rfl,zap⟩;refine zaC (k:=107) false zaB U zlW rfl rfl λX C hX hpp hxv hnw hr hx hpo=>?_;subst hxv;obtain ⟨cdv,A,outer,s,H,E,rfl⟩:=hX;exact (zah (zaA hnw (zon (zfU hr) (zaL (zmH T) hr xwo zaE (zae (zaa 0) (zae (zaa 1) (zae (zaa 2) zaq)))) (zaL (zku T) hr xwo zaE (zae (zaa 0) (zae (zaa 1) zaq))))))
abbrev zjN:List Str:=["n","parties","guest"]
abbrev zee:List Str:=["n"]
theorem zc0:za6 zjN zee (zak (top 32)):=⟨rfl,rfl,rfl,xwD,rfl,xwD,xwD⟩
abbrev zdu:List Str:=["n","parties","guest","party"]
theorem zgQ:zdu.Nodup:=by decide +kernel
noncomputable def zj9:DS:=(za3 (zbi 1 (dFz (zdg dA0))) (za3 (zgE (zdM (zab 0)) (zb7 2) (zbi 1 (dFz (zig (zab 1) (dFz (zb9 (dIt (dFz (zig (dFz (zdg (dA (zfp dA0) dA0))) (zab 1)))) (zb7 3) dTT (dOp zis (zab 3) (zfp (dA (zab 2) dA0))) 1)))))) (ze5 (ze3 zhr (dA (zab 1) dA0)))))
noncomputable def zcL:FD:=za1 true [false] 2 zj9
theorem zjE(T:Tx K mg):Dfn true P w K mg base CX0 xv 3 (Str.ofString "all_parties") [false] zcL:=by obtain ⟨f,fd,U,hm⟩:=T.u_all_parties;refine ⟨f,fd,zee,?_,hm,U.kp,U.binds (ps:=zee) λ_ _ _ _ _ _ us hl=>match us,hl with|[_],_=>rfl,zap⟩;refine zaC (k:=2) true zaB U zc0 rfl rfl λX C hX hpp hxv hnw hr hx hpo=>?_;subst hxv;obtain ⟨cdv,A,outer,s,H,E,rfl⟩:=hX;exact (zaf (zaP (i:=1) zc0.nd rfl xwO (by rw[hpp];decide) (za9 (zb8 za2))) (zaf (zev hpo rfl (zde rfl T.b_range (zaa 0)) (zaV (i:=2) zc0.nd rfl xwO (by rw[hpp];decide)) (zah (zaP (i:=1) zc0.nd rfl xwO (by rw[hpp];decide) (za9 (zg8 (zaa 1) (za9 (zcU (zcB (za9 (zg8 (za9 (zb8 (zao (zdn za2) za2))) (zaa 1)))) rfl (N':=zdu) (m:=1) xwk rfl (zbg xwk) (zbW xwk) (zbX xwk) (λcl L s H fp G H' w Y=>⟨(zaV (i:=3) zgQ rfl xwO (xwN rfl)),zg7,(zqh (zaa 3) (zdn (zao (zaa 2) za2)))⟩)))))))) (zah (zd6 hnw (zny rfl T.b_sorted (zaa 1))))))
abbrev zi3:List Str:=["n","tree"]
abbrev zd4:List Str:=["n","tree"]
theorem zhV:za6 zi3 zd4 (zak (top 33)):=⟨rfl,rfl,rfl,xwD,rfl,xwD,xwD⟩
abbrev zdh:List Str:=["n","tree","party"]
theorem zgq:zdh.Nodup:=by decide +kernel
noncomputable def zim:DS:=(za3 (dEx (zai zbv (dR (zab 0) dR0))) (ze5 (zb9 (dIt (dFz (zbn zcL (dR (zab 0) dR0)))) (zb7 2) (dTB (zai zg1 (dR (zab 0) (dR (zab 1) (dR (zab 2) dR0))))) (zab 2) 1)))
noncomputable def zbN:FD:=za1 true [false,false] 0 zim
theorem zio(T:Tx K mg):Dfn true P w K mg base CX0 xv 111 (Str.ofString "kept_parties") [false,false] zbN:=by obtain ⟨f,fd,U,hm⟩:=T.u_kept_parties;refine ⟨f,fd,zd4,?_,hm,U.kp,U.binds (ps:=zd4) λ_ _ _ _ _ _ us hl=>match us,hl with|[_,_],_=>rfl,zap⟩;refine zaC (k:=110) true zaB U zhV rfl rfl λX C hX hpp hxv hnw hr hx hpo=>?_;subst hxv;obtain ⟨cdv,A,outer,s,H,E,rfl⟩:=hX;exact (zaf (zci (zaL (zd3 T) hr xwo zaE (zae (zaa 0) zaq))) (zah (zd6 hnw (zcU (zcB (za9 (zjk (zjE T) hr xwo zaE (zae (zaa 0) zaq)))) rfl (N':=zdh) (m:=1) xwk rfl (zbg xwk) (zbW xwk) (zbX xwk) (λcl L s H fp G H' w Y=>⟨(zaV (i:=2) zgq rfl xwO (xwN rfl)),(zea (zez (zaL (zo9 T) hr xwo zaE (zae (zaa 0) (zae (zaa 1) (zae (zaa 2) zaq)))))),(zaa 2)⟩)))))
end
section
variable{P:Program}{w:World}{K:W.Frag}{mg:Str->Option Value}{base:Heap}{xv:Nat->Value}{cls:Nat->Addr}
abbrev zir:List Str:=["script","k"]
abbrev zd2:List Str:=["script","k"]
theorem zhv:za6 zir zd2 (zak (top 35)):=⟨rfl,rfl,rfl,xwD,rfl,xwD,xwD⟩
noncomputable def zbM:DS:=(za3 (dIf (dTB (dOp gLt (zab 1) (dFn zc3 (dA (zab 0) dA0)))) (zbt (dOp gIx (zab 0) (zab 1))) dNx) (zbt (dC (.int 0))))
noncomputable def zc2:FD:=za1 false [false,false] 0 zbM
theorem zi4(T:Tx K mg):Dfn false P w K mg base CX0 xv 3 (Str.ofString "_law_cell_at") [false,false] zc2:=by obtain ⟨f,fd,U,hm⟩:=T.u__law_cell_at;refine ⟨f,fd,zd2,?_,hm,U.kp,U.binds (ps:=zd2) λ_ _ _ _ _ _ us hl=>match us,hl with|[_,_],_=>rfl,zap⟩;refine zaC (k:=2) false zaB U zhv rfl rfl λX C hX hpp hxv hnw hr hx hpo=>?_;subst hxv;obtain ⟨cdv,A,outer,s,H,E,rfl⟩:=hX;exact (zaf (zcd (zvc (zaa 1) (zeA T.b_len (zaa 0))) (zah (zaA hnw (zby (zaa 0) (zaa 1)))) zaQ) (zah (zaA hnw zam)))
abbrev zk5:List Str:=["script","k","cell"]
abbrev ze8:List Str:=["script","k"]
theorem zgf:za6 zk5 ze8 (zak (top 36)):=⟨rfl,rfl,rfl,xwD,rfl,xwD,xwD⟩
noncomputable def zc8:DS:=(za3 (zbi 2 (zai zc2 (dR (zab 0) (dR (zab 1) dR0)))) (za3 (dIf (dTB (dOp gGe (zab 2) (dOp zst (dC (.int 10)) (dC (.int 18))))) (ze5 (zdg (dA (dOp zk4 (zab 2) (dOp zst (dC (.int 10)) (dC (.int 18)))) (dA (dC (.bl true)) dA0)))) dNx) (ze5 (zdg (dA (dOp zow (zab 2) (dC (.int 2147483647))) (dA (dC (.bl false)) dA0))))))
noncomputable def zc5:FD:=za1 true [false,false] 1 zc8
theorem zly(T:Tx K mg):Dfn true P w K mg base CX0 xv 6 (Str.ofString "_law_state") [false,false] zc5:=by obtain ⟨f,fd,U,hm⟩:=T.u__law_state;refine ⟨f,fd,ze8,?_,hm,U.kp,U.binds (ps:=ze8) λ_ _ _ _ _ _ us hl=>match us,hl with|[_,_],_=>rfl,zap⟩;refine zaC (k:=5) true zaB U zgf rfl rfl λX C hX hpp hxv hnw hr hx hpo=>?_;subst hxv;obtain ⟨cdv,A,outer,s,H,E,rfl⟩:=hX;exact (zaf (zaP (i:=2) zgf.nd rfl xwO (by rw[hpp];decide) (zaL (zi4 T) hr xwo zaE (zae (zaa 0) (zae (zaa 1) zaq)))) (zaf (zcd (zxL (zaa 2) (ztz zam zam)) (zah (zd6 hnw (zb8 (zao (zkD (zaa 2) (ztz zam zam)) (zao zik za2))))) zaQ) (zah (zd6 hnw (zb8 (zao (ziJ (zaa 2) zam) (zao zik za2)))))))
abbrev zmq:List Str:=["state","many","found","stirred"]
abbrev zf5:List Str:=["state","many"]
theorem zdr:za6 zmq zf5 (zak (top 37)):=⟨rfl,rfl,rfl,xwD,rfl,xwD,xwD⟩
noncomputable def zfF:DS:=(za3 (dIf (dTB (zpQ 0 (dC (.int 1)))) (za3 (zbi 2 (dOp zow (zpQ 0 (dC (.int 0))) (zab 1))) (za3 (zpO 0 (dOp zss (zpQ 0 (dC (.int 0))) (zab 1)) (dC (.int 0))) (zbt (zab 2)))) dNx) (za3 (zpO 0 (dOp zow (dOp zeK (dOp zqq (zpQ 0 (dC (.int 0))) (dC (.int 48271))) (dC (.int 29))) (dC (.int 2147483647))) (dC (.int 0))) (za3 (zbi 3 (dOp zow (dOp zeK (dOp zeK (dOp zqq (zpQ 0 (dC (.int 0))) (zpQ 0 (dC (.int 0)))) (dOp zqq (dC (.int 39373)) (zpQ 0 (dC (.int 0))))) (dC (.int 7))) (dC (.int 2147483629)))) (za3 (zbi 3 (dOp zow (dOp zeK (dOp zqq (zab 3) (zab 3)) (dOp zqq (dC (.int 16807)) (zab 3))) (dC (.int 2147483587)))) (zbt (dOp zow (dOp zss (zab 3) (dC (.int 8))) (zab 1)))))))
noncomputable def zaw:FD:=za1 false [true,false] 2 zfF
theorem zdm(T:Tx K mg):Dfn false P w K mg base CX0 xv 3 (Str.ofString "_law_take") [true,false] zaw:=by obtain ⟨f,fd,U,hm⟩:=T.u__law_take;refine ⟨f,fd,zf5,?_,hm,U.kp,U.binds (ps:=zf5) λ_ _ _ _ _ _ us hl=>match us,hl with|[_,_],_=>rfl,zap⟩;refine zaC (k:=2) false zaB U zdr rfl rfl λX C hX hpp hxv hnw hr hx hpo=>?_;subst hxv;obtain ⟨cdv,A,outer,s,H,E,rfl⟩:=hX;exact (zaf (zcd (zez (zhK 0 (hb:=zam))) (zaf (zaP (i:=2) zdr.nd rfl xwO (by rw[hpp];decide) (ziJ (zhK 0 (hb:=zam)) (zaa 1))) (zaf (zpH 0 (ztg (zhK 0 (hb:=zam)) (zaa 1)) zam) (zah (zaA hnw (zaa 2))))) zaQ) (zaf (zpH 0 (ziJ (zfA (zlg (zhK 0 (hb:=zam)) zam) zam) zam) zam) (zaf (zaP (i:=3) zdr.nd rfl xwO (by rw[hpp];decide) (ziJ (zfA (zfA (zlg (zhK 0 (hb:=zam)) (zhK 0 (hb:=zam))) (zlg zam (zhK 0 (hb:=zam)))) zam) zam)) (zaf (zaP (i:=3) zdr.nd rfl xwO (by rw[hpp];decide) (ziJ (zfA (zlg (zaa 3) (zaa 3)) (zlg zam (zaa 3))) zam)) (zah (zaA hnw (ziJ (ztg (zaa 3) zam) (zaa 1))))))))
abbrev zgL:List Str:=["state","things","left","found"]
abbrev zcE:List Str:=["state","things"]
theorem zcn:za6 zgL zcE (zak (top 38)):=⟨rfl,rfl,rfl,xwD,rfl,xwD,xwD⟩
noncomputable def zcH:DS:=(za3 (zck 2 (ze3 ziq (dA (zab 1) dA0))) (za3 (zck 3 (zdg dA0)) (za3 (zb2 (dTB (zv4 true 2 (dFz (zdg dA0)))) (dEx (zcQ 3 (ziB 2 (zai zaw (dRO 0 (dR (zoD 2) dR0)))))) 10) (zbt (zfl 3)))))
noncomputable def zbS:FD:=za1 false [true,false] 2 zcH
theorem zgP(T:Tx K mg):Dfn false P w K mg base CX0 xv 6 (Str.ofString "_law_mixed_row") [true,false] zbS:=by obtain ⟨f,fd,U,hm⟩:=T.u__law_mixed_row;refine ⟨f,fd,zcE,?_,hm,U.kp,U.binds (ps:=zcE) λ_ _ _ _ _ _ us hl=>match us,hl with|[_,_],_=>rfl,zap⟩;refine zaC (k:=5) false zaB U zcn rfl rfl λX C hX hpp hxv hnw hr hx hpo=>?_;subst hxv;obtain ⟨cdv,A,outer,s,H,E,rfl⟩:=hX;exact (zaf (zcZ (i:=2) zcn.nd rfl xwO (by rw[hpp];decide) (zq2 T.b_list (zaa 1))) (zaf (zcZ (i:=3) zcn.nd rfl xwO (by rw[hpp];decide) (zb8 za2)) (zaf (znv 10 hpo (zwY 2 (zfU hr) (za9 (zb8 za2))) (zah (zci (zf1 3 (zrT 2 (zaL (zdm T) hr xwo zaE (zgA 0 (zae (ztQ 2 rfl T.b_len) zaq)))))))) (zah (zaA hnw (zeE 3))))))
abbrev zm4:List Str:=["state","guests","row","many","pieces","guest","branches"]
abbrev zdU:List Str:=["state","guests"]
theorem zbY:za6 zm4 zdU (zak (top 39)):=⟨rfl,rfl,rfl,xwD,rfl,xwD,xwD⟩
abbrev zey:List Str:=["state","guests","row","many","pieces","%5","branches","guest"]
theorem ziu:zey.Nodup:=by decide +kernel
abbrev ze0:List Str:=["state","guests","row","many","pieces","guest","branches","piece"]
theorem zit:ze0.Nodup:=by decide +kernel
noncomputable def zcq(F_self:FD):DS:=(za3 (dIf (dTB (dOp (gEq false) (dFn zc3 (dA (zab 1) dA0)) (dC (.int 1)))) (zbt (dOp gIx (zab 1) (dC (.int 0)))) dNx) (za3 (zbi 2 (zai zbS (dRO 0 (dR (zab 1) dR0)))) (za3 (zbi 3 (dOp zeK (dC (.int 2)) (zai zaw (dRO 0 (dR (dOp zk4 (dFn zc3 (dA (zab 2) dA0)) (dC (.int 1))) dR0))))) (za3 (znu 4 (dIt (dFz (zk8 (zab 2) dO0 (dO1 (zab 3))))) (zb7 7) dTT (zdg (dA (zab 7) dA0)) 1) (za3 (zgE (dIt (dFz (zk8 (zab 2) (dO1 (zab 3)) dO0))) (zb7 5) (dEx (zle 4 5 (zai zaw (dRO 0 (dR (zab 3) dR0)))))) (za3 (zbi 6 (dFn zdd (dA (dFz (zb9 (dIt (zfl 4)) (zb7 7) dTT (zai F_self (dRO 0 (dR (zab 7) dR0))) 1)) dA0))) (za3 (dIf (zlZ (dTB (dOp gGt (zab 3) (dC (.int 2)))) (dTB (dOp (gEq false) (zai zaw (dRO 0 (dR (dC (.int 2)) dR0))) (dC (.int 1))))) (zbt (zfp (dA (dC (.str (Str.ofString "row"))) (dA (zab 6) dA0)))) dNx) (zbt (zfp (dA (dC (.str (Str.ofString "any"))) (dA (zab 6) dA0)))))))))))
noncomputable def zaW:Nat->FD
 |0=>λ_=>.no
 |n+1=>za1 false [true,false] 5 (zcq (zaW n))
theorem zhS(T:Tx K mg):∀ n,Dfn false P w K mg base CX0 xv (n+8) (Str.ofString "_law_tree") [true,false] (zaW n)
 |0=>by obtain ⟨f,fd,U,hm⟩:=T.u__law_tree;exact zds rfl U hm (U.binds (ps:=zdU) λ_ _ _ _ _ _ us hl=>match us,hl with|[_,_],_=>rfl)
 |n+1=>by have DS:=zhS T n;obtain ⟨f,fd,U,hm⟩:=T.u__law_tree;refine ⟨f,fd,zdU,?_,hm,U.kp,U.binds (ps:=zdU) λ_ _ _ _ _ _ us hl=>match us,hl with|[_,_],_=>rfl,zap⟩;refine zgt.mono (j:=(n+8)+1) ?_ xwo;refine zaC (k:=n+8) false zaB U zbY rfl rfl λX C hX hpp hxv hnw hr hx hpo=>?_;subst hxv;obtain ⟨cdv,A,outer,s,H,E,rfl⟩:=hX;exact (zaf (zcd (zfi (zfU hr) (zeA T.b_len (zaa 1)) zam) (zah (zaA hnw (zby (zaa 1) zam))) zaQ) (zaf (zaP (i:=2) zbY.nd rfl xwO (by rw[hpp];decide) (zaL (zgP T) hr xwo zaE (zgA 0 (zae (zaa 1) zaq)))) (zaf (zaP (i:=3) zbY.nd rfl xwO (by rw[hpp];decide) (zfA zam (zaL (zdm T) hr xwo zaE (zgA 0 (zae (zkD (zeA T.b_len (zaa 2)) zam) zaq))))) (zaf (zmE (i:=4) zbY.nd rfl xwO (by rw[hpp];decide) (zcB (za9 (zl3 (zaa 2) zfJ (zdR (zaa 3))))) rfl (N':=zey) (m:=1) xwk rfl (zbg xwk) (zbW xwk) (zbX xwk) (λcl L s H fp G H' w Y=>⟨(zaV (i:=7) ziu rfl xwO (xwN rfl)),zg7,(zb8 (zao (zaa 7) za2))⟩)) (zaf (zev hpo rfl (zcB (za9 (zl3 (zaa 2) (zdR (zaa 3)) zfJ))) (zaV (i:=5) zbY.nd rfl xwO (by rw[hpp];decide)) (zah (zci (zvh 4 5 (zaL (zdm T) hr xwo zaE (zgA 0 (zae (zaa 3) zaq))))))) (zaf (zaP (i:=6) zbY.nd rfl xwO (by rw[hpp];decide) (zfz T.b_tuple (za9 (zcU (zcB (zeE 4)) rfl (N':=ze0) (m:=1) xwk rfl (zbg xwk) (zbW xwk) (zbX xwk) (λcl L s H fp G H' w Y=>⟨(zaV (i:=7) zit rfl xwO (xwN rfl)),zg7,(zaL DS hr (wal _) zaE (zgA 0 (zae (zaa 7) zaq)))⟩))))) (zaf (zcd (JW.jt (zwj (zp8 (zaa 3) zam) (zu2 (zfi (zfU hr) (zaL (zdm T) hr xwo zaE (zgA 0 (zae zam zaq))) zam)))) (zah (zaA hnw (zdn (zao zfV (zao (zaa 6) za2))))) zaQ) (zah (zaA hnw (zdn (zao zfV (zao (zaa 6) za2))))))))))))
abbrev zkT:List Str:=["n","found","turn","longer","row"]
abbrev zeS:List Str:=["n"]
theorem zbB:za6 zkT zeS (zak (top 40)):=⟨rfl,rfl,rfl,xwD,rfl,xwD,xwD⟩
abbrev zdH:List Str:=["n","found","turn","longer","row","guest"]
theorem zhP:zdH.Nodup:=by decide +kernel
noncomputable def zeL:DS:=(za3 (zbi 1 (dFz (zdg (dA (zfp dA0) dA0)))) (za3 (zgE (zdM (zab 0)) (zb7 2) (za3 (zck 3 (zdg dA0)) (za3 (zgE (dIt (zab 1)) (zb7 4) (dEx (zgH 3 (dFz (zb9 (zdM (zab 0)) (zb7 5) (dTB (dOp (gIn true) (zab 5) (zab 4))) (dOp zis (zab 4) (zfp (dA (zab 5) dA0))) 1))))) (zbi 1 (zfl 3))))) (zbt (zab 1))))
noncomputable def zcA:FD:=za1 false [false] 4 zeL
theorem zkx(T:Tx K mg):Dfn false P w K mg base CX0 xv 3 (Str.ofString "_law_perms") [false] zcA:=by obtain ⟨f,fd,U,hm⟩:=T.u__law_perms;refine ⟨f,fd,zeS,?_,hm,U.kp,U.binds (ps:=zeS) λ_ _ _ _ _ _ us hl=>match us,hl with|[_],_=>rfl,zap⟩;refine zaC (k:=2) false zaB U zbB rfl rfl λX C hX hpp hxv hnw hr hx hpo=>?_;subst hxv;obtain ⟨cdv,A,outer,s,H,E,rfl⟩:=hX;exact (zaf (zaP (i:=1) zbB.nd rfl xwO (by rw[hpp];decide) (za9 (zb8 (zao (zdn za2) za2)))) (zaf (zev hpo rfl (zde rfl T.b_range (zaa 0)) (zaV (i:=2) zbB.nd rfl xwO (by rw[hpp];decide)) (zaf (zcZ (i:=3) zbB.nd rfl xwO (by rw[hpp];decide) (zb8 za2)) (zaf (zev hpo rfl (zcB (zaa 1)) (zaV (i:=4) zbB.nd rfl xwO (by rw[hpp];decide)) (zah (zci (zmG 3 (za9 (zcU (zde rfl T.b_range (zaa 0)) rfl (N':=zdH) (m:=1) xwk rfl (zbg xwk) (zbW xwk) (zbX xwk) (λcl L s H fp G H' w Y=>⟨(zaV (i:=5) zhP rfl xwO (xwN rfl)),(zea (zsg (zt7 hr) (zaa 5) (zaa 4))),(zqh (zaa 4) (zdn (zao (zaa 5) za2)))⟩))))))) (zah (zaP (i:=1) zbB.nd rfl xwO (by rw[hpp];decide) (zeE 3)))))) (zah (zaA hnw (zaa 1)))))
abbrev zko:List Str:=["tree","found","branch"]
abbrev zcM:List Str:=["tree"]
theorem zc1:za6 zko zcM (zak (top 41)):=⟨rfl,rfl,rfl,xwD,rfl,xwD,xwD⟩
noncomputable def zdZ(F_self:FD):DS:=(za3 (dIf (dTB (zg0 "int" (zab 0))) (zbt (dFz (zdg (dA (zab 0) dA0)))) dNx) (za3 (zbi 1 (dFz (zdg dA0))) (za3 (zgE (dIt (dOp gIx (zab 0) (dC (.int 1)))) (zb7 2) (zbi 1 (dFz (zig (zab 1) (zai F_self (dR (zab 2) dR0)))))) (zbt (zab 1)))))
noncomputable def zaZ:Nat->FD
 |0=>λ_=>.no
 |n+1=>za1 false [false] 2 (zdZ (zaZ n))
theorem zcS(T:Tx K mg):∀ n,Dfn false P w K mg base CX0 xv (n+2) (Str.ofString "_law_leaves") [false] (zaZ n)
 |0=>by obtain ⟨f,fd,U,hm⟩:=T.u__law_leaves;exact zds rfl U hm (U.binds (ps:=zcM) λ_ _ _ _ _ _ us hl=>match us,hl with|[_],_=>rfl)
 |n+1=>by have DS:=zcS T n;obtain ⟨f,fd,U,hm⟩:=T.u__law_leaves;refine ⟨f,fd,zcM,?_,hm,U.kp,U.binds (ps:=zcM) λ_ _ _ _ _ _ us hl=>match us,hl with|[_],_=>rfl,zap⟩;refine zgt.mono (j:=(n+2)+1) ?_ xwo;refine zaC (k:=n+2) false zaB U zc1 rfl rfl λX C hX hpp hxv hnw hr hx hpo=>?_;subst hxv;obtain ⟨cdv,A,outer,s,H,E,rfl⟩:=hX;exact (zaf (zcd (zez (zeC zmo rfl T.b_isinstance zew rfl T.b_int zqP (zaa 0))) (zah (zaA hnw (za9 (zb8 (zao (zaa 0) za2))))) zaQ) (zaf (zaP (i:=1) zc1.nd rfl xwO (by rw[hpp];decide) (za9 (zb8 za2))) (zaf (zev hpo rfl (zcB (zby (zaa 0) zam)) (zaV (i:=2) zc1.nd rfl xwO (by rw[hpp];decide)) (zah (zaP (i:=1) zc1.nd rfl xwO (by rw[hpp];decide) (za9 (zg8 (zaa 1) (zaL DS hr (wal _) zaE (zae (zaa 2) zaq))))))) (zah (zaA hnw (zaa 1))))))
abbrev zi6:List Str:=["tree","row","left","places","here","many"]
abbrev zcy:List Str:=["tree","row"]
theorem zbm:za6 zi6 zcy (zak (top 42)):=⟨rfl,rfl,rfl,xwD,rfl,xwD,xwD⟩
abbrev zdc:List Str:=["tree","row","left","places","here","many","at"]
theorem zg6:zdc.Nodup:=by decide +kernel
noncomputable def zbx(F_self:FD):DS:=(za3 (dIf (dTB (zg0 "int" (zab 0))) (zbt (dOp (gEq false) (zab 1) (zfp (dA (zab 0) dA0)))) dNx) (za3 (zbi 2 (zab 1)) (za3 (zck 3 (zdg dA0)) (za3 (zb2 (dTB (dOp (gEq true) (zab 2) (zfp dA0))) (za3 (zbi 4 (dOp gIx (dFz (zb9 (zdM (dFn zc3 (dA (dOp gIx (zab 0) (dC (.int 1))) dA0))) (zb7 6) (dTB (dOp (gIn false) (dOp gIx (zab 2) (dC (.int 0))) (zai (zaZ 8) (dR (dOp gIx (dOp gIx (zab 0) (dC (.int 1))) (zab 6)) dR0)))) (zab 6) 1)) (dC (.int 0)))) (za3 (zbi 5 (dFn zc3 (dA (zai (zaZ 8) (dR (dOp gIx (dOp gIx (zab 0) (dC (.int 1))) (zab 4)) dR0)) dA0))) (za3 (dIf (zo3 (dTB (zoH false 3 (zab 4))) (dTB (dOp (gEq true) (dFz (ze3 zd9 (dA (zgu (zab 2) dO0 (dO1 (zab 5))) dA0))) (dFz (ze3 zbD (dA (zai (zaZ 8) (dR (dOp gIx (dOp gIx (zab 0) (dC (.int 1))) (zab 4)) dR0)) dA0)))))) (zbt (dC (.bl false))) dNx) (za3 (dIf (zhX (dTB (zai F_self (dR (dOp gIx (dOp gIx (zab 0) (dC (.int 1))) (zab 4)) (dR (zgu (zab 2) dO0 (dO1 (zab 5))) dR0))))) (zbt (dC (.bl false))) dNx) (za3 (dEx (zcQ 3 (zab 4))) (zbi 2 (zgu (zab 2) (dO1 (zab 5)) dO0))))))) 10) (zbt (dOr (dOp (gEq false) (dOp gIx (zab 0) (dC (.int 0))) (dC (.str (Str.ofString "any")))) (dOp (gIn false) (zfl 3) (zfp (dA (dFz (ze3 zbD (dA (zfl 3) dA0))) (dA (dFz (zgI (dFz (ze3 zbD (dA (zfl 3) dA0))))) dA0))))))))))
noncomputable def zbL:Nat->FD
 |0=>λ_=>.no
 |n+1=>za1 false [false,false] 4 (zbx (zbL n))
theorem zfo(T:Tx K mg):∀ n,Dfn false P w K mg base CX0 xv (n+12) (Str.ofString "_law_of_tree") [false,false] (zbL n)
 |0=>by obtain ⟨f,fd,U,hm⟩:=T.u__law_of_tree;exact zds rfl U hm (U.binds (ps:=zcy) λ_ _ _ _ _ _ us hl=>match us,hl with|[_,_],_=>rfl)
 |n+1=>by have DS:=zfo T n;obtain ⟨f,fd,U,hm⟩:=T.u__law_of_tree;refine ⟨f,fd,zcy,?_,hm,U.kp,U.binds (ps:=zcy) λ_ _ _ _ _ _ us hl=>match us,hl with|[_,_],_=>rfl,zap⟩;refine zgt.mono (j:=(n+12)+1) ?_ xwo;refine zaC (k:=n+12) false zaB U zbm rfl rfl λX C hX hpp hxv hnw hr hx hpo=>?_;subst hxv;obtain ⟨cdv,A,outer,s,H,E,rfl⟩:=hX;exact (zaf (zcd (zez (zeC zmo rfl T.b_isinstance zew rfl T.b_int zqP (zaa 0))) (zah (zaA hnw (zon (zfU hr) (zaa 1) (zdn (zao (zaa 0) za2))))) zaQ) (zaf (zaP (i:=2) zbm.nd rfl xwO (by rw[hpp];decide) (zaa 1)) (zaf (zcZ (i:=3) zbm.nd rfl xwO (by rw[hpp];decide) (zb8 za2)) (zaf (znv 10 hpo (znR (zfU hr) (zaa 2) (zdn za2)) (zaf (zaP (i:=4) zbm.nd rfl xwO (by rw[hpp];decide) (zby (za9 (zcU (zde rfl T.b_range (zeA T.b_len (zby (zaa 0) zam))) rfl (N':=zdc) (m:=1) xwk rfl (zbg xwk) (zbW xwk) (zbX xwk) (λcl L s H fp G H' w Y=>⟨(zaV (i:=6) zg6 rfl xwO (xwN rfl)),(zea (zwa (zt7 hr) (zby (zaa 2) zam) (zaL (zcS T 8) hr xwo zaE (zae (zby (zby (zaa 0) zam) (zaa 6)) zaq)))),(zaa 6)⟩))) zam)) (zaf (zaP (i:=5) zbm.nd rfl xwO (by rw[hpp];decide) (zeA T.b_len (zaL (zcS T 8) hr xwo zaE (zae (zby (zby (zaa 0) zam) (zaa 4)) zaq)))) (zaf (zcd (JW.jt (zrV (zsR 3 (zt7 hr) (zaa 4)) (zqF (znR (zfU hr) (za9 (zrU rfl T.b_sorted (zm9 (zaa 2) zfJ (zdR (zaa 5))))) (za9 (zhh rfl T.b_sorted (zaL (zcS T 8) hr xwo zaE (zae (zby (zby (zaa 0) zam) (zaa 4)) zaq)))))))) (zah (zaA hnw zik)) zaQ) (zaf (zcd (znh (zez (zaL DS hr (wal _) zaE (zae (zby (zby (zaa 0) zam) (zaa 4)) (zae (zm9 (zaa 2) zfJ (zdR (zaa 5))) zaq))))) (zah (zaA hnw zik)) zaQ) (zaf (zci (zf1 3 (zaa 4))) (zah (zaP (i:=2) zbm.nd rfl xwO (by rw[hpp];decide) (zm9 (zaa 2) (zdR (zaa 5)) zfJ))))))))) (zah (zaA hnw (zyq (zon (zfU hr) (zby (zaa 0) zam) zfV) (zqG (zwW (zt7 hr) (zeE 3) (zdn (zao (za9 (zhh rfl T.b_sorted (zeE 3))) (zao (za9 (zxw (za9 (zhh rfl T.b_sorted (zeE 3))))) za2))))))))))))
abbrev zi2:List Str:=["tree","rows"]
abbrev zd7:List Str:=["tree","rows"]
theorem zhm:za6 zi2 zd7 (zak (top 43)):=⟨rfl,rfl,rfl,xwD,rfl,xwD,xwD⟩
abbrev zcX:List Str:=["tree","rows","row"]
theorem zgp:zcX.Nodup:=by decide +kernel
noncomputable def zi7:DS:=(ze5 (zb9 (dIt (zab 1)) (zb7 2) (dTB (zai (zbL 8) (dR (zab 0) (dR (zab 2) dR0)))) (zab 2) 1))
noncomputable def zbw:FD:=za1 true [false,false] 0 zi7
theorem zi5(T:Tx K mg):Dfn true P w K mg base CX0 xv 23 (Str.ofString "_law_rows_by") [false,false] zbw:=by obtain ⟨f,fd,U,hm⟩:=T.u__law_rows_by;refine ⟨f,fd,zd7,?_,hm,U.kp,U.binds (ps:=zd7) λ_ _ _ _ _ _ us hl=>match us,hl with|[_,_],_=>rfl,zap⟩;refine zaC (k:=22) true zaB U zhm rfl rfl λX C hX hpp hxv hnw hr hx hpo=>?_;subst hxv;obtain ⟨cdv,A,outer,s,H,E,rfl⟩:=hX;exact (zah (zd6 hnw (zcU (zcB (zaa 1)) rfl (N':=zcX) (m:=1) xwk rfl (zbg xwk) (zbW xwk) (zbX xwk) (λcl L s H fp G H' w Y=>⟨(zaV (i:=2) zgp rfl xwO (xwN rfl)),(zea (zez (zaL (zfo T 8) hr xwo zaE (zae (zaa 0) (zae (zaa 2) zaq))))),(zaa 2)⟩))))
end
section
variable{P:Program}{w:World}{K:W.Frag}{mg:Str->Option Value}{base:Heap}{xv:Nat->Value}{cls:Nat->Addr}
abbrev zlN:List Str:=["row","party","inside","first"]
abbrev zf3:List Str:=["row","party"]
theorem zeP:za6 zlN zf3 (zak (top 44)):=⟨rfl,rfl,rfl,xwD,rfl,xwD,xwD⟩
abbrev zer:List Str:=["row","party","inside","first","guest"]
theorem ziv:zer.Nodup:=by decide +kernel
noncomputable def zmn:DS:=(za3 (zbi 2 (dFz (zb9 (dIt (zab 0)) (zb7 4) dTT (dOp (gIn false) (zab 4) (zab 1)) 1))) (za3 (zbi 3 (zxB (zab 2) (dC (.bl true)))) (zbt (dOp (gEq false) (dFz (zk8 (zab 2) (dO1 (zab 3)) (dO1 (dOp zeK (zab 3) (dFn zc3 (dA (zab 1) dA0)))))) (dFz (zwF (dFz (zdg (dA (dC (.bl true)) dA0))) (dFn zc3 (dA (zab 1) dA0))))))))
noncomputable def zdW:FD:=za1 false [false,false] 2 zmn
theorem zmg(T:Tx K mg):Dfn false P w K mg base CX0 xv 3 (Str.ofString "_law_sits") [false,false] zdW:=by obtain ⟨f,fd,U,hm⟩:=T.u__law_sits;refine ⟨f,fd,zf3,?_,hm,U.kp,U.binds (ps:=zf3) λ_ _ _ _ _ _ us hl=>match us,hl with|[_,_],_=>rfl,zap⟩;refine zaC (k:=2) false zaB U zeP rfl rfl λX C hX hpp hxv hnw hr hx hpo=>?_;subst hxv;obtain ⟨cdv,A,outer,s,H,E,rfl⟩:=hX;exact (zaf (zgz (i:=2) zeP.nd rfl xwO (by rw[hpp];decide) (zcB (zaa 0)) rfl (N':=zer) (m:=1) xwk rfl (zbg xwk) (zbW xwk) (zbX xwk) (λcl L s H fp G H' w Y=>⟨(zaV (i:=4) ziv rfl xwO (xwN rfl)),zg7,(zwW (zt7 hr) (zaa 4) (zaa 1))⟩)) (zaf (zaP (i:=3) zeP.nd rfl xwO (by rw[hpp];decide) (zwT (zt7 hr) (zaa 2) zik)) (zah (zaA hnw (zon (zfU hr) (za9 (zl3 (zaa 2) (zdR (zaa 3)) (zdR (zfA (zaa 3) (zeA T.b_len (zaa 1)))))) (za9 (by refine zwd (za9 (zb8 (zao zik za2))) ?_;exact (zeA T.b_len (zaa 1)))))))))
abbrev zmx:List Str:=["found","due"]
abbrev zec:List Str:=["found","due"]
theorem zkY:za6 zmx zec (zak (top 45)):=⟨rfl,rfl,rfl,xwD,rfl,xwD,xwD⟩
abbrev zes:List Str:=["found","due","one","other"]
theorem zil:zes.Nodup:=by decide +kernel
noncomputable def zbU(F_self:FD):DS:=(za3 (dIf (dTB (zuQ "tuple" "list" (zab 1))) (za3 (dIf (zo3 (dTB (dOp (gEq true) (zg0 "tuple" (zab 0)) (zg0 "tuple" (zab 1)))) (dTB (dOp (gEq true) (zg0 "list" (zab 0)) (zg0 "list" (zab 1))))) (zbt (dC (.bl false))) dNx) (za3 (dIf (dTB (dOp (gEq true) (dFn zc3 (dA (zab 0) dA0)) (dFn zc3 (dA (zab 1) dA0)))) (zbt (dC (.bl false))) dNx) (zbt (dFn ztp (dA (dFz (zb9 (zmp (zab 0) (zab 1)) (zgo 2 3) dTT (zai F_self (dR (zab 2) (dR (zab 3) dR0))) 2)) dA0))))) dNx) (zbt (zw8 (dOp (gEq false) (zab 0) (zab 1)) (dOp (gEq false) (zg0 "bool" (zab 0)) (zg0 "bool" (zab 1))))))
noncomputable def za0:Nat->FD
 |0=>λ_=>.no
 |n+1=>za1 false [false,false] 0 (zbU (za0 n))
theorem zhw(T:Tx K mg):∀ n,Dfn false P w K mg base CX0 xv (n+2) (Str.ofString "_law_same") [false,false] (za0 n)
 |0=>by obtain ⟨f,fd,U,hm⟩:=T.u__law_same;exact zds rfl U hm (U.binds (ps:=zec) λ_ _ _ _ _ _ us hl=>match us,hl with|[_,_],_=>rfl)
 |n+1=>by have DS:=zhw T n;obtain ⟨f,fd,U,hm⟩:=T.u__law_same;refine ⟨f,fd,zec,?_,hm,U.kp,U.binds (ps:=zec) λ_ _ _ _ _ _ us hl=>match us,hl with|[_,_],_=>rfl,zap⟩;refine zgt.mono (j:=(n+2)+1) ?_ xwo;refine zaC (k:=n+2) false zaB U zkY rfl rfl λX C hX hpp hxv hnw hr hx hpo=>?_;subst hxv;obtain ⟨cdv,A,outer,s,H,E,rfl⟩:=hX;exact (zaf (zcd (zez (zuM zfQ zkb rfl T.b_isinstance zew rfl T.b_tuple zgg rfl T.b_list zka (zaa 1))) (zaf (zcd (JW.jt (zrV (znR (zfU hr) (zeC zfQ rfl T.b_isinstance zew rfl T.b_tuple zgg (zaa 0)) (zeC zfQ rfl T.b_isinstance zew rfl T.b_tuple zgg (zaa 1))) (zqF (znR (zfU hr) (zeC zkb rfl T.b_isinstance zew rfl T.b_list zka (zaa 0)) (zeC zkb rfl T.b_isinstance zew rfl T.b_list zka (zaa 1)))))) (zah (zaA hnw zik)) zaQ) (zaf (zcd (znR (zfU hr) (zeA T.b_len (zaa 0)) (zeA T.b_len (zaa 1))) (zah (zaA hnw zik)) zaQ) (zah (zaA hnw (zyx rfl T.b_all (za9 (zcU (zu7 rfl T.b_zip (zaa 0) (zaa 1)) rfl (N':=zes) (m:=2) xwk rfl (zbg xwk) (zbW xwk) (zbX xwk) (λcl L s H fp G H' w Y=>⟨(zqN (i:=2) (j:=3) rfl zil rfl rfl xwO xwO (xwN rfl) (xwN rfl)),zg7,(zaL DS hr (wal _) zaE (zae (zaa 2) (zae (zaa 3) zaq)))⟩)))))))) zaQ) (zah (zaA hnw (zsX (zon (zfU hr) (zaa 0) (zaa 1)) (zqG (zon (zfU hr) (zeC zjH rfl T.b_isinstance zew rfl T.b_bool zmz (zaa 0)) (zeC zjH rfl T.b_isinstance zew rfl T.b_bool zmz (zaa 1))))))))
abbrev zfW:List Str:=["n","found","number"]
abbrev zcf:List Str:=["n"]
theorem zbT:za6 zfW zcf (zak (top 46)):=⟨rfl,rfl,rfl,xwD,rfl,xwD,xwD⟩
abbrev zce:List Str:=["n","found","number","guest"]
theorem zeT:zce.Nodup:=by decide +kernel
noncomputable def zfZ:DS:=(za3 (zck 1 (zdg dA0)) (za3 (zgE (zuE (dC (.int 1)) (dOp zvI (dC (.int 1)) (zab 0))) (zb7 2) (dEx (zcQ 1 (dFn zdd (dA (dFz (zb9 (zdM (zab 0)) (zb7 3) (dTB (dOp (gEq false) (dOp zp3 (dOp zvP (zab 2) (zab 3)) (dC (.int 1))) (dC (.int 1)))) (zab 3) 1)) dA0))))) (zbt (dFz (ze3 zhr (dA (zfl 1) dA0))))))
noncomputable def zaU:FD:=za1 false [false] 2 zfZ
theorem zfO(T:Tx K mg):Dfn false P w K mg base CX0 xv 3 (Str.ofString "_law_all_parties") [false] zaU:=by obtain ⟨f,fd,U,hm⟩:=T.u__law_all_parties;refine ⟨f,fd,zcf,?_,hm,U.kp,U.binds (ps:=zcf) λ_ _ _ _ _ _ us hl=>match us,hl with|[_],_=>rfl,zap⟩;refine zaC (k:=2) false zaB U zbT rfl rfl λX C hX hpp hxv hnw hr hx hpo=>?_;subst hxv;obtain ⟨cdv,A,outer,s,H,E,rfl⟩:=hX;exact (zaf (zcZ (i:=1) zbT.nd rfl xwO (by rw[hpp];decide) (zb8 za2)) (zaf (zev hpo rfl (zpc rfl T.b_range zam (zwK zam (zaa 0))) (zaV (i:=2) zbT.nd rfl xwO (by rw[hpp];decide)) (zah (zci (zf1 1 (zfz T.b_tuple (za9 (zcU (zde rfl T.b_range (zaa 0)) rfl (N':=zce) (m:=1) xwk rfl (zbg xwk) (zbW xwk) (zbX xwk) (λcl L s H fp G H' w Y=>⟨(zaV (i:=3) zeT rfl xwO (xwN rfl)),(zea (zfi (zfU hr) (zuU (zxc (zaa 2) (zaa 3)) zam) zam)),(zaa 3)⟩)))))))) (zah (zaA hnw (za9 (zny rfl T.b_sorted (zeE 1)))))))
abbrev zxV:List Str:=["script","k","state","n","tree","rows","due","party","turn","found"]
abbrev zwv:List Str:=["script"]
theorem zfn:za6 zxV zwv (zak (top 47)):=⟨rfl,rfl,rfl,xwD,rfl,xwD,xwD⟩
abbrev zi8:List Str:=["script","k","state","n","tree","rows","due","party","turn","found","row"]
theorem zsi:zi8.Nodup:=by decide +kernel
noncomputable def ztI:DS:=(za3 (zgE (zdM (dFn zki (dA (dC (.int 1)) (dA (dFn zjs (dA (dFn zc3 (dA (zab 0) dA0)) (dA (dC (.int 3)) dA0))) dA0)))) (zb7 1) (za3 (zck 2 (zbn zc5 (dR (zab 0) (dR (zab 1) dR0)))) (za3 (zbi 3 (dOp zeK (dC (.int 1)) (zai zaw (dRO 2 (dR (dC (.int 6)) dR0))))) (za3 (zbi 4 (zai (zaW 8) (dRO 2 (dR (dFz (zmL (zab 3))) dR0)))) (za3 (zbi 5 (dFz (zbn zbw (dR (zab 4) (dR (zai zcA (dR (zab 3) dR0)) dR0))))) (za3 (zck 6 (zdg dA0)) (za3 (zgE (dIt (zai zaU (dR (zab 3) dR0))) (zb7 7) (dIf (dTB (dOp (gEq false) (dFz (zb9 (dIt (zab 5)) (zb7 10) (zhX (dTB (zai zdW (dR (zab 10) (dR (zab 7) dR0))))) (zab 10) 1)) (dFz (zdg dA0)))) (dEx (zcQ 6 (zab 7))) dNx)) (zgE (zdM (dC (.int 2))) (zb7 8) (za3 (zck 9 (zbn zbN (dR (zab 3) (dR (zab 4) dR0)))) (za3 (dIf (zhX (dTB (zjf 9 (zfl 6) (za0 16)))) (zbt (dC (.bl false))) dNx) (dEx (zcQ 9 (zfp dA0))))))))))))) (zbt (dC (.bl true))))
noncomputable def zo4:FD:=za1 false [false] 9 ztI
theorem zyj(T:Tx K mg){f:Addr}{fd:FuncData}(U:Fun K "law" "law" (top 47) f fd):zgt P w K mg base CX0 114 f fd zwv (zqR false K xv [false] zo4):=by refine zaC (k:=113) false zaB U zfn rfl rfl λX C hX hpp hxv hnw hr hx hpo=>?_;subst hxv;obtain ⟨cdv,A,outer,s,H,E,rfl⟩:=hX;exact (zaf (zev hpo rfl (zde rfl T.b_range (zw4 rfl T.b_max zam (zxx rfl T.b_min (zeA T.b_len (zaa 0)) zam))) (zaV (i:=1) zfn.nd rfl xwO (by rw[hpp];decide)) (zaf (zcZ (i:=2) zfn.nd rfl xwO (by rw[hpp];decide) (zjk (zly T) hr xwo zaE (zae (zaa 0) (zae (zaa 1) zaq)))) (zaf (zaP (i:=3) zfn.nd rfl xwO (by rw[hpp];decide) (zfA zam (zaL (zdm T) hr xwo zaE (zgA 2 (zae zam zaq))))) (zaf (zaP (i:=4) zfn.nd rfl xwO (by rw[hpp];decide) (zaL (zhS T 8) hr xwo zaE (zgA 2 (zae (za9 (zuK rfl rfl T.b_list rfl T.b_range (zaa 3))) zaq)))) (zaf (zaP (i:=5) zfn.nd rfl xwO (by rw[hpp];decide) (za9 (zjk (zi5 T) hr xwo zaE (zae (zaa 4) (zae (zaL (zkx T) hr xwo zaE (zae (zaa 3) zaq)) zaq))))) (zaf (zcZ (i:=6) zfn.nd rfl xwO (by rw[hpp];decide) (zb8 za2)) (zaf (zev hpo rfl (zcB (zaL (zfO T) hr xwo zaE (zae (zaa 3) zaq))) (zaV (i:=7) zfn.nd rfl xwO (by rw[hpp];decide)) (zah (zcd (zfi (zfU hr) (za9 (zcU (zcB (zaa 5)) rfl (N':=zi8) (m:=1) xwk rfl (zbg xwk) (zbW xwk) (zbX xwk) (λcl L s H fp G H' w Y=>⟨(zaV (i:=10) zsi rfl xwO (xwN rfl)),(zea (znh (zez (zaL (zmg T) hr xwo zaE (zae (zaa 10) (zae (zaa 7) zaq)))))),(zaa 10)⟩))) (za9 (zb8 za2))) (zah (zci (zf1 6 (zaa 7)))) zaQ))) (zah (zev hpo rfl (zde rfl T.b_range zam) (zaV (i:=8) zfn.nd rfl xwO (by rw[hpp];decide)) (zaf (zcZ (i:=9) zfn.nd rfl xwO (by rw[hpp];decide) (zjk (zio T) hr xwo zaE (zae (zaa 3) (zae (zaa 4) zaq)))) (zaf (zcd (znh (zez (zrl 9 (zhw T 16) hr xwo zaE (zeE 6)))) (zah (zaA hnw zik)) zaQ) (zah (zci (zf1 9 (zdn za2))))))))))))))) (zah (zaA hnw zik)))
end
theorem zmt{x y:Dt}{bs:List B}:∀{Z:Ev}{k:Nat},zix [.d x,.d y] bs k Z = Z
 |[],_=>rfl
 |o::r,k=>by show (match zeB [.d x,.d y] k with|some j=>bs[j]?|none=>o)::zix [.d x,.d y] bs (k+1) r=_;rw[zmt (Z:=r)];rfl
theorem zeg{F:FD}{fa:De}{Z Z':Ev}{d y:Dt}{l:List B}(h:fa Z=.ok (d,Z'))(hF:F [.val d]=.ok (y,l)):zai F (dR fa dR0) Z=.ok (y,Z'):=by unfold zai dR dR0;rw[h];simp only[R.bind_ok,zoy,zb1,if_true,zaD,hF];rw[zns]
theorem zcN{F:FD}{fa fb:De}{Z Z' Z'':Ev}{d e y:Dt}{l:List B}(h:fa Z=.ok (d,Z'))(h2:fb Z'=.ok (e,Z''))(hF:F [.val d,.val e]=.ok (y,l)):zai F (dR fa (dR fb dR0)) Z=.ok (y,Z''):=by unfold zai dR dR0;rw[h];simp only[R.bind_ok,h2,zoy,zb1,if_true,zaD,hF];rw[zmt]
theorem zlV{i k:Nat}{d:Dt}:zeB [.s i,.d d] k=if i=k then some 0 else none:=by unfold zeB zeO;split <;> rfl
theorem zti{i:Nat}{d:Dt}{b:B}{bs:List B}:∀{Z:Ev}{k:Nat},k<=i->zix [.s i,.d d] (b::bs) k Z = Z.set (i-k) (some b)
 |[],k,_=>by simp[zix]
 |o::r,k,h=>by
  unfold zix;rw[zlV];by_cases e:i=k
  ·subst e;simp only[if_true,Nat.sub_self,List.set_cons_zero];have:∀(r:Ev)(m:Nat),i<m->zix [.s i,.d d] (b::bs) m r=r:=by
    intro r
    induction r with
    |nil=>intro m _;rfl
    |cons o r ih =>
     intro m hm;unfold zix;rw[zlV,if_neg xwl,ih (m+1) xwl]
   rw[this r (i+1) xwl];rfl
  ·rw[if_neg e,zti (k:=k+1) xwl];have:i-k=(i-(k+1))+1:=by lia
   rw[this,List.set_cons_succ]
theorem zlC{F:FD}{fb:De}{i:Nat}{Z:Ev}{d y:Dt}{st st':List Dt}{l:List B}(hi:Z[i]? = some (some (.own st)))(h:fb Z=.ok (d,Z))(hF:F [.own st,.val d]=.ok (y,.own st'::l)):zai F (dRO i (dR fb dR0)) Z=.ok (y,Z.set i (some (.own st'))):=by
 have u:zoy [.s i,.d d]=true:=by unfold zoy zb1;rw[zlV];simp[zb1]
 unfold zai dRO dR dR0;simp only[hi,h,R.bind_ok,u,if_true,zaD,zt8,hF];rw[zti (Nat.zero_le _)];rfl
theorem zaj{nw:Bool}{ks:List Bool}{m:Nat}{body:DS}{bs:List B}{d:Dt}{Z':Ev}{l:List B}(hk:zdo bs=ks)(hb:body (bs.map some++List.replicate m none)=.ok (.rt d,Z'))(hl:zaJ ks Z'=.ok l):za1 nw ks m body bs=.ok (d,l):=by unfold za1;rw[if_pos hk,hb];simp only[R.bind_ok,hl]
noncomputable def St(st:List Dt):Prop:=∃ s b,st=[.int s,.bl b]
theorem zeI{st:List Dt}{m:Int}(h:St st)(h0:0<m)(h1:m<1073741824):∃(v:Int)(st':List Dt),zaw [.own st,.val (.int m)]=.ok (.int v,[.own st',.val .non])/\St st'/\0<=v/\v<m:=by
 obtain ⟨s,b,rfl⟩:=h;cases b with
 |true =>
  refine ⟨s % m,[.int (s / m),.bl true],?_,⟨_,_,rfl⟩,Int.emod_nonneg _ xwl,Int.emod_lt_of_pos _ h0⟩;unfold zaw za1 zfF;simp[zdo,zt8,za3,dIf,dTB,zpQ,dC,atI,ixN,zbi,dOp,zow,zab,zpO,zss,zbt,zaJ,h0,h1]
 |false =>
  have e1:∃ a,(s * 48271+29) % 2147483647=a/\0<=a/\a<2147483647:=⟨_,rfl,Int.emod_nonneg _ xwd,Int.emod_lt_of_pos _ xwd⟩
  obtain ⟨a,ea,a0,a1⟩:=e1;have e2:∃ c,(a * a+39373 * a+7) % 2147483629=c/\0<=c/\c<2147483629:=⟨_,rfl,Int.emod_nonneg _ xwd,Int.emod_lt_of_pos _ xwd⟩
  obtain ⟨c,ec,c0,c1⟩:=e2;have sa:zdb a=true:=by unfold zdb;simp;lia
  have sc:zdb c=true:=by unfold zdb;simp;lia
  have s1:zdb 48271=true:=by decide
  have s2:zdb 39373=true:=by decide
  have s3:zdb 16807=true:=by decide
  refine ⟨(c * c+16807 * c) % 2147483587 / 8 % m,[.int a,.bl false],?_,⟨_,_,rfl⟩,Int.emod_nonneg _ xwl,Int.emod_lt_of_pos _ h0⟩;unfold zaw za1 zfF;simp[zdo,zt8,za3,dIf,dTB,zpQ,dC,atI,ixN,zbi,dOp,zow,zqq,zeK,zab,zpO,zss,zbt,dNx,zaJ,h0,h1,ea,ec,sa,sc,s1,s2,s3]
theorem zhb:∀(n:Nat)(d:Dt),okN n d=true->okN (n+1) d=true
 |_,.non,_=>by simp[okN]
 |_,.bl _,_=>by simp[okN]
 |_,.int _,_=>by simp[okN]
 |n,.str x,h=>by cases n <;> simpa [okN] using h
 |0,.tup l,h=>by simp[okN] at h
 |0,.lst l,h=>by simp[okN] at h
 |n+1,.tup l,h=>by simp only[okN,List.all_eq_true] at h ⊢;exact λd hd=>zhb n d (h d hd)
 |n+1,.lst l,h=>by simp only[okN,List.all_eq_true] at h ⊢;exact λd hd=>zhb n d (h d hd)
 |n,.dct _,h=>by cases n <;> simp[okN] at h
 |n,.scr _,h=>by cases n <;> simp[okN] at h
theorem znn{n m:Nat}{d:Dt}(h:okN n d=true)(hl:n<=m):okN m d=true:=by
 induction hl with
 |refl=>exact h
 |step _ ih=>exact zhb _ _ ih
theorem zm7{n:Nat}{v:Int}(h0:0<=v)(h1:v<n):ixN n v=some v.toNat:=by unfold ixN;rw[if_pos h0,if_pos h1]
theorem zfg{α:Type}:∀{l:List α}{j:Nat}{d:α},l[j]? = some d->(d::l.eraseIdx j).Perm l
 |[],_,_,h=>by simp at h
 |a::l,0,d,h=>by simp at h;subst h;exact .refl _
 |a::l,j+1,d,h=>by have:=zfg (l:=l) (j:=j) (d:=d) (by simpa using h);exact (List.Perm.swap a d _).trans (this.cons a)
theorem zbF{neg:Bool}{x y:Dt}(h1:okN 60 x=true)(h2:okN 60 y=true):gEq neg x y=.ok (.bl (if neg then !eqD x y else eqD x y)):=by unfold gEq;rw[h1,h2];rfl
theorem zg9{d:Dt}{l:List Dt}:eqD (.lst (d::l)) (.lst [])=false:=by rw[eqD];simp[zgD]
theorem zhC:eqD (.lst []) (.lst [])=true:=by rw[eqD,zgD]
theorem zwU{st found l:List Dt}{o:Option B}{b:Bool}(h:okN 60 (.lst l)=true)(e:(!eqD (.lst l) (.lst []))=b):dTB (zv4 true 2 (dFz (zdg dA0))) [some (.own st),o,some (.own l),some (.own found)]=.ok (b,[some (.own st),o,some (.own l),some (.own found)]):=by show (((gEq true (.lst l) (.lst [])).bind λz=>.ok (z,[some (.own st),o,some (.own l),some (.own found)])).bind λ(a:Dt×Ev)=>match a.1 with|.bl b=>.ok (b,a.2)|_=>.no)=_;rw[zbF h rfl];simp only[if_true,e];rfl
theorem ziO{things:Option B}:∀(n:Nat)(left found:List Dt)(st:List Dt),left.length<n->left.length+found.length<=1000->(∀ d∈left,okN 59 d=true)->St st->∃ st' p,St st'/\p.Perm left /\
  zb2 (dTB (zv4 true 2 (dFz (zdg dA0)))) (dEx (zcQ 3 (ziB 2 (zai zaw (dRO 0 (dR (zoD 2) dR0)))))) n [some (.own st),things,some (.own left),some (.own found)]=.ok (.nx,[some (.own st'),things,some (.own []),some (.own (found++p))])
 |0,left,found,st,h,_,_,_=>absurd h (Nat.not_lt_zero _)
 |n+1,[],found,st,h,hl,hk,hs=>by refine ⟨st,[],hs,.refl _,?_⟩;unfold zb2;rw[zwU (b:=false) rfl (by rw[zhC];rfl)];simp
 |n+1,d::left,found,st,h,hl,hk,hs=>by
  obtain ⟨v,st1,e,hs1,v0,v1⟩:=zeI (m:=((d::left).length:Nat)) hs (by simp only[wan];lia) (by simp only[wan] at hl ⊢;lia);have hv:v.toNat<(d::left).length:=by lia
  have hget:(d::left)[v.toNat]? = some (d::left)[v.toNat]:=by simp[hv]
  have hel:=zfg hget;have hlen:((d::left).eraseIdx v.toNat).length=left.length:=by have:=hel.length_eq;simp only[wan] at this;lia
  obtain ⟨st',p,hs',hp,hw⟩:=ziO (things:=things) n ((d::left).eraseIdx v.toNat) (found++[(d::left)[v.toNat]]) st1 (by simp only[wan] at h;lia) (by simp only[wav,wan,List.length_nil] at hl ⊢;lia)
   (λx hx=>hk x (hel.mem_iff.mp (wah _ hx))) hs1
  refine ⟨st',(d::left)[v.toNat]::p,hs',((hp.cons _).trans hel),?_⟩;have hall:((d::left).all (okN 59))=true:=List.all_eq_true.mpr hk;have ec:zai zaw (dRO 0 (dR (zoD 2) dR0)) [some (.own st),things,some (.own (d::left)),some (.own found)]=.ok (.int v,[some (.own st1),things,some (.own (d::left)),some (.own found)]):=zlC (Z:=[some (.own st),things,some (.own (d::left)),some (.own found)]) rfl rfl e;have hm:zdB v=true:=by unfold zdB;simp;simp only[wan] at hl v1;lia
  unfold zb2;have t1:=zwU (st:=st) (found:=found) (l:=d::left) (o:=things) (b:=true) (show okN 60 (.lst (d::left))=true from hall) (by rw[zg9];rfl);rw[t1];simp only[R.bind_ok,if_true];have t2:dEx (zcQ 3 (ziB 2 (zai zaw (dRO 0 (dR (zoD 2) dR0))))) [some (.own st),things,some (.own (d::left)),some (.own found)]=.ok (.nx,[some (.own st1),things,some (.own ((d::left).eraseIdx v.toNat)),some (.own (found++[(d::left)[v.toNat]]))]):=by
   have hpop:zsv (d::left) v=some ((d::left)[v.toNat],(d::left).eraseIdx v.toNat):=by unfold zsv;rw[if_pos hm,zm7 v0 v1];simp only[hget]
   unfold dEx zcQ ziB;simp only[List.getElem?_cons_succ,List.getElem?_cons_zero,ec,R.bind_ok,hpop,List.set_cons_succ,List.set_cons_zero];rw[if_pos xwl];rfl
  rw[t2];simp only[R.bind_ok];rw[hw];simp
theorem zoF{l:List Dt}{st:List Dt}(hs:St st)(hl:l.length<10)(hk:∀ d∈l,okN 59 d=true):∃ st' p,St st'/\p.Perm l/\zbS [.own st,.val (.lst l)]=.ok (.lst p,[.own st',.val .non]):=by
 obtain ⟨st',p,hs',hp,hw⟩:=ziO (things:=some (.val (.lst l))) 10 l [] st hl (by simp;lia) hk hs;refine ⟨st',p,hs',hp,?_⟩;have hd:zcH [some (.own st),some (.val (.lst l)),none,none]=.ok (.rt (.lst p),[some (.own st'),some (.val (.lst l)),some (.own []),some (.val (.lst p))]):=by unfold zcH;have e1:zck 2 (ze3 ziq (dA (zab 1) dA0)) [some (.own st),some (.val (.lst l)),none,none]=.ok (.nx,[some (.own st),some (.val (.lst l)),some (.own l),none]):=rfl;have e2:zck 3 (zdg dA0) [some (.own st),some (.val (.lst l)),some (.own l),none]=.ok (.nx,[some (.own st),some (.val (.lst l)),some (.own l),some (.own [])]):=rfl;unfold za3;rw[e1];simp only[R.bind_ok];rw[e2];simp only[R.bind_ok];rw[hw];rfl
 exact zaj rfl hd rfl
theorem zau{g:Dt->Dt->R Dt}{fa fb:De}{Z Z1 Z2:Ev}{d e z:Dt}(h1:fa Z=.ok (d,Z1))(h2:fb Z1=.ok (e,Z2))(h3:g d e=.ok z):dOp g fa fb Z=.ok (z,Z2):=by unfold dOp;rw[h1];simp only[R.bind_ok,h2,h3]
theorem zaG{f:De}{Z Z1:Ev}{b:Bool}(h:f Z=.ok (.bl b,Z1)):dTB f Z=.ok (b,Z1):=by unfold dTB;rw[h];rfl
theorem zd5{c:DT}{f g:DS}{Z Z1:Ev}(h:c Z=.ok (true,Z1)):dIf c f g Z=f Z1:=by unfold dIf;rw[h];rfl
theorem zcm{c:DT}{f g:DS}{Z Z1:Ev}(h:c Z=.ok (false,Z1)):dIf c f g Z=g Z1:=by unfold dIf;rw[h];rfl
theorem zag{f g:DS}{Z Z1:Ev}(h:f Z=.ok (.nx,Z1)):za3 f g Z=g Z1:=by unfold za3;rw[h];rfl
theorem zbz{f g:DS}{Z Z1:Ev}{d:Dt}(h:f Z=.ok (.rt d,Z1)):za3 f g Z=.ok (.rt d,Z1):=by unfold za3;rw[h];rfl
theorem zbe{f:De}{Z Z1:Ev}{d:Dt}(h:f Z=.ok (d,Z1)):zbt f Z=.ok (.rt d,Z1):=by unfold zbt;rw[h];rfl
theorem zaM{f:De}{i:Nat}{Z Z1:Ev}{d:Dt}(h:f Z=.ok (d,Z1))(hi:i < Z1.length):zbi i f Z=.ok (.nx,Z1.set i (some (.val d))):=by unfold zbi;rw[h];simp only[R.bind_ok,hi,if_true]
theorem zmR{f:DN}{i:Nat}{Z Z1:Ev}{d:List Dt}(h:f Z=.ok (d,Z1))(hi:i < Z1.length):zck i f Z=.ok (.nx,Z1.set i (some (.own d))):=by unfold zck;rw[h];simp only[R.bind_ok,hi,if_true]
theorem zba{f:DN}{Z Z1:Ev}{d:List Dt}(h:f Z=.ok (d,Z1)):dFz f Z=.ok (.lst d,Z1):=by unfold dFz;rw[h];rfl
theorem zeo{f:De}{Z Z1:Ev}{d:Dt}(h:f Z=.ok (d,Z1)):dEx f Z=.ok (.nx,Z1):=by unfold dEx;rw[h];rfl
theorem zdF{g:List Dt->R Dt}{f:De}{Z Z1:Ev}{d z:Dt}(h:f Z=.ok (d,Z1))(hg:g [d]=.ok z):dFn g (dA f dA0) Z=.ok (z,Z1):=by unfold dFn dA dA0;rw[h];simp only[R.bind_ok,hg]
theorem zps{f g:DT}{Z Z1:Ev}(h:f Z=.ok (false,Z1)):zo3 f g Z=g Z1:=by unfold zo3;rw[h];rfl
theorem zpE{f g:DT}{Z Z1:Ev}(h:f Z=.ok (true,Z1)):zlZ f g Z=g Z1:=by unfold zlZ;rw[h];rfl
theorem zu9{f g:DT}{Z Z1:Ev}(h:f Z=.ok (false,Z1)):zlZ f g Z=.ok (false,Z1):=by unfold zlZ;rw[h];rfl
theorem zhi{f:DT}{Z Z1:Ev}{b:Bool}(h:f Z=.ok (b,Z1)):zhX f Z=.ok (!b,Z1):=by unfold zhX;rw[h];rfl
theorem zoX{Z0:Ev}{o:Option B}{d:Dt}:zb7 Z0.length d (Z0++[o])=.ok (Z0++[some (.val d)]):=by unfold zb7;rw[if_pos xws];simp
theorem zlF{α:Type}{u f:α->Dt}{fe:De}{Z0:Ev}:∀{l:List α}{o:Option B},(∀ a∈l,fe (Z0++[some (.val (u a))])=.ok (f a,Z0++[some (.val (u a))]))->∃ o',zcl (zb7 Z0.length) dTT fe (l.map u) (Z0++[o])=.ok (l.map f,Z0++[o'])
 |[],o,_=>⟨o,rfl⟩
 |a::l,o,h=>by obtain ⟨o',e⟩:=zlF (l:=l) (o:=some (.val (u a))) λb hb=>h b (by simp[hb]);refine ⟨o',?_⟩;rw[List.map_cons,zcl,zoX];simp only[R.bind_ok,dTT,if_true];rw[h a xws];simp only[R.bind_ok];rw[e];rfl
theorem ziA{α:Type}{u f:α->Dt}{fe:De}{Z0:Ev}{fi:DA}{l:List α}{ds:List Dt}(hi:fi Z0=.ok (ds,Z0))(hd:ds=l.map u)(hl:l.length<=1000)(h:∀ a∈l,fe (Z0++[some (.val (u a))])=.ok (f a,Z0++[some (.val (u a))])){j:Nat}(hj:j = Z0.length) :
  zb9 fi (zb7 j) dTT fe 1 Z0=.ok (l.map f,Z0):=by
 subst hd;subst hj;obtain ⟨o',e⟩:=zlF (o:=none) h;unfold zb9;rw[hi];simp only[R.bind_ok];rw[if_pos (by unfold zhl;simp;lia)];show (match zcl (zb7 Z0.length) dTT fe (l.map u) (Z0++[none]) with|.ok z=>R.ok (z.1,z.2.take Z0.length)|_=>.no)=_;rw[e];simp
theorem zff{α:Type}{a:α}{l:List α}:atI (a::l) 0=some a:=by unfold atI ixN;simp
theorem eqI{a b:Int}:eqD (.int a) (.int b)=(a == b):=by rw[eqD]
theorem zrY{x:Option B}{zbV:Ev}{o:Option B}{d:Dt}:zb7 (zbV.length+1) d (x::(zbV++[o]))=.ok (x::(zbV++[some (.val d)])):=by unfold zb7;rw[if_pos xws];simp
theorem zqV{α β:Type}{Rl:α->β->Prop}{u:α->Dt}{v:β->Dt}{fe:De}{zbV:Ev}:∀{l:List α}{st:List Dt}{o:Option B},
  (∀ a∈l,∀ st,St st->∃ y st',St st'/\Rl a y/\fe (some (.own st)::(zbV++[some (.val (u a))]))=.ok (v y,some (.own st')::(zbV++[some (.val (u a))])))->St st ->
  ∃ ys st' o',St st'/\Paired Rl l ys/\zcl (zb7 (zbV.length+1)) dTT fe (l.map u) (some (.own st)::(zbV++[o]))=.ok (ys.map v,some (.own st')::(zbV++[o']))
 |[],st,o,_,hs=>⟨[],st,o,hs,.nil,rfl⟩
 |a::l,st,o,h,hs=>by obtain ⟨y,st1,hs1,hr,e1⟩:=h a xws st hs;obtain ⟨ys,st',o',hs',hp,e⟩:=zqV (l:=l) (st:=st1) (o:=some (.val (u a))) (λb hb=>h b (wah _ hb)) hs1;refine ⟨y::ys,st',o',hs',.cons hr hp,?_⟩;rw[List.map_cons,zcl,zrY];simp only[R.bind_ok,dTT,if_true];rw[e1];simp only[R.bind_ok];rw[e];rfl
theorem zrv{α β:Type}{Rl:α->β->Prop}{u:α->Dt}{v:β->Dt}{fe:De}{zbV:Ev}{fi:DA}{Z:Ev}{l:List α}{ds:List Dt}{st:List Dt}{j:Nat}(hi:fi Z=.ok (ds,some (.own st)::zbV))(hd:ds=l.map u)(hl:l.length<=1000)(hj:j=zbV.length+1)
  (h:∀ a∈l,∀ st,St st->∃ y st',St st'/\Rl a y/\fe (some (.own st)::(zbV++[some (.val (u a))]))=.ok (v y,some (.own st')::(zbV++[some (.val (u a))]))) (hs:St st) :
  ∃ ys st',St st'/\Paired Rl l ys/\zb9 fi (zb7 j) dTT fe 1 Z=.ok (ys.map v,some (.own st')::zbV):=by
 subst hd;subst hj;obtain ⟨ys,st',o',hs',hp,e⟩:=zqV (o:=none) h hs;refine ⟨ys,st',hs',hp,?_⟩;unfold zb9;rw[hi];simp only[R.bind_ok];rw[if_pos (by unfold zhl;simp only[List.length_map,decide_eq_true_eq];lia)];show (match zcl (zb7 (zbV.length+1)) dTT fe (l.map u) (some (.own st)::(zbV++[none])) with|.ok z=>R.ok (z.1,z.2.take (zbV.length+1))|_=>.no)=_;rw[e];simp
theorem zll{p:List Dt}{l:List Int}(h:p.Perm (l.map .int)):∃ q:List Int,q.Perm l/\p=q.map .int:=by
 refine ⟨p.map λd=>match d with|.int i=>i|_=>0,?_,?_⟩
 ·have:=h.map λd=>match d with|.int i=>i|_=>0
  rw[List.map_map] at this;have e:((λd=>match d with|.int i=>i|_=>0) ∘ Dt.int)=(id:Int->Int):=rfl;rw[e,List.map_id] at this;exact this
 ·rw[List.map_map]
  conv=>lhs;rw[<- List.map_id p]
  refine List.map_congr_left λd hd=>?_;obtain ⟨i,_,rfl⟩:=List.mem_map.mp (h.mem_iff.mp hd);rfl
noncomputable def isW:Dt->Bool
 |.int _=>true
 |_=>false
theorem znP(d:Dt):zdN [.val d]=.ok (.bl (isW d),[.val .non]):=by
 cases d <;> simp[zdN,za1,zji,zdo,zt8,zbt,zw8,zg0,zab,zxA,zlG,tyD,zaJ,isW]
theorem zjF{n:Int}(h1:1<=n)(h7:n<=7):zbv [.val (.int n)]=.ok (.non,[.val .non]):=by
 have e:zai zdN (dR (zab 0) dR0) [some (.val (.int n))]=.ok (.bl true,[some (.val (.int n))]):=zeg (Z':=[some (.val (.int n))]) rfl (znP _);have a1:decide (n<1)=false:=by simp;lia
 have a2:decide (7<n)=false:=by simp;lia
 simp[zbv,za1,zfs,zdo,zt8,dIf,zo3,zhX,dTB,e,dOp,zab,dC,zra,a1,a2,dNx,zaJ]
theorem zrc{neg:Bool}{i j:Int}:gEq neg (.int i) (.int j)=.ok (.bl (if neg then !(i == j) else (i == j))):=by rw[zbF rfl rfl,eqI]
theorem zr6{Z0:Ev}{o:Option B}{d:Dt}:zb7 Z0.length d (Z0++[o])=.ok (Z0++[some (.val d)]):=by unfold zb7;rw[if_pos xws];simp
theorem zkm:∀ a b:List Int,zgD (a.map .int) (b.map .int)=(a == b)
 |[],[]=>by rw[List.map_nil,zgD];rfl
 |[],b::r=>by rw[List.map_nil,List.map_cons,zgD];rfl;all_goals (intros;simp at *)
 |a::r,[]=>by rw[List.map_nil,List.map_cons,zgD];rfl;all_goals (intros;simp at *)
 |a::r,b::q=>by rw[List.map_cons,List.map_cons,zgD,eqI,zkm r q];rfl
theorem zri(l:List Int)(n:Nat):okN (n+1) (.lst (l.map .int))=true:=by simp[okN]
noncomputable def zbb(n:Nat):List Int:=(List.range n).map λ(k:Nat)=>(k:Int)
theorem zne(n:Nat):zdK 0 n=(zbb n).map .int:=by unfold zdK zbb;rw[List.map_map];refine List.map_congr_left λk _=>?_;simp
theorem zgr(i:Int):∀ l:List Int,inD (.int i) (l.map .int)=decide (i∈l)
 |[]=>by simp[inD]
 |a::r=>by
  have:=zgr i r;unfold inD at this ⊢;rw[List.map_cons,List.any_cons,this,eqI];by_cases h:a=i
  ·subst h;simp
  ·have h':¬ i=a:=λz=>h z.symm;by_cases h2:i∈r <;> simp[h,h',h2]
theorem zfd:∀(a b:List Int),a.Nodup->(∀ x∈a,x∈b)->b.length<=a.length->a.Perm b
 |[],b,_,_,h=>by have:b=[]:=List.length_eq_zero_iff.mp (by simpa using h);subst this;exact .refl _
 |x::a,b,hn,hs,hl=>by rw[List.nodup_cons] at hn;have hx:x∈b:=hs x xws;have hp:=List.perm_cons_erase hx;have hlen:=hp.length_eq;simp only[wan] at hlen hl;have:=zfd a (b.erase x) hn.2 (λy hy=>(List.mem_erase_of_ne (λ(e:y=x)=>hn.1 (e ▸ hy))).mpr (hs y (by simp[hy]))) xwl;exact (this.cons x).trans hp.symm
theorem zdC{n:Nat}{x:Int}:x∈zbb n ↔ 0<=x/\x<n:=by
 unfold zbb;rw[List.mem_map];constructor
 ·rintro ⟨k,hk,rfl⟩;have:=List.mem_range.mp hk;lia
 ·rintro ⟨h0,h1⟩;exact ⟨x.toNat,List.mem_range.mpr xwl,xwl⟩
theorem zbC(n:Nat):(zbb n).length=n:=by unfold zbb;simp
theorem znW(n:Nat):(zbb n).Pairwise (· <= ·):=by unfold zbb;rw[List.pairwise_map];refine List.Pairwise.imp (R:=λa b=>a<b) (λ{a b} h=>by lia) List.pairwise_lt_range
theorem zdv(n:Nat):(zbb n).Nodup:=by unfold zbb;unfold List.Nodup;rw[List.pairwise_map];refine List.Pairwise.imp (R:=λa b=>a<b) (λ{a b} h=>by lia) List.pairwise_lt_range
theorem zof{n:Nat}{l:List Int}:zbd l=zbb n ↔ l.Nodup/\(∀ x∈l,0<=x/\x<n)/\l.length=n:=by
 constructor
 ·intro h;have hp:l.Perm (zbb n):=by rw[<- h];exact (zaO l).symm
  exact ⟨hp.nodup_iff.mpr (zdv n),λx hx=>zdC.mp (hp.mem_iff.mp hx),by rw[hp.length_eq,zbC]⟩
 ·rintro ⟨h1,h2,h3⟩;have hp:l.Perm (zbb n):=zfd _ _ h1 (λx hx=>zdC.mpr (h2 x hx)) (by rw[zbC];lia);exact W.lks_uniq ((zaO l).trans hp) (zdG l) (znW n)
theorem zmK{α:Type}{l:List α}{v:Int}(h0:0<=v)(h1:v<l.length):atI l v=l[v.toNat]? := by unfold atI;rw[zm7 h0 h1];rfl
theorem zve{l:List Dt}{v:Int}{d:Dt}(h0:0<=v)(h1:v<l.length)(hd:l[v.toNat]? = some d):gIx (.tup l) (.int v)=.ok d:=by unfold gIx;simp only[zmK h0 h1,hd]
theorem zws{fa:De}{fr:DA}{Z Z1 Z2:Ev}{d:Dt}{ds:List Dt}(h1:fa Z=.ok (d,Z1))(h2:fr Z1=.ok (ds,Z2)):dA fa fr Z=.ok (d::ds,Z2):=by unfold dA;rw[h1];simp only[R.bind_ok];rw[h2];rfl
theorem zu8{f:DA}{Z Z1:Ev}{ds:List Dt}(h:f Z=.ok (ds,Z1))(hl:ds.length<=16777216):zfp f Z=.ok (.tup ds,Z1):=by unfold zfp;rw[h];simp only[R.bind_ok];rw[if_pos (by unfold zhl;simpa using hl)]
theorem zqB{ns:List Int}{k:Nat}:∃ c:Int,zc2 [.val (.scr ns),.val (.int k)]=.ok (.int c,[.val .non,.val .non]):=by
 have e0:dTB (dOp gLt (zab 1) (dFn zc3 (dA (zab 0) dA0))) [some (.val (.scr ns)),some (.val (.int k))]=.ok (decide ((k:Int)<ns.length),[some (.val (.scr ns)),some (.val (.int k))]):=zaG (zau (d:=.int k) (e:=.int ns.length) rfl rfl rfl);by_cases h:k<ns.length
 ·refine ⟨ns[k],zaj (Z':=[some (.val (.scr ns)),some (.val (.int k))]) rfl ?_ rfl⟩;show zbM [some (.val (.scr ns)),some (.val (.int k))]=_;unfold zbM;refine zbz ?_;rw[zd5 (by rw[e0,decide_eq_true xwl])];refine zbe (zau (d:=.scr ns) (e:=.int k) rfl rfl ?_);unfold gIx;simp only[zmK (l:=ns) (v:=(k:Int)) xwl xwl,Int.toNat_natCast,wac h]
 ·refine ⟨0,zaj (Z':=[some (.val (.scr ns)),some (.val (.int k))]) rfl ?_ rfl⟩;show zbM [some (.val (.scr ns)),some (.val (.int k))]=_;unfold zbM;rw[zag (Z1:=[some (.val (.scr ns)),some (.val (.int k))]) (by rw[zcm (by rw[e0,decide_eq_false xwl])];rfl)];rfl
theorem zov{ns:List Int}{k:Nat}:∃ st,St st/\zc5 [.val (.scr ns),.val (.int k)]=.ok (.lst st,[.val .non,.val .non]):=by
 obtain ⟨c,hc⟩:=zqB (ns:=ns) (k:=k);have e1:zbi 2 (zai zc2 (dR (zab 0) (dR (zab 1) dR0))) [some (.val (.scr ns)),some (.val (.int k)),none]=.ok (.nx,[some (.val (.scr ns)),some (.val (.int k)),some (.val (.int c))]):=zaM (zcN (Z':=[some (.val (.scr ns)),some (.val (.int k)),none]) (Z'':=[some (.val (.scr ns)),some (.val (.int k)),none]) rfl rfl hc) xws;have ep:dOp zst (dC (.int 10)) (dC (.int 18)) [some (.val (.scr ns)),some (.val (.int k)),some (.val (.int c))]=.ok (.int 1000000000000000000,[some (.val (.scr ns)),some (.val (.int k)),some (.val (.int c))]):=by refine zau rfl rfl ?_;show (if 0<=(18:Int)/\(18:Int)<=1000/\(10:Int).natAbs<18446744073709551616 then R.ok (Dt.int ((10:Int) ^ (18:Int).toNat)) else R.no)=_;rw[if_pos xwd];rfl
 have e2:dTB (dOp gGe (zab 2) (dOp zst (dC (.int 10)) (dC (.int 18)))) [some (.val (.scr ns)),some (.val (.int k)),some (.val (.int c))]=.ok (decide ((1000000000000000000:Int)<=c),[some (.val (.scr ns)),some (.val (.int k)),some (.val (.int c))]):=zaG (zau (d:=.int c) rfl ep rfl);by_cases h:(1000000000000000000:Int)<=c
 ·refine ⟨[.int (c-1000000000000000000),.bl true],⟨_,_,rfl⟩,zaj (Z':=[some (.val (.scr ns)),some (.val (.int k)),some (.val (.int c))]) rfl ?_ rfl⟩;show zc8 [some (.val (.scr ns)),some (.val (.int k)),none]=_;unfold zc8;rw[zag e1];refine zbz ?_;rw[zd5 (by rw[e2,decide_eq_true h])];unfold ze5 zdg;rw[dA,zau (d:=.int c) (z:=.int (c-1000000000000000000)) rfl ep rfl];rfl
 ·refine ⟨[.int (c % 2147483647),.bl false],⟨_,_,rfl⟩,zaj (Z':=[some (.val (.scr ns)),some (.val (.int k)),some (.val (.int c))]) rfl ?_ rfl⟩;show zc8 [some (.val (.scr ns)),some (.val (.int k)),none]=_;unfold zc8;rw[zag e1,zag (Z1:=[some (.val (.scr ns)),some (.val (.int k)),some (.val (.int c))]) (by rw[zcm (by rw[e2,decide_eq_false h])];rfl)];unfold ze5 zdg;rw[dA,zau (d:=.int c) (z:=.int (c % 2147483647)) rfl rfl rfl];rfl
theorem zng{F:FD}{fa fb:De}{Z Z' Z'':Ev}{d e:Dt}{y:List Dt}{l:List B}(h:fa Z=.ok (d,Z'))(h2:fb Z'=.ok (e,Z''))(hF:F [.val d,.val e]=.ok (.lst y,l)):zbn F (dR fa (dR fb dR0)) Z=.ok (y,Z''):=by unfold zbn dR dR0;rw[h];simp only[R.bind_ok,h2,zoy,zb1,if_true,zaD,hF];rw[zmt]
inductive Tr where
 |lf (i:Int)|nd (row:Bool) (l:List Tr)
noncomputable def wd(r:Bool):Str:=if r then Str.ofString "row" else Str.ofString "any"
mutual
noncomputable def toD:Tr->Dt
 |.lf i=>.int i
 |.nd r l=>.tup [.str (wd r),.tup (zlH l)]
noncomputable def zlH:List Tr->List Dt
 |[]=>[]
 |t::r=>toD t::zlH r
end
mutual
noncomputable def zac:Tr->List Int
 |.lf i=>[i]
 |.nd _ l=>zad l
noncomputable def zad:List Tr->List Int
 |[]=>[]
 |t::r=>zac t++zad r
end
mutual
noncomputable def dep:Tr->Nat
 |.lf _=>1
 |.nd _ l=>zdi l+1
noncomputable def zdi:List Tr->Nat
 |[]=>0
 |t::r=>max (dep t) (zdi r)
end
mutual
noncomputable def okT:Tr->Bool
 |.lf _=>true
 |.nd r l=>decide ((if r then 3 else 2)<=l.length) && zhB l
noncomputable def zhB:List Tr->Bool
 |[]=>true
 |t::r=>okT t && zhB r
end
theorem zbk:∀ l:List Tr,zlH l=l.map toD
 |[]=>by simp[zlH]
 |t::r=>by simp[zlH,zbk r]
theorem zaF:∀ l:List Tr,zad l=l.flatMap zac
 |[]=>by simp[zad]
 |t::r=>by simp[zad,zaF r]
theorem zcR:∀ l:List Tr,zhB l=l.all okT
 |[]=>by simp[zhB]
 |t::r=>by simp[zhB,zcR r]
theorem zaS{n:Nat}:∀{l:List Tr},zdi l<=n ↔ ∀ t∈l,dep t<=n
 |[]=>by simp[zdi]
 |t::r=>by have:=zaS (n:=n) (l:=r);simp only[zdi,wap,forall_eq_or_imp];rw[<- this];lia
theorem zb5:∀(n:Nat)(t:Tr),dep t<=n->okT t=true->zac t≠[]
 |n,.lf i,_,_=>by simp[zac]
 |0,.nd r l,h,_=>by simp[dep] at h
 |n+1,.nd r l,h,ho=>by
  simp only[dep,okT,wae,war] at h ho;cases l with
  |nil=>have:=ho.1;cases r <;> simp at this
  |cons t q =>
   simp only[zhB,wae] at ho;have:=zb5 n t (by simp only[zdi] at h;lia) ho.2.1;simp only[zac,zad];intro z;exact this (List.append_eq_nil_iff.mp z).1
theorem ziW{α:Type}{u:α->Dt}{f:α->List Dt}{fe:DN}{Z0:Ev}:∀{l:List α}{o:Option B},(∀ a∈l,fe (Z0++[some (.val (u a))])=.ok (f a,Z0++[some (.val (u a))]))->∃ o',zeq (zb7 Z0.length) dTT fe (l.map u) (Z0++[o])=.ok (l.map f,Z0++[o'])
 |[],o,_=>⟨o,rfl⟩
 |a::l,o,h=>by obtain ⟨o',e⟩:=ziW (l:=l) (o:=some (.val (u a))) λb hb=>h b (wah _ hb);refine ⟨o',?_⟩;rw[List.map_cons,zeq,zoX];simp only[R.bind_ok,dTT,if_true];rw[h a xws];simp only[R.bind_ok];rw[e];rfl
theorem zh7{g:Int}:∀{l:List (List Int)}{j:Nat}{p:List Int},l[j]? = some p->(l.set j (p++[g])).flatten.Perm (l.flatten++[g])
 |[],j,p,h=>by simp at h
 |a::l,0,p,h=>by simp at h;subst h;simp only[List.set_cons_zero,List.flatten_cons,List.append_assoc];exact List.Perm.append_left _ List.perm_append_comm
 |a::l,j+1,p,h=>by have:=zh7 (g:=g) (l:=l) (j:=j) (p:=p) (by simpa using h);simp only[List.set_cons_succ,List.flatten_cons,List.append_assoc];exact this.append_left a
noncomputable def lz(p:List Int):List Dt:=p.map .int
theorem zl1{g r b6:Option B}{m:Nat}:∀{gs:List Int}{pss:List (List Int)}{st:List Dt}{o:Option B},0<m->m<=100->pss.length=m->(∀ p∈pss,p≠[])->pss.flatten.length+gs.length<=1000->St st ->
  ∃(pss':List (List Int))(st':List Dt)(o':Option B),St st'/\pss'.length=m/\(∀ p∈pss',p≠[])/\pss'.flatten.Perm (pss.flatten++gs) /\
   zo5 (zb7 5) (dEx (zle 4 5 (zai zaw (dRO 0 (dR (zab 3) dR0))))) (gs.map .int) [some (.own st),g,r,some (.val (.int m)),some (.own2 (pss.map lz)),o,b6]=.ok (.nx,[some (.own st'),g,r,some (.val (.int m)),some (.own2 (pss'.map lz)),o',b6])
 |[],pss,st,o,_,_,hl,hne,_,hs=>⟨pss,st,o,hs,hl,hne,xws,rfl⟩
 |x::gs,pss,st,o,m0,m1,hl,hne,hb,hs=>by
  obtain ⟨v,st1,e,hs1,v0,v1⟩:=zeI (m:=(m:Nat)) hs xwl xwl;have hj:v.toNat<pss.length:=by lia
  obtain ⟨p,hp⟩ : ∃ p,pss[v.toNat]? = some p:=⟨_,wac hj⟩
  have hfs:=zh7 (g:=x) hp;have hpl:p.length<=pss.flatten.length:=(List.sublist_flatten_of_mem (waH hp)).length_le;obtain ⟨pss',st',o',hs',hl',hne',hp',e'⟩:=zl1 (g:=g) (r:=r) (b6:=b6) (m:=m) (gs:=gs) (pss:=pss.set v.toNat (p++[x])) (st:=st1) (o:=some (.val (.int x))) m0 m1 (by simpa using hl) (λq hq=>by
    rcases List.mem_or_eq_of_mem_set hq with z|z
    ·exact hne q z
    ·rw[z];simp) (by rw[hfs.length_eq];simp only[wav,wan,List.length_nil] at hb ⊢;lia) hs1
  refine ⟨pss',st',o',hs',hl',hne',?_,?_⟩
  ·refine hp'.trans ((hfs.append_right gs).trans ?_);simp
  ·rw[List.map_cons,zo5];show ((dEx (zle 4 5 (zai zaw (dRO 0 (dR (zab 3) dR0))))) [some (.own st),g,r,some (.val (.int m)),some (.own2 (pss.map lz)),some (.val (.int x)),b6]).bind _=_;have ec:=zlC (F:=zaw) (fb:=zab 3) (i:=0) (Z:=[some (.own st),g,r,some (.val (.int m)),some (.own2 (pss.map lz)),some (.val (.int x)),b6]) rfl rfl e;have eB:dEx (zle 4 5 (zai zaw (dRO 0 (dR (zab 3) dR0)))) [some (.own st),g,r,some (.val (.int m)),some (.own2 (pss.map lz)),some (.val (.int x)),b6]=.ok (.nx,[some (.own st1),g,r,some (.val (.int m)),some (.own2 ((pss.set v.toNat (p++[x])).map lz)),some (.val (.int x)),b6]):=by
    refine zeo (d:=.non) ?_;have hx:(pss.map lz)[v.toNat]? = some (lz p):=by rw[List.getElem?_map,hp];rfl
    have hix:ixN (pss.map lz).length v=some v.toNat:=zm7 v0 (by rw[List.length_map];lia);unfold zle;simp only[List.getElem?_cons_succ,List.getElem?_cons_zero,ec,R.bind_ok,List.set_cons_zero,hix,hx];rw[if_pos (by unfold lz;rw[List.length_map];simp only[wan] at hb;lia)];simp only[List.set_cons_succ,List.set_cons_zero];rw[List.map_set];unfold lz;simp
   rw[eB];simp only[R.bind_ok];exact e'
theorem zxn{m:Nat}{pss:List (List Int)}(hl:pss.length=m)(h2:2<=m)(hne:∀ p∈pss,p≠[]):∀ p∈pss,p.length<pss.flatten.length:=by
 intro p hp;obtain ⟨a,b,rfl⟩:=List.append_of_mem hp;have:0<a.flatten.length+b.flatten.length:=by
  cases a with
  |cons q a =>
   have:=List.length_pos_iff.mpr (hne q xws);simp only[List.flatten_cons,wav];lia
  |nil =>
   cases b with
   |cons q b =>
    have:=List.length_pos_iff.mpr (hne q xws);simp only[List.flatten_cons,wav];lia
   |nil=>simp at hl;lia
 simp only[List.flatten_append,List.flatten_cons,wav];lia
noncomputable def zxC(p:List Int)(t:Tr):Prop:=okT t=true/\(zac t).Perm p/\dep t<=p.length
theorem zk3{k:Nat}:∀{pss:List (List Int)}{ts:List Tr},Paired zxC pss ts->(∀ p∈pss,p.length<=k)->zhB ts=true/\(zad ts).Perm pss.flatten/\zdi ts<=k/\ts.length=pss.length
 |_,_,.nil,_=>by simp[zhB,zad,zdi]
 |p::pss,t::ts,.cons h r,hk=>by obtain ⟨a1,a2,a3,a4⟩:=zk3 (k:=k) r λq hq=>hk q (wah _ hq);have:=hk p xws;obtain ⟨b1,b2,b3⟩:=h;simp only[zhB,zad,zdi,List.flatten_cons,wan];exact ⟨by rw[b1,a1];rfl,b2.append a2,xwl,xwl⟩
theorem zkS:∀(n:Nat)(gs:List Int)(st:List Dt),gs.length<=n->n<=8->1<=gs.length->gs.length<=7->St st->∃ t st',St st'/\zxC gs t/\zaW n [.own st,.val (.lst (gs.map .int))]=.ok (toD t,[.own st',.val .non])
 |0,gs,st,h,_,h1,_,_=>by lia
 |n+1,gs,st,h,h8,h1,h7,hs=>by
  by_cases hone:gs.length=1
  ·obtain ⟨g,rfl⟩:=List.length_eq_one_iff.mp hone;refine ⟨.lf g,st,hs,⟨rfl,.refl _,by simp[dep]⟩,zaj (Z':=[some (.own st),some (.val (.lst [.int g])),none,none,none,none,none]) rfl ?_ rfl⟩;rw[toD];show zcq (zaW n) [some (.own st),some (.val (.lst [.int g])),none,none,none,none,none]=_;unfold zcq;refine zbz ?_;rw[zd5 (Z1:=[some (.own st),some (.val (.lst [.int g])),none,none,none,none,none]) (zaG (zau (d:=.int 1) (e:=.int 1) rfl rfl (by rw[zbF rfl rfl,eqI];rfl)))];rfl
  ·
   obtain ⟨st1,p,hs1,hp,e1⟩:=zoF (l:=gs.map .int) hs (by rw[List.length_map];lia) (λd hd=>by obtain ⟨i,_,rfl⟩:=List.mem_map.mp hd;rfl);obtain ⟨q,hq,rfl⟩:=zll hp;have hql:=hq.length_eq;obtain ⟨v,st2,e2,hs2,v0,v1⟩:=zeI (m:=(q.length:Int)-1) hs1 xwl xwl;obtain ⟨m,hm⟩ : ∃ m:Nat,(m:Int)=2+v:=⟨(2+v).toNat,xwl⟩
   have m2:2<=m:=by lia
   have mq:m<=q.length:=by lia
   have cut1:zih (q.map Dt.int) none (some (m:Int))=(q.take m).map .int:=by unfold zih;rw[HT.sIx_nat];simp only[HT.sIx_none,List.drop_zero,Nat.sub_zero,wag];rw[Nat.min_eq_left mq,List.map_take]
   have cut2:zih (q.map Dt.int) (some (m:Int)) none=(q.drop m).map .int:=by unfold zih;rw[HT.sIx_nat];simp only[HT.sIx_none,wag];rw[Nat.min_eq_left mq,List.map_drop,List.take_of_length_le xws]
   let G:Option B:=some (.val (.lst (gs.map .int)));let Rw:Option B:=some (.val (.lst (q.map .int)));let Mn:Option B:=some (.val (.int m));have x1:zbi 2 (zai zbS (dRO 0 (dR (zab 1) dR0))) [some (.own st),G,none,none,none,none,none]=.ok (.nx,[some (.own st1),G,Rw,none,none,none,none]) :=
    zaM (zlC (Z:=[some (.own st),G,none,none,none,none,none]) rfl rfl e1) xws
   have x2:zbi 3 (dOp zeK (dC (.int 2)) (zai zaw (dRO 0 (dR (dOp zk4 (dFn zc3 (dA (zab 2) dA0)) (dC (.int 1))) dR0)))) [some (.own st1),G,Rw,none,none,none,none]=.ok (.nx,[some (.own st2),G,Rw,Mn,none,none,none]):=by
    have ea:dOp zk4 (dFn zc3 (dA (zab 2) dA0)) (dC (.int 1)) [some (.own st1),G,Rw,none,none,none,none]=.ok (.int ((q.length:Int)-1),[some (.own st1),G,Rw,none,none,none,none]):=by refine zau (d:=.int (q.map Dt.int).length) rfl rfl ?_;rw[List.length_map];rfl
    refine zaM (zau rfl (zlC (Z:=[some (.own st1),G,Rw,none,none,none,none]) rfl ea e2) (z:=.int m) ?_) xws;rw[hm];rfl
   obtain ⟨o7,c1⟩:=ziW (Z0:=[some (.own st2),G,Rw,Mn,none,none,none]) (u:=Dt.int) (f:=λg=>[.int g]) (fe:=zdg (dA (zab 7) dA0)) (l:=q.take m) (o:=none) λg _=>rfl;have hpm:(q.take m).map (λg=>[Dt.int g])=((q.take m).map λg=>[g]).map lz:=by rw[List.map_map];rfl
   have x3:znu 4 (dIt (dFz (zk8 (zab 2) dO0 (dO1 (zab 3))))) (zb7 7) dTT (zdg (dA (zab 7) dA0)) 1 [some (.own st2),G,Rw,Mn,none,none,none]=.ok (.nx,[some (.own st2),G,Rw,Mn,some (.own2 (((q.take m).map λg=>[g]).map lz)),none,none]):=by
    have ei:dIt (dFz (zk8 (zab 2) dO0 (dO1 (zab 3)))) [some (.own st2),G,Rw,Mn,none,none,none]=.ok ((q.take m).map .int,[some (.own st2),G,Rw,Mn,none,none,none]):=by show R.ok (zih (q.map Dt.int) none (some (m:Int)),_)=_;rw[cut1]
    unfold znu;rw[ei];simp only[R.bind_ok];rw[if_pos (by unfold zhl;simp only[List.length_map,List.length_take,decide_eq_true_eq];lia)];show (match zeq (zb7 7) dTT (zdg (dA (zab 7) dA0)) ((q.take m).map .int) ([some (.own st2),G,Rw,Mn,none,none,none]++[none]) with|.ok z=>if 4<7 then R.ok (Fl.nx,(z.2.take 7).set 4 (some (.own2 z.1))) else .no|_=>.no)=_;have c1':zeq (zb7 7) dTT (zdg (dA (zab 7) dA0)) ((q.take m).map .int) ([some (.own st2),G,Rw,Mn,none,none,none]++[none])=.ok ((q.take m).map (λg=>[Dt.int g]),[some (.own st2),G,Rw,Mn,none,none,none]++[o7]):=c1;rw[c1',hpm];rfl
   have hfl:((q.take m).map λg=>[g]).flatten=q.take m:=by
    induction q.take m with
    |nil=>rfl
    |cons a r ih=>simp[ih]
   obtain ⟨pss,st3,o5,hs3,hl3,hne3,hp3,e3⟩:=zl1 (g:=G) (r:=Rw) (b6:=none) (m:=m) (gs:=q.drop m) (pss:=(q.take m).map λg=>[g]) (st:=st2) (o:=none) xwl xwl (by rw[List.length_map,List.length_take];lia) (λp hp=>by obtain ⟨g,_,rfl⟩:=List.mem_map.mp hp;simp) (by rw[hfl,List.length_take,List.length_drop];lia) hs2;have hflp:pss.flatten.Perm gs:=by refine hp3.trans ?_;rw[hfl,List.take_append_drop];exact hq
   have x4:zgE (dIt (dFz (zk8 (zab 2) (dO1 (zab 3)) dO0))) (zb7 5) (dEx (zle 4 5 (zai zaw (dRO 0 (dR (zab 3) dR0))))) [some (.own st2),G,Rw,Mn,some (.own2 (((q.take m).map λg=>[g]).map lz)),none,none]=.ok (.nx,[some (.own st3),G,Rw,Mn,some (.own2 (pss.map lz)),o5,none]):=by
    have ei:dIt (dFz (zk8 (zab 2) (dO1 (zab 3)) dO0)) [some (.own st2),G,Rw,Mn,some (.own2 (((q.take m).map λg=>[g]).map lz)),none,none]=.ok ((q.drop m).map .int,[some (.own st2),G,Rw,Mn,some (.own2 (((q.take m).map λg=>[g]).map lz)),none,none]):=by show R.ok (zih (q.map Dt.int) (some (m:Int)) none,_)=_;rw[cut2]
    unfold zgE;rw[ei];exact e3
   have hlt:=zxn hl3 m2 hne3;have hfll:=hflp.length_eq;let Fz:Option B:=some (.val (.lst ((pss.map lz).map .lst)));obtain ⟨ts,st4,hs4,hp4,e4⟩:=zrv (Rl:=zxC) (u:=λp=>.lst (lz p)) (v:=toD) (zbV:=[G,Rw,Mn,Fz,o5,none]) (fi:=dIt (zfl 4)) (fe:=zai (zaW n) (dRO 0 (dR (zab 7) dR0))) (l:=pss) (ds:=(pss.map lz).map .lst) (j:=7) (Z:=[some (.own st3),G,Rw,Mn,some (.own2 (pss.map lz)),o5,none]) (st:=st3) rfl (by rw[List.map_map];rfl) xwl rfl
    (λp hp st' hs'=>by have:=hlt p hp;have hpos:=List.length_pos_iff.mpr (hne3 p hp);obtain ⟨t,st5,h5,h6,h7'⟩:=zkS n p st' xwl xwl xwl xwl hs';exact ⟨t,st5,h5,h6,zlC (Z:=some (.own st')::([G,Rw,Mn,Fz,o5,none]++[some (.val (.lst (lz p)))])) rfl rfl h7'⟩) hs3
   obtain ⟨k1,k2,k3,k4⟩:=zk3 (k:=gs.length-1) hp4 λp hp=>by have:=hlt p hp;lia
   have x5:zbi 6 (dFn zdd (dA (dFz (zb9 (dIt (zfl 4)) (zb7 7) dTT (zai (zaW n) (dRO 0 (dR (zab 7) dR0))) 1)) dA0)) [some (.own st3),G,Rw,Mn,some (.own2 (pss.map lz)),o5,none]=.ok (.nx,[some (.own st4),G,Rw,Mn,Fz,o5,some (.val (.tup (ts.map toD)))]):=zaM (zdF (zba e4) rfl) xws;have pre:∀ X,zcq (zaW n) [some (.own st),G,none,none,none,none,none]=X ↔ za3 (dIf (zlZ (dTB (dOp gGt (zab 3) (dC (.int 2)))) (dTB (dOp (gEq false) (zai zaw (dRO 0 (dR (dC (.int 2)) dR0))) (dC (.int 1))))) (zbt (zfp (dA (dC (.str (Str.ofString "row"))) (dA (zab 6) dA0)))) dNx) (zbt (zfp (dA (dC (.str (Str.ofString "any"))) (dA (zab 6) dA0)))) [some (.own st4),G,Rw,Mn,Fz,o5,some (.val (.tup (ts.map toD)))]=X:=λX=>by
    unfold zcq;have x0:dTB (dOp (gEq false) (dFn zc3 (dA (zab 1) dA0)) (dC (.int 1))) [some (.own st),G,none,none,none,none,none]=.ok (false,[some (.own st),G,none,none,none,none,none]):=by
     refine zaG (zau (d:=.int (gs.map Dt.int).length) rfl rfl ?_);rw[zbF rfl rfl,eqI,List.length_map];have:((gs.length:Int) == 1)=false:=by simp;lia
     rw[this];rfl
    rw[zag (Z1:=[some (.own st),G,none,none,none,none,none]) (by rw[zcm x0];rfl),zag x1,zag x2,zag x3,zag x4,zag x5]
   have fin:∀(r:Bool)(st5:List Dt),(r=true->3<=m)->St st5->zcq (zaW n) [some (.own st),G,none,none,none,none,none]=.ok (.rt (toD (.nd r ts)),[some (.own st5),G,Rw,Mn,Fz,o5,some (.val (.tup (ts.map toD)))])->∃ t st',St st'/\zxC gs t/\zaW (n+1) [.own st,.val (.lst (gs.map .int))]=.ok (toD t,[.own st',.val .non]):=λr st5 hr hs5 hd=>by
    refine ⟨.nd r ts,st5,hs5,⟨?_,k2.trans hflp,?_⟩,zaj (Z':=[some (.own st5),G,Rw,Mn,Fz,o5,some (.val (.tup (ts.map toD)))]) rfl hd rfl⟩
    ·simp only[okT,k1,Bool.and_true,war,k4,hl3];cases r with
     |false=>simpa using m2
     |true=>simpa using hr rfl
    ·simp only[dep];lia
   have hD:∀ r,toD (.nd r ts)=.tup [.str (wd r),.tup (ts.map toD)]:=λr=>by rw[toD,zbk]
   by_cases h3:2<m
   ·have y1:dTB (dOp gGt (zab 3) (dC (.int 2))) [some (.own st4),G,Rw,Mn,Fz,o5,some (.val (.tup (ts.map toD)))]=.ok (true,[some (.own st4),G,Rw,Mn,Fz,o5,some (.val (.tup (ts.map toD)))]):=by refine zaG (zau (d:=.int m) rfl rfl ?_);simp only[zra];rw[decide_eq_true (by lia:(2:Int)<m)]
    obtain ⟨u,st5,e5,hs5,u0,u1⟩:=zeI (m:=2) hs4 xwd xwd;have ec:=zlC (F:=zaw) (fb:=dC (.int 2)) (i:=0) (Z:=[some (.own st4),G,Rw,Mn,Fz,o5,some (.val (.tup (ts.map toD)))]) rfl rfl e5;have y2:dTB (dOp (gEq false) (zai zaw (dRO 0 (dR (dC (.int 2)) dR0))) (dC (.int 1))) [some (.own st4),G,Rw,Mn,Fz,o5,some (.val (.tup (ts.map toD)))]=.ok (u == 1,[some (.own st5),G,Rw,Mn,Fz,o5,some (.val (.tup (ts.map toD)))]):=zaG (zau ec rfl (by rw[zbF rfl rfl,eqI];rfl));by_cases hu:u=1
    ·refine fin true st5 (λ_=>by lia) hs5 ((pre _).mpr (zbz ?_));rw[zd5 (by rw[zpE y1,y2,hu];rfl),hD];rfl
    ·have hu':(u == 1)=false:=by simpa using hu
     refine fin false st5 (λz=>by cases z) hs5 ((pre _).mpr ?_);rw[zag (Z1:=[some (.own st5),G,Rw,Mn,Fz,o5,some (.val (.tup (ts.map toD)))]) (by rw[zcm (by rw[zpE y1,y2,hu'])];rfl),hD];rfl
   ·have y1:dTB (dOp gGt (zab 3) (dC (.int 2))) [some (.own st4),G,Rw,Mn,Fz,o5,some (.val (.tup (ts.map toD)))]=.ok (false,[some (.own st4),G,Rw,Mn,Fz,o5,some (.val (.tup (ts.map toD)))]):=by refine zaG (zau (d:=.int m) rfl rfl ?_);simp only[zra];rw[decide_eq_false (by lia:¬ (2:Int)<m)]
    refine fin false st4 (λz=>by cases z) hs4 ((pre _).mpr ?_);rw[zag (Z1:=[some (.own st4),G,Rw,Mn,Fz,o5,some (.val (.tup (ts.map toD)))]) (by rw[zcm (by rw[zu9 y1])];rfl),hD];rfl
noncomputable def tz(p:List Int):Dt:=.tup (p.map .int)
noncomputable def lp(ps:List (List Int)):List Dt:=ps.map tz
theorem zkj(r:Bool):PySem.PyData.strOk (wd r)=true:=by cases r <;> decide +kernel
theorem zoQ:∀(n:Nat)(t:Tr),dep t<=n->okN (2 * n) (toD t)=true
 |n,.lf i,_=>by simp[toD,okN]
 |0,.nd r l,h=>by simp[dep] at h
 |n+1,.nd r l,h=>by
  simp only[dep] at h;have e:2 * (n+1)=(2 * n+1)+1:=by omega
  rw[e,toD];have h2:okN (2 * n+1) (.tup (zlH l))=true:=by simp only[okN,zbk,List.all_eq_true,List.mem_map];rintro d ⟨t,ht,rfl⟩;exact zoQ n t (zaS.mp (by omega:zdi l<=n) t ht)
  have h1:okN (2 * n+1) (.str (wd r))=true:=by rw[okN];exact zkj r
  rw[okN];simp only[List.all_cons,List.all_nil,h1,h2,Bool.and_self]
theorem zyd{t:Tr}(h:dep t<=9):okN 59 (toD t)=true:=znn (zoQ 9 t h) xwd
noncomputable def zxR:Tr->Bool
 |.lf _=>true
 |.nd _ _=>false
theorem zkO(t:Tr):zc6 [.val (toD t)]=.ok (.bl (zxR t),[.val .non]):=by
 cases t with
 |lf i=>rw[toD];rfl
 |nd r l=>rw[toD];rfl
theorem zda:∀{l:List Tr}{t:Tr},t∈l->(zac t).length<=(zad l).length
 |[],_,h=>by cases h
 |u::l,t,h=>by
  simp only[zad,wav];rcases wap.mp h with rfl|h
  ·omega
  ·have:=zda h;omega
theorem eqS{x y:Str}:eqD (.str x) (.str y)=(x == y):=by rw[eqD]
theorem ztB(r:Bool):(wd r == Str.ofString "any") = !r:=by cases r <;> decide +kernel
theorem zkI:PySem.PyData.strOk (Str.ofString "any")=true:=by decide +kernel
noncomputable def tdN:Nat->Dt->Bool
 |_,.int _=>true
 |_,.str x=>PySem.PyData.strOk x
 |n+1,.tup l=>decide (l.length<=1000) && l.all (tdN n)
 |_,_=>false
theorem zmv{n:Nat}:∀(l:List Tr),zdi l<=n->zhB l=true->l.length<=(zad l).length
 |[],_,_=>by simp
 |t::q,hd,ho=>by simp only[zdi] at hd;simp only[zhB,wae] at ho;have h1:=List.length_pos_iff.mpr (zb5 n t xwo ho.1);have h2:=zmv (n:=n) q xwo ho.2;simp only[zad,wav,wan];omega
theorem okB{b:Bool}:okN 60 (.bl b)=true:=rfl
theorem eqB{a b:Bool}:eqD (.bl a) (.bl b)=(a == b):=by rw[eqD]
theorem zjZ{f:Dt->Dt}{fe:De}{a b:Option B}:∀{l:List Dt}{o o2:Option B},(∀ d∈l,fe [a,b,some (.val d),some (.val d)]=.ok (f d,[a,b,some (.val d),some (.val d)]))->∃ o' o2',zcl (zgo 2 3) dTT fe (l.map λd=>.tup [d,d]) [a,b,o,o2]=.ok (l.map f,[a,b,o',o2'])
 |[],o,o2,_=>⟨o,o2,rfl⟩
 |d::l,o,o2,h=>by obtain ⟨o',o2',e⟩:=zjZ (l:=l) (o:=some (.val d)) (o2:=some (.val d)) λc hc=>h c (wah _ hc);refine ⟨o',o2',?_⟩;rw[List.map_cons,zcl];show (((fe [a,b,some (.val d),some (.val d)]).bind λy=>(zcl (zgo 2 3) dTT fe (l.map λd=>.tup [d,d]) y.2).bind λz=>R.ok (y.1::z.1,z.2)):R _)=_;rw[h d xws];simp only[R.bind_ok];rw[e];rfl
theorem zgn:∀(l:List Dt),zfL (l.map λ_=>Dt.bl true)=some (l.map λ_=>true)
 |[]=>rfl
 |d::l=>by simp[zfL,zgn l]
theorem zlA{F:FD}{d:Dt}(h1:(zlG (tyD d) "tuple" || zlG (tyD d) "list")=false)(h2:okN 60 d=true)(h3:eqD d d=true):zbU F [some (.val d),some (.val d)]=.ok (.rt (.bl true),[some (.val d),some (.val d)]):=by
 unfold zbU;have e0:dTB (zuQ "tuple" "list" (zab 1)) [some (.val d),some (.val d)]=.ok (false,[some (.val d),some (.val d)]):=by show R.ok ((zlG (tyD d) "tuple" || zlG (tyD d) "list"),[some (B.val d),some (.val d)])=_;rw[h1]
 rw[zag (Z1:=[some (.val d),some (.val d)]) (by rw[zcm e0];rfl)];refine zbe ?_;have e1:dOp (gEq false) (zab 0) (zab 1) [some (.val d),some (.val d)]=.ok (.bl true,[some (.val d),some (.val d)]):=zau rfl rfl (by rw[zbF h2 h2,h3];rfl);have e2:dOp (gEq false) (zg0 "bool" (zab 0)) (zg0 "bool" (zab 1)) [some (.val d),some (.val d)]=.ok (.bl true,[some (.val d),some (.val d)]):=zau rfl rfl (by rw[zbF okB okB,eqB];simp)
 unfold zw8;rw[e1];simp only[R.bind_ok];rw[e2]
theorem zn7{n:Nat}{l:List Dt}(hl:l.length<=1000)(hs:∀ d∈l,za0 (n+1) [.val d,.val d]=.ok (.bl true,[.val .non,.val .non])):za0 (n+2) [.val (.tup l),.val (.tup l)]=.ok (.bl true,[.val .non,.val .non]):=by
  refine zaj (Z':=[some (.val (.tup l)),some (.val (.tup l))]) rfl ?_ rfl;show zbU (za0 (n+1)) [some (.val (.tup l)),some (.val (.tup l))]=_;unfold zbU;refine zbz ?_;rw[zd5 (Z1:=[some (.val (.tup l)),some (.val (.tup l))]) rfl];have t1:dTB (dOp (gEq true) (zg0 "tuple" (zab 0)) (zg0 "tuple" (zab 1))) [some (.val (.tup l)),some (.val (.tup l))]=.ok (false,[some (.val (.tup l)),some (.val (.tup l))]):=zaG (zau rfl rfl (by rw[zbF okB okB,eqB];simp));have t2:dTB (dOp (gEq true) (zg0 "list" (zab 0)) (zg0 "list" (zab 1))) [some (.val (.tup l)),some (.val (.tup l))]=.ok (false,[some (.val (.tup l)),some (.val (.tup l))]):=zaG (zau rfl rfl (by rw[zbF okB okB,eqB];simp));have t3:dTB (dOp (gEq true) (dFn zc3 (dA (zab 0) dA0)) (dFn zc3 (dA (zab 1) dA0))) [some (.val (.tup l)),some (.val (.tup l))]=.ok (false,[some (.val (.tup l)),some (.val (.tup l))]):=zaG (zau (d:=.int l.length) (e:=.int l.length) rfl rfl (by rw[zbF rfl rfl,eqI];simp));rw[zag (Z1:=[some (.val (.tup l)),some (.val (.tup l))]) (by rw[zcm (Z1:=[some (.val (.tup l)),some (.val (.tup l))]) (by rw[zps t1,t2])];rfl)];rw[zag (Z1:=[some (.val (.tup l)),some (.val (.tup l))]) (by rw[zcm t3];rfl)];refine zbe ?_;obtain ⟨o',o2',e⟩:=zjZ (a:=some (.val (.tup l))) (b:=some (.val (.tup l))) (fe:=zai (za0 (n+1)) (dR (zab 2) (dR (zab 3) dR0))) (f:=λ_=>.bl true) (l:=l) (o:=none) (o2:=none) λd hd =>
   zcN (Z':=[some (.val (.tup l)),some (.val (.tup l)),some (.val d),some (.val d)]) rfl rfl (hs d hd)
  have ez:∀(l:List Dt),(l.zip l).map (λz=>Dt.tup [z.1,z.2])=l.map λd=>.tup [d,d]:=λl=>by
   induction l with
   |nil=>rfl
   |cons d l ih=>simp[ih]
  have ec:dFz (zb9 (zmp (zab 0) (zab 1)) (zgo 2 3) dTT (zai (za0 (n+1)) (dR (zab 2) (dR (zab 3) dR0))) 2) [some (.val (.tup l)),some (.val (.tup l))]=.ok (.lst (l.map λ_=>.bl true),[some (.val (.tup l)),some (.val (.tup l))]):=by
   refine zba ?_;have eZ:zmp (zab 0) (zab 1) [some (.val (.tup l)),some (.val (.tup l))]=.ok (l.map λd=>.tup [d,d],[some (.val (.tup l)),some (.val (.tup l))]):=by show (if l.length=l.length then R.ok ((l.zip l).map (λz=>Dt.tup [z.1,z.2]),[some (B.val (.tup l)),some (.val (.tup l))]) else .no)=_;rw[if_pos rfl,ez]
   unfold zb9;rw[eZ];simp only[R.bind_ok];rw[if_pos (by unfold zhl;simp only[List.length_map,decide_eq_true_eq];omega)];show (match zcl (zgo 2 3) dTT (zai (za0 (n+1)) (dR (zab 2) (dR (zab 3) dR0))) (l.map λd=>.tup [d,d]) [some (.val (.tup l)),some (.val (.tup l)),none,none] with|.ok z=>R.ok (z.1,z.2.take 2)|_=>.no)=_;rw[e];rfl
  refine zdF ec ?_;unfold ztp;simp only[zgn];simp
theorem zse{n:Nat}{l:List Dt}(hl:l.length<=1000)(hs:∀ d∈l,za0 (n+1) [.val d,.val d]=.ok (.bl true,[.val .non,.val .non])):za0 (n+2) [.val (.lst l),.val (.lst l)]=.ok (.bl true,[.val .non,.val .non]):=by
  refine zaj (Z':=[some (.val (.lst l)),some (.val (.lst l))]) rfl ?_ rfl;show zbU (za0 (n+1)) [some (.val (.lst l)),some (.val (.lst l))]=_;unfold zbU;refine zbz ?_;rw[zd5 (Z1:=[some (.val (.lst l)),some (.val (.lst l))]) rfl];have t1:dTB (dOp (gEq true) (zg0 "tuple" (zab 0)) (zg0 "tuple" (zab 1))) [some (.val (.lst l)),some (.val (.lst l))]=.ok (false,[some (.val (.lst l)),some (.val (.lst l))]):=zaG (zau rfl rfl (by rw[zbF okB okB,eqB];simp));have t2:dTB (dOp (gEq true) (zg0 "list" (zab 0)) (zg0 "list" (zab 1))) [some (.val (.lst l)),some (.val (.lst l))]=.ok (false,[some (.val (.lst l)),some (.val (.lst l))]):=zaG (zau rfl rfl (by rw[zbF okB okB,eqB];simp));have t3:dTB (dOp (gEq true) (dFn zc3 (dA (zab 0) dA0)) (dFn zc3 (dA (zab 1) dA0))) [some (.val (.lst l)),some (.val (.lst l))]=.ok (false,[some (.val (.lst l)),some (.val (.lst l))]):=zaG (zau (d:=.int l.length) (e:=.int l.length) rfl rfl (by rw[zbF rfl rfl,eqI];simp));rw[zag (Z1:=[some (.val (.lst l)),some (.val (.lst l))]) (by rw[zcm (Z1:=[some (.val (.lst l)),some (.val (.lst l))]) (by rw[zps t1,t2])];rfl)];rw[zag (Z1:=[some (.val (.lst l)),some (.val (.lst l))]) (by rw[zcm t3];rfl)];refine zbe ?_;obtain ⟨o',o2',e⟩:=zjZ (a:=some (.val (.lst l))) (b:=some (.val (.lst l))) (fe:=zai (za0 (n+1)) (dR (zab 2) (dR (zab 3) dR0))) (f:=λ_=>.bl true) (l:=l) (o:=none) (o2:=none) λd hd =>
   zcN (Z':=[some (.val (.lst l)),some (.val (.lst l)),some (.val d),some (.val d)]) rfl rfl (hs d hd)
  have ez:∀(l:List Dt),(l.zip l).map (λz=>Dt.tup [z.1,z.2])=l.map λd=>.tup [d,d]:=λl=>by
   induction l with
   |nil=>rfl
   |cons d l ih=>simp[ih]
  have ec:dFz (zb9 (zmp (zab 0) (zab 1)) (zgo 2 3) dTT (zai (za0 (n+1)) (dR (zab 2) (dR (zab 3) dR0))) 2) [some (.val (.lst l)),some (.val (.lst l))]=.ok (.lst (l.map λ_=>.bl true),[some (.val (.lst l)),some (.val (.lst l))]):=by
   refine zba ?_;have eZ:zmp (zab 0) (zab 1) [some (.val (.lst l)),some (.val (.lst l))]=.ok (l.map λd=>.tup [d,d],[some (.val (.lst l)),some (.val (.lst l))]):=by show (if l.length=l.length then R.ok ((l.zip l).map (λz=>Dt.tup [z.1,z.2]),[some (B.val (.lst l)),some (.val (.lst l))]) else .no)=_;rw[if_pos rfl,ez]
   unfold zb9;rw[eZ];simp only[R.bind_ok];rw[if_pos (by unfold zhl;simp only[List.length_map,decide_eq_true_eq];omega)];show (match zcl (zgo 2 3) dTT (zai (za0 (n+1)) (dR (zab 2) (dR (zab 3) dR0))) (l.map λd=>.tup [d,d]) [some (.val (.lst l)),some (.val (.lst l)),none,none] with|.ok z=>R.ok (z.1,z.2.take 2)|_=>.no)=_;rw[e];rfl
  refine zdF ec ?_;unfold ztp;simp only[zgn];simp
theorem zkU:∀(n:Nat)(d:Dt),tdN n d=true->okN 60 d=true->za0 (n+1) [.val d,.val d]=.ok (.bl true,[.val .non,.val .non])
 |n,.int i,ht,ho=>zaj rfl (zlA rfl ho (by rw[eqI];simp)) rfl
 |n,.str x,ht,ho=>zaj rfl (zlA rfl ho (by rw[eqS];simp)) rfl
 |0,.tup l,ht,ho=>by simp[tdN] at ht
 |n+1,.tup l,ht,ho=>by
  rw[tdN,Bool.and_eq_true,List.all_eq_true,decide_eq_true_eq] at ht;exact zn7 ht.1 λd hd=>zkU n d (ht.2 d hd) (by rw[okN,List.all_eq_true] at ho;exact zhb _ _ (ho d hd))
 |n,.non,ht,ho=>by cases n <;> simp[tdN] at ht
 |n,.bl _,ht,ho=>by cases n <;> simp[tdN] at ht
 |n,.lst _,ht,ho=>by cases n <;> simp[tdN] at ht
 |n,.dct _,ht,ho=>by cases n <;> simp[tdN] at ht
 |n,.scr _,ht,ho=>by cases n <;> simp[tdN] at ht
theorem zv3{k:Nat}(p:List Int)(hl:p.length<=1000):za0 (k+2) [.val (tz p),.val (tz p)]=.ok (.bl true,[.val .non,.val .non]):=by unfold tz;refine zn7 (by simpa using hl) λd hd=>?_;obtain ⟨i,_,rfl⟩:=List.mem_map.mp hd;exact zkU k (.int i) (by cases k <;> rfl) rfl
theorem ztM{k:Nat}(ps:List (List Int))(hl:ps.length<=1000)(h:∀ p∈ps,p.length<=1000):za0 (k+3) [.val (.lst (lp ps)),.val (.lst (lp ps))]=.ok (.bl true,[.val .non,.val .non]):=by refine zse (by unfold lp;simpa using hl) λd hd=>?_;obtain ⟨p,hp,rfl⟩:=List.mem_map.mp hd;exact zv3 p (h p hp)
theorem zid{F:FD}{x:Option B}:∀{l:List Tr}{acc:List Int}{o:Option B},(∀ t∈l,F [.val (toD t)]=.ok (.lst ((zac t).map .int),[.val .non]))->acc.length+(zad l).length<=1000 ->
  ∃ o',zo5 (zb7 2) (zbi 1 (dFz (zig (zab 1) (zai F (dR (zab 2) dR0))))) (zlH l) [x,some (.val (.lst (acc.map .int))),o]=.ok (.nx,[x,some (.val (.lst ((acc++zad l).map .int))),o'])
 |[],acc,o,_,_=>⟨o,by simp[zlH,zo5,zad]⟩
 |t::l,acc,o,h,hl=>by
  simp only[zad,wav] at hl;obtain ⟨o',e⟩:=zid (F:=F) (x:=x) (l:=l) (acc:=acc++zac t) (o:=some (.val (toD t))) (λu hu=>h u (wah _ hu)) (by simp only[wav];omega);refine ⟨o',?_⟩;rw[zlH,zo5];show ((zbi 1 (dFz (zig (zab 1) (zai F (dR (zab 2) dR0))))) [x,some (.val (.lst (acc.map .int))),some (.val (toD t))]).bind _=_;have e1:zbi 1 (dFz (zig (zab 1) (zai F (dR (zab 2) dR0)))) [x,some (.val (.lst (acc.map .int))),some (.val (toD t))]=.ok (.nx,[x,some (.val (.lst ((acc++zac t).map .int))),some (.val (toD t))]):=by
   have ec:=zeg (F:=F) (fa:=zab 2) (Z:=[x,some (.val (.lst (acc.map .int))),some (.val (toD t))]) (Z':=[x,some (.val (.lst (acc.map .int))),some (.val (toD t))]) rfl (h t xws);have e2:zig (zab 1) (zai F (dR (zab 2) dR0)) [x,some (.val (.lst (acc.map .int))),some (.val (toD t))]=.ok ((acc++zac t).map .int,[x,some (.val (.lst (acc.map .int))),some (.val (toD t))]):=by have ev:zab 1 [x,some (.val (.lst (acc.map .int))),some (.val (toD t))]=.ok (.lst (acc.map .int),[x,some (.val (.lst (acc.map .int))),some (.val (toD t))]):=rfl;unfold zig;rw[ev];simp only[R.bind_ok];rw[ec];simp only[R.bind_ok];rw[if_pos (by simp only[List.length_map];omega),List.map_append]
   exact zaM (zba e2) xws
  rw[e1];simp only[R.bind_ok];rw[e,zad,List.append_assoc]
theorem zhG:∀(n:Nat)(t:Tr),dep t<=n->(zac t).length<=1000->zaZ n [.val (toD t)]=.ok (.lst ((zac t).map .int),[.val .non])
 |0,t,h,_=>by cases t <;> simp[dep] at h
 |n+1,.lf i,h,hl=>by refine zaj (Z':=[some (.val (.int i)),none,none]) rfl ?_ rfl;rw[toD,zac];rfl
 |n+1,.nd r l,h,hl=>by
  simp only[dep] at h;simp only[zac] at hl ⊢;obtain ⟨o',e⟩:=zid (F:=zaZ n) (x:=some (.val (toD (.nd r l)))) (l:=l) (acc:=[]) (o:=none) (λt ht=>zhG n t (zaS.mp (by omega:zdi l<=n) t ht) (by have:=zda ht;omega)) (by simp;omega);have hD:toD (.nd r l)=.tup [.str (wd r),.tup (zlH l)]:=by rw[toD]
  refine zaj (Z':=[some (.val (toD (.nd r l))),some (.val (.lst ((zad l).map .int))),o']) rfl ?_ rfl;show zdZ (zaZ n) [some (.val (toD (.nd r l))),none,none]=_;unfold zdZ;rw[zag (Z1:=[some (.val (toD (.nd r l))),none,none]) (by rw[hD];rfl)];rw[zag (Z1:=[some (.val (toD (.nd r l))),some (.val (.lst [])),none]) rfl];rw[zag (Z1:=[some (.val (toD (.nd r l))),some (.val (.lst ((zad l).map .int))),o'])]
  ·rfl
  ·unfold zgE;have:dIt (dOp gIx (zab 0) (dC (.int 1))) [some (.val (toD (.nd r l))),some (.val (.lst [])),none]=.ok (zlH l,[some (.val (toD (.nd r l))),some (.val (.lst [])),none]):=by rw[hD];rfl
   rw[this];simpa using e
noncomputable def zlS{α:Type}:Nat->List α->List (List α)
 |0,_=>[[]]
 |n+1,l=>(List.range l.length).flatMap λk=>match l[k]? with
  |some a=>(zlS n (l.eraseIdx k)).map (a::·)
  |none=>[]
theorem zpK{α:Type}{l:List α}{n k:Nat}(h:l.length=n+1)(hk:k<l.length):(l.eraseIdx k).length=n:=by rw[List.length_eraseIdx,if_pos hk,h];rfl
theorem ztl{α β:Type}(f:α->β):∀(l:List α)(k:Nat),(l.map f).eraseIdx k=(l.eraseIdx k).map f
 |[],_=>rfl
 |a::l,0=>rfl
 |a::l,k+1=>by simp[ztl f l k]
theorem zcx{α:Type}:∀(n:Nat)(l p:List α),l.length=n->(p∈zlS n l ↔ p.Perm l)
 |0,l,p,h=>by have:l=[]:=List.length_eq_zero_iff.mp h;subst this;simp[zlS]
 |n+1,l,p,h=>by
  rw[zlS,List.mem_flatMap];constructor
  ·rintro ⟨k,hk,hp⟩;have hk':=List.mem_range.mp hk;rw[List.getElem?_eq_getElem hk'] at hp;obtain ⟨r,hr,rfl⟩:=List.mem_map.mp hp;have:=(zcx n _ r (zpK h hk')).mp hr;exact (this.cons _).trans (zfg (wac hk'))
  ·intro hp;cases p with
   |nil=>have:=hp.length_eq;simp at this;lia
   |cons a r =>
    obtain ⟨k,hk,e⟩:=List.mem_iff_getElem.mp (hp.mem_iff.mp wau);have e':l[k]? = some a:=by rw[List.getElem?_eq_getElem hk,e]
    refine ⟨k,List.mem_range.mpr hk,?_⟩;rw[e'];refine List.mem_map.mpr ⟨r,(zcx n _ r (zpK h hk)).mpr ?_,rfl⟩;exact List.Perm.cons_inv (hp.trans (zfg e').symm)
theorem zpS{α β:Type}(f:α->β):∀(n:Nat)(l:List α),zlS n (l.map f)=(zlS n l).map (List.map f)
 |0,l=>rfl
 |n+1,l=>by
  rw[zlS,zlS,List.length_map,List.map_flatMap];congr 1;funext k;rw[List.getElem?_map];cases l[k]? with
  |none=>rfl
  |some a =>
   show List.map (f a::·) (zlS n ((l.map f).eraseIdx k))=_;rw[ztl,zpS f n,List.map_map,List.map_map];rfl
noncomputable def fac:Nat->Nat
 |0=>1
 |n+1=>(n+1) * fac n
theorem zgb{α:Type}{f:α->Nat}{c:Nat}:∀{l:List α},(∀ a∈l,f a=c)->(l.map f).sum=l.length * c
 |[],_=>by simp
 |a::l,h=>by rw[List.map_cons,List.sum_cons,zgb (λb hb=>h b (List.mem_cons_of_mem _ hb)),h a List.mem_cons_self,List.length_cons,Nat.succ_mul,Nat.add_comm]
theorem ord_len{α:Type}:∀(n:Nat)(l:List α),l.length=n->(zlS n l).length=fac n
 |0,l,_=>rfl
 |n+1,l,h=>by
  rw[zlS,List.length_flatMap,zgb (c:=fac n) λk hk=>?_,List.length_range,h]
  ·rfl
  ·have hk':=List.mem_range.mp hk;rw[List.getElem?_eq_getElem hk'];show (List.map _ (zlS n _)).length=_;rw[List.length_map];exact ord_len n _ (zpK h hk')
noncomputable def zjm:List (List (List Int))->List (List Int)
 |[]=>[[]]
 |c::cs=>c.flatMap λx=>(zjm cs).map (x++·)
theorem zkg:∀{cs:List (List (List Int))}{r:List Int},r∈zjm cs ↔ ∃ ys,Paired (λy c=>y∈c) ys cs/\ys.flatten=r
 |[],r=>by
  simp only[zjm,List.mem_singleton];constructor
  ·rintro rfl;exact ⟨[],.nil,rfl⟩
  ·rintro ⟨ys,h,rfl⟩;cases h;rfl
 |c::cs,r=>by
  simp only[zjm,List.mem_flatMap,List.mem_map];constructor
  ·rintro ⟨x,hx,s,hs,rfl⟩;obtain ⟨ys,h1,rfl⟩:=zkg.mp hs;exact ⟨x::ys,.cons hx h1,rfl⟩
  ·rintro ⟨ys,h,rfl⟩;cases h with
   |cons h t=>exact ⟨_,h,_,zkg.mpr ⟨_,t,rfl⟩,rfl⟩
noncomputable def ziw:List Nat->Nat
 |[]=>1
 |n::l=>n * ziw l
theorem znF:∀ cs:List (List (List Int)),(zjm cs).length=ziw (cs.map List.length)
 |[]=>rfl
 |c::cs=>by
  rw[zjm,List.length_flatMap,zgb (c:=ziw (cs.map List.length)) λx hx=>?_]
  ·rfl
  ·rw[List.length_map,znF cs]
theorem znU{a b:List Nat}(h:a.Perm b):ziw a=ziw b:=by
 induction h with
 |nil=>rfl
 |cons x h ih=>simp[ziw,ih]
 |swap x y l=>simp only[ziw];rw[<- Nat.mul_assoc,<- Nat.mul_assoc,Nat.mul_comm x y]
 |trans h1 h2 i1 i2=>exact i1.trans i2
mutual
noncomputable def zan:Tr->List (List Int)
 |.lf g=>[[g]]
 |.nd r bs=>(if r=true then [zif bs,(zif bs).reverse] else zlS bs.length (zif bs)).flatMap zjm
noncomputable def zif:List Tr->List (List (List Int))
 |[]=>[]
 |t::l=>zan t::zif l
end
theorem ziQ:∀ l:List Tr,zif l=l.map zan
 |[]=>by simp[zif]
 |t::l=>by simp[zif,ziQ l]
noncomputable def arr(r:Bool)(bs:List Tr):List (List Tr):=if r=true then [bs,bs.reverse] else zlS bs.length bs
theorem za5{r:Bool}{bs p:List Tr}(h:p∈arr r bs):p.Perm bs:=by
 unfold arr at h;split at h
 ·simp only[wap,wak,or_false] at h;rcases h with rfl|rfl
  ·exact .refl _
  ·exact List.reverse_perm _
 ·exact (zcx _ _ _ rfl).mp h
theorem zqS(r:Bool)(bs:List Tr):zan (.nd r bs)=(arr r bs).flatMap λp=>zjm (p.map zan):=by
 rw[zan,ziQ];unfold arr;cases r with
 |true=>simp
 |false =>
  simp only[Bool.false_eq_true,if_false];rw[zpS,List.flatMap_map]
theorem zcb{α β γ:Type}{F:α->γ->Prop}{f:β->γ}:∀{l:List α}{r:List β},Paired F l (r.map f) ↔ Paired (λa b=>F a (f b)) l r
 |l,[]=>⟨λh=>by cases h;exact .nil,λh=>by cases h;exact .nil⟩
 |l,b::r=>⟨λh=>by
   rw[List.map_cons] at h;cases h with
   |cons h t=>exact .cons h (zcb.mp t),λh=>by
   rw[List.map_cons];cases h with
   |cons h t=>exact .cons h (zcb.mpr t)⟩
noncomputable def zb0(r:List Int)(p:List Tr):Prop:=∃ ys,Paired (λy t=>y∈zan t) ys p/\ys.flatten=r
theorem zn1{r:List Int}{p:List Tr}:r∈zjm (p.map zan) ↔ zb0 r p:=by rw[zkg];unfold zb0;exact ⟨λ⟨ys,h,e⟩=>⟨ys,zcb.mp h,e⟩,λ⟨ys,h,e⟩=>⟨ys,zcb.mpr h,e⟩⟩
theorem zaH{b:Bool}{bs:List Tr}{r:List Int}:r∈zan (.nd b bs) ↔ ∃ p∈arr b bs,zb0 r p:=by rw[zqS,List.mem_flatMap];exact ⟨λ⟨p,h,e⟩=>⟨p,h,zn1.mp e⟩,λ⟨p,h,e⟩=>⟨p,h,zn1.mpr e⟩⟩
theorem zbp{p q:List Tr}(h:p.Perm q):(zad p).Perm (zad q):=by rw[zaF,zaF];exact h.flatMap_right _
theorem zgs{P:Tr->Prop}(H:∀ t,P t->∀ r∈zan t,r.Perm (zac t)):∀{p:List Tr}{ys:List (List Int)},(∀ t∈p,P t)->Paired (λy t=>y∈zan t) ys p->ys.flatten.Perm (zad p)
 |[],_,_,.nil=>by simp[zad]
 |t::p,_,hP,.cons h r=>by rw[List.flatten_cons,zad];exact (H t (hP t wau) _ h).append (zgs H (λu hu=>hP u (wah _ hu)) r)
theorem zha:∀(n:Nat)(t:Tr),dep t<=n->∀ r∈zan t,r.Perm (zac t)
 |0,t,h,r,_=>by cases t <;> simp[dep] at h
 |n+1,.lf g,h,r,hr=>by rw[zan,List.mem_singleton] at hr;subst hr;rw[zac]
 |n+1,.nd b bs,h,r,hr=>by obtain ⟨p,hp,ys,h1,rfl⟩:=zaH.mp hr;simp only[dep] at h;have hd:=zaS.mp (by lia:zdi bs<=n);rw[zac];exact (zgs (P:=λt=>dep t<=n) (λt ht=>zha n t ht) (λt ht=>hd t ((za5 hp).mem_iff.mp ht)) h1).trans (zbp (za5 hp))
theorem zav{t:Tr}{r:List Int}(h:r∈zan t):r.Perm (zac t):=zha _ t (wal _) r h
theorem zkv{p:List Tr}{r:List Int}(h:zb0 r p):r.Perm (zad p):=by obtain ⟨ys,h1,rfl⟩:=h;exact zgs (P:=λ_=>True) (λt _ r hr=>zav hr) (λ_ _=>trivial) h1
structure zgk(bs:List Tr):Prop where
 nd:(zad bs).Nodup
 ne:∀ t∈bs,zac t≠[]
theorem zaN{g:Int}{bs:List Tr}:g∈zad bs ↔ ∃ t∈bs,g∈zac t:=by rw[zaF,List.mem_flatMap]
theorem zdL:∀{bs:List Tr},(zad bs).Nodup->∀{t u:Tr}{g:Int},t∈bs->u∈bs->g∈zac t->g∈zac u->t=u
 |[],_,_,_,_,h,_,_,_=>by cases h
 |b::bs,hn,t,u,g,ht,hu,gt,gu=>by
  rw[zad,List.nodup_append] at hn;obtain ⟨h1,h2,h3⟩:=hn;rcases wap.mp ht with e|ht' <;> rcases wap.mp hu with e'|hu'
  ·rw[e,e']
  ·subst e;exact absurd rfl (h3 g gt g (zaN.mpr ⟨u,hu',gu⟩))
  ·subst e';exact absurd rfl (h3 g gu g (zaN.mpr ⟨t,ht',gt⟩))
  ·exact zdL h2 ht' hu' gt gu
theorem zks{bs:List Tr}(A:zgk bs):∀{p q:List Tr}{ys zs:List (List Int)},(∀ t∈p,t∈bs)->(∀ t∈q,t∈bs)->Paired (λy t=>y∈zan t) ys p->Paired (λy t=>y∈zan t) zs q->ys.flatten=zs.flatten->p=q/\ys=zs
 |[],q,_,zs,_,hq,.nil,h2,e=>by
  cases h2 with
  |nil=>exact ⟨rfl,rfl⟩
  |@cons z t zs q h r =>
   exfalso;have:=zav h;rw[List.flatten_nil,List.flatten_cons] at e;have hz:z=[]:=(List.append_eq_nil_iff.mp e.symm).1;subst hz;exact A.ne t (hq t wau) (this.symm.eq_nil)
 |t::p,q,_,zs,hp,hq,.cons (a:=y) (l₁:=ys) h r,h2,e=>by
  have hy:=zav h;have hyn:y≠[]:=λz=>A.ne t (hp t wau) (by subst z;exact hy.symm.eq_nil);cases h2 with
  |nil =>
   exfalso;rw[List.flatten_nil,List.flatten_cons] at e;exact hyn (List.append_eq_nil_iff.mp e).1
  |@cons z u zs q h' r' =>
   have hz:=zav h';have hzn:z≠[]:=λw=>A.ne u (hq u wau) (by subst w;exact hz.symm.eq_nil);rw[List.flatten_cons,List.flatten_cons] at e;obtain ⟨g,y',rfl⟩:=waI hyn;obtain ⟨g',z',rfl⟩:=waI hzn;have eg:g=g':=by simp only[List.cons_append] at e;exact (List.cons.inj e).1
   subst eg;have tu:t=u:=zdL A.nd (hp t wau) (hq u wau) (hy.mem_iff.mp wau) (hz.mem_iff.mp wau);subst tu;have el:(g::y').length=(g::z').length:=hy.length_eq.trans hz.length_eq.symm;obtain ⟨e1,e2⟩:=List.append_inj e el;obtain ⟨e3,e4⟩:=zks A (λu hu=>hp u (wah _ hu)) (λu hu=>hq u (wah _ hu)) r r' e2;exact ⟨by rw[e3],by rw[e1,e4]⟩
theorem zrG{bs:List Tr}(A:zgk bs){p q:List Tr}{r:List Int}(hp:∀ t∈p,t∈bs)(hq:∀ t∈q,t∈bs)(h1:zb0 r p)(h2:zb0 r q):p=q:=by obtain ⟨ys,a1,rfl⟩:=h1;obtain ⟨zs,b1,e⟩:=h2;exact (zks A hp hq a1 b1 e.symm).1
theorem zcs:∀{bs:List Tr},zgk bs->bs.Nodup
 |[],_=>.nil
 |b::bs,A=>by
  have hn:=A.nd;rw[zad,List.nodup_append] at hn;refine List.nodup_cons.mpr ⟨λhb=>?_,zcs ⟨hn.2.1,λt ht=>A.ne t (wah _ ht)⟩⟩;obtain ⟨g,y,e⟩:=waI (A.ne b wau);have hg:g∈zac b:=by rw[e];exact wau
  exact absurd rfl (hn.2.2 g hg g (zaN.mpr ⟨b,hb,hg⟩))
theorem zgi{n:Nat}{b:Bool}{bs:List Tr}(hd:dep (.nd b bs)<=n+1)(ho:okT (.nd b bs)=true)(hn:(zac (.nd b bs)).Nodup):zgk bs/\∀ t∈bs,dep t<=n/\okT t=true/\(zac t).Nodup:=by simp only[dep] at hd;rw[zac] at hn;rw[okT,Bool.and_eq_true,zcR,List.all_eq_true] at ho;have h:=zaS.mp (by lia:zdi bs<=n);refine ⟨⟨hn,λt ht=>zb5 n t (h t ht) (ho.2 t ht)⟩,λt ht=>⟨h t ht,ho.2 t ht,?_⟩⟩;rw[zaF] at hn;exact (List.pairwise_flatMap.mp hn).1 t ht
noncomputable def zbZ(n:Nat):Nat->List (List Int)
 |0=>[[]]
 |j+1=>(zbZ n j).flatMap λrow=>((zbb n).filter λg=>!decide (g∈row)).map λg=>row++[g]
theorem zfN{n:Nat}:∀{j:Nat}{r:List Int},r∈zbZ n j ↔ r.length=j/\r.Nodup/\∀ x∈r,x∈zbb n
 |0,r=>by
  simp only[zbZ,List.mem_singleton];constructor
  ·rintro rfl;simp
  ·rintro ⟨h,_⟩;exact List.length_eq_zero_iff.mp h
 |j+1,r=>by
  simp only[zbZ,List.mem_flatMap,List.mem_map,List.mem_filter,Bool.not_eq_true',decide_eq_false_iff_not];constructor
  ·rintro ⟨row,hr,g,⟨hg,hn⟩,rfl⟩;obtain ⟨h1,h2,h3⟩:=zfN.mp hr;refine ⟨by simp[h1],?_,λx hx=>?_⟩
   ·rw[List.nodup_append];refine ⟨h2,xws,λa ha b hb e=>?_⟩;rw[List.mem_singleton] at hb;subst hb;subst e;exact hn ha
   ·rcases wax.mp hx with hx|hx
    ·exact h3 x hx
    ·rw[List.mem_singleton] at hx;subst hx;exact hg
  ·rintro ⟨h1,h2,h3⟩;have hne:r≠[]:=λz=>by subst z;simp at h1
   have e:=List.dropLast_concat_getLast hne;rw[<- e] at h2 h3;rw[List.nodup_append] at h2;refine ⟨r.dropLast,zfN.mpr ⟨by simp[h1],h2.1,λx hx=>h3 x (waR _ hx)⟩,r.getLast hne,⟨h3 _ (waz _ xws),λhx=>h2.2.2 _ hx _ xws rfl⟩,e⟩
theorem zlT{α:Type} [BEq α] [LawfulBEq α] {a b:List α} (ha:a.Nodup) (hb:b.Nodup) (h:∀ x,x∈a ↔ x∈b):a.Perm b:=by
 rw[List.perm_iff_count];intro x;by_cases hx:x∈a
 ·rw[ha.count,hb.count,if_pos hx,if_pos ((h x).mp hx)]
 ·rw[ha.count,hb.count,if_neg hx,if_neg λz=>hx ((h x).mpr z)]
theorem zhn{n:Nat}{r:List Int}:r∈zbZ n n ↔ r.Perm (zbb n):=by
 rw[zfN];constructor
 ·rintro ⟨h1,h2,h3⟩;exact zfd r (zbb n) h2 h3 (by rw[zbC];lia)
 ·intro h;exact ⟨by rw[h.length_eq,zbC],h.symm.nodup (zdv n),λx hx=>h.mem_iff.mp hx⟩
theorem zhF{α:Type} [BEq α] [LawfulBEq α]:∀{a b:List α},a.Nodup->(∀ x∈a,x∈b)->a.length<=b.length
 |[],_,_,_=>Nat.zero_le _
 |x::a,b,hn,h=>by
  have hx:=h x wau;have:=zhF (a:=a) (b:=b.erase x) (List.nodup_cons.mp hn).2 λy hy=>by have hne:y≠x:=λe=>(List.nodup_cons.mp hn).1 (by rw[<- e];exact hy);exact (List.mem_erase_of_ne hne).mpr (h y (wah _ hy))
  have e:=List.length_erase_of_mem hx;have:0<b.length:=List.length_pos_of_mem hx;rw[List.length_cons];lia
theorem zpf:∀ n,1<=fac n
 |0=>wal _
 |n+1=>by have:=zpf n;rw[fac];exact waN this (Nat.le_mul_of_pos_left _ (Nat.succ_pos n))
theorem zkJ{α:Type}{g:DG}{body:DS}{u:α->Dt}{l:List α}{I:List α->Ev->Prop}(H:∀ dn a zbV,l=dn++a::zbV->∀ Z,I dn Z->∃ Z1 Z2,g (u a) Z=.ok Z1/\body Z1=.ok (.nx,Z2)/\I (dn++[a]) Z2) :
  ∀(todo dn:List α)(Z:Ev),l=dn++todo->I dn Z->∃ Z',I l Z'/\zo5 g body (todo.map u) Z=.ok (.nx,Z')
 |[],dn,Z,e,h=>by rw[List.append_nil] at e;subst e;exact ⟨Z,h,rfl⟩
 |a::todo,dn,Z,e,h=>by obtain ⟨Z1,Z2,h1,h2,h3⟩:=H dn a todo e Z h;obtain ⟨Z',h4,h5⟩:=zkJ H todo (dn++[a]) Z2 (by rw[e];simp) h3;refine ⟨Z',h4,?_⟩;rw[List.map_cons,zo5,h1];simp only[R.bind_ok,h2];exact h5
theorem zca{α:Type}{fi:DA}{g:DG}{body:DS}{u:α->Dt}{l:List α}{ds:List Dt}{I:List α->Ev->Prop}{Z Z0:Ev}(hi:fi Z=.ok (ds,Z0))(hd:ds=l.map u)(h0:I [] Z0)(H:∀ dn a zbV,l=dn++a::zbV->∀ Z,I dn Z->∃ Z1 Z2,g (u a) Z=.ok Z1/\body Z1=.ok (.nx,Z2)/\I (dn++[a]) Z2) :
  ∃ Z',I l Z'/\zgE fi g body Z=.ok (.nx,Z'):=by
 subst hd;obtain ⟨Z',h1,h2⟩:=zkJ H l [] Z0 rfl h0;refine ⟨Z',h1,?_⟩;unfold zgE;rw[hi];exact h2
theorem zph{i:Nat}{fa:De}{Z Z1:Ev}{l0 ds l:List Dt}{d:Dt}(h0:Z[i]? = some (some (.own l0)))(h:fa Z=.ok (d,Z1))(h1:Z1[i]? = some (some (.own ds)))(hd:zh0 d=some l)(hl:ds.length+l.length<=16777216):zgH i fa Z=.ok (.non,Z1.set i (some (.own (ds++l)))):=by unfold zgH;simp only[h0,h,R.bind_ok,h1,hd,hl,if_true]
theorem zqa{i:Nat}{fa:De}{Z Z1:Ev}{l0 ds:List Dt}{d:Dt}(h0:Z[i]? = some (some (.own l0)))(h:fa Z=.ok (d,Z1))(h1:Z1[i]? = some (some (.own ds)))(hl:ds.length<16777216):zcQ i fa Z=.ok (.non,Z1.set i (some (.own (ds++[d])))):=by unfold zcQ;simp only[h0,h,R.bind_ok,h1,hl,if_true]
theorem zkZ{fa fb:De}{Z Z1 Z2:Ev}{x y:List Dt}(h:fa Z=.ok (.lst x,Z1))(h2:fb Z1=.ok (.lst y,Z2))(hl:x.length+y.length<=16777216):zig fa fb Z=.ok (x++y,Z2):=by unfold zig;simp only[h,h2,R.bind_ok,hl,if_true]
theorem zuY{x y:List Dt}(hl:x.length+y.length<=16777216):zis (.tup x) (.tup y)=.ok (.tup (x++y)):=by unfold zis;simp only[hl,if_true]
theorem zm2{fa:De}{fl fh:DO}{Z Z1 Z2 Z3:Ev}{x:List Dt}{lo hi:Option Int}(h:fa Z=.ok (.lst x,Z1))(h1:fl Z1=.ok (lo,Z2))(h2:fh Z2=.ok (hi,Z3)):zk8 fa fl fh Z=.ok (zih x lo hi,Z3):=by unfold zk8;simp only[h,h1,h2,R.bind_ok]
theorem zme{fa:De}{fl fh:DO}{Z Z1 Z2 Z3:Ev}{x:List Dt}{lo hi:Option Int}(h:fa Z=.ok (.tup x,Z1))(h1:fl Z1=.ok (lo,Z2))(h2:fh Z2=.ok (hi,Z3)):zgu fa fl fh Z=.ok (.tup (zih x lo hi),Z3):=by unfold zgu;simp only[h,h1,h2,R.bind_ok]
theorem zry{fa:De}{Z Z1:Ev}{i:Int}(h:fa Z=.ok (.int i,Z1)):dO1 fa Z=.ok (some i,Z1):=by unfold dO1;simp only[h,R.bind_ok]
theorem zts{α β:Type}{f:α->List β}{c:Nat}:∀{l:List α},(∀ a∈l,(f a).length<=c)->(l.flatMap f).length<=l.length * c
 |[],_=>by simp
 |a::l,h=>by rw[List.flatMap_cons,List.length_append,List.length_cons,Nat.succ_mul];have:=zts (l:=l) λb hb=>h b (wah _ hb);have:=h a wau;lia
theorem zte{m:Nat}(h:m<=1000):zdB (m:Int)=true:=by unfold zdB;rw[Bool.and_eq_true,decide_eq_true_eq,decide_eq_true_eq];lia
noncomputable def zxS(j:Int)(Z:Ev):R (List Dt×Ev):=if zdB j=true then .ok (zdK 0 j.toNat,Z) else .no
theorem zqf{j:Int}{Z:Ev}(h:zdB j=true):zxS j Z=.ok (zdK 0 j.toNat,Z):=if_pos h
theorem zt0{fa:De}{Z Z1:Ev}{j:Int}(h:fa Z=.ok (.int j,Z1)):zdM fa Z=zxS j Z1:=by unfold zdM zxS;rw[h];rfl
theorem znt{fa:De}{Z Z1:Ev}{m:Nat}(h:fa Z=.ok (.int (m:Nat),Z1))(hm:m<=1000):zdM fa Z=.ok ((List.range m).map λk:Nat=>Dt.int k,Z1):=by rw[zt0 h,zqf (zte hm),Int.toNat_natCast];unfold zdK;simp only[Int.zero_add]
theorem zwZ(a b:List (List Int)):lp (a++b)=lp a++lp b:=by unfold lp;rw[List.map_append]
theorem zn4(a:List (List Int)):(lp a).length=a.length:=by unfold lp;rw[List.length_map]
theorem zxj(a b:List Int):Dt.tup (a.map .int++b.map .int)=tz (a++b):=by unfold tz;rw[List.map_append]
theorem zlD:∀{a:List Nat},(∀ x∈a,1<=x)->1<=ziw a
 |[],_=>wal _
 |x::a,h=>waN (zlD λy hy=>h y (wah _ hy)) (Nat.le_mul_of_pos_left _ (h x wau))
theorem zvk(r:Bool)(bs:List Tr):1<=(arr r bs).length:=by
 unfold arr;split
 ·simp
 ·rw[ord_len _ _ rfl];exact zpf _
theorem zr2(r:Bool)(bs:List Tr):(zan (.nd r bs)).length=(arr r bs).length * ziw (bs.map λt=>(zan t).length):=by rw[zqS,List.length_flatMap,zgb (c:=ziw (bs.map λt=>(zan t).length)) λp hp=>?_];rw[znF,List.map_map];exact znU ((za5 hp).map _)
theorem zjL:∀(n:Nat)(t:Tr),dep t<=n->1<=(zan t).length
 |0,t,h=>by cases t <;> simp[dep] at h
 |n+1,.lf g,_=>by rw[zan];simp
 |n+1,.nd r bs,h=>by
  simp only[dep] at h;have hd:=zaS.mp (by lia:zdi bs<=n);rw[zr2];exact waN (zvk r bs) (Nat.le_mul_of_pos_right _ (zlD λx hx=>by obtain ⟨t,ht,rfl⟩:=List.mem_map.mp hx;exact zjL n t (hd t ht)))
theorem zw7{r:Bool}{bs:List Tr}{Z:Ev}(h:zab 0 Z=.ok (toD (.nd r bs),Z)):dOp gIx (zab 0) (dC (.int 0)) Z=.ok (.str (wd r),Z) :=
 zau h rfl (by rw[toD];rfl)
theorem zjP{r:Bool}{bs:List Tr}{Z:Ev}(h:zab 0 Z=.ok (toD (.nd r bs),Z)):dOp (gEq false) (dOp gIx (zab 0) (dC (.int 0))) (dC (.str (Str.ofString "any"))) Z=.ok (.bl (!r),Z):=by refine zau (zw7 h) rfl ?_;rw[zbF (by rw[okN];exact zkj r) (by rw[okN];exact zkI),eqS,ztB];rfl
theorem zfa{r:Bool}{bs:List Tr}{Z:Ev}(h:zab 0 Z=.ok (toD (.nd r bs),Z)):dOp gIx (zab 0) (dC (.int 1)) Z=.ok (.tup (zlH bs),Z) :=
 zau h rfl (by rw[toD];rfl)
theorem zpd(l:List Int):zii (l.map .int)=some l:=zx4 l
theorem ziM{α:Type}{u f:α->Dt}{p:α->Bool}{ft:DT}{fe:De}{Z0:Ev}:∀{l:List α}{o:Option B},(∀ a∈l,ft (Z0++[some (.val (u a))])=.ok (p a,Z0++[some (.val (u a))]))->(∀ a∈l,p a=true->fe (Z0++[some (.val (u a))])=.ok (f a,Z0++[some (.val (u a))])) ->
  ∃ o',zcl (zb7 Z0.length) ft fe (l.map u) (Z0++[o])=.ok ((l.filter p).map f,Z0++[o'])
 |[],o,_,_=>⟨o,rfl⟩
 |a::l,o,h,h2=>by
  obtain ⟨o',e⟩:=ziM (l:=l) (o:=some (.val (u a))) (λb hb=>h b (wah _ hb)) λb hb=>h2 b (wah _ hb);refine ⟨o',?_⟩;rw[List.map_cons,zcl,zr6];simp only[R.bind_ok];rw[h a List.mem_cons_self];simp only[R.bind_ok];cases hp:p a with
  |true =>
   simp only[if_true];rw[h2 a List.mem_cons_self hp];simp only[R.bind_ok,e,List.filter_cons,hp,if_true,List.map_cons]
  |false =>
   simp only[Bool.false_eq_true,if_false,e,List.filter_cons,hp]
theorem zco{α:Type}{u f:α->Dt}{p:α->Bool}{ft:DT}{fe:De}{Z0:Ev}{fi:DA}{l:List α}{ds:List Dt}{j:Nat}(hi:fi Z0=.ok (ds,Z0))(hd:ds=l.map u)(hj:j = Z0.length)(hl:l.length<=16777216)(h:∀ a∈l,ft (Z0++[some (.val (u a))])=.ok (p a,Z0++[some (.val (u a))]))(h2:∀ a∈l,p a=true->fe (Z0++[some (.val (u a))])=.ok (f a,Z0++[some (.val (u a))])) :
  zb9 fi (zb7 j) ft fe 1 Z0=.ok ((l.filter p).map f,Z0):=by
 subst hj;subst hd;obtain ⟨o',e⟩:=ziM (o:=none) h h2;unfold zb9;rw[hi];simp only[R.bind_ok];have hf:zhl (l.map u)=true:=by unfold zhl;rw[List.length_map];exact wat hl
 rw[if_pos hf];show (match zcl (zb7 Z0.length) ft fe (l.map u) (Z0++[none]) with|.ok z=>R.ok (z.1,z.2.take Z0.length)|_=>.no)=_;rw[e];simp
noncomputable abbrev ztK:DN:=zb9 (zdM (zab 0)) (zb7 5) (dTB (dOp (gIn true) (zab 5) (zab 4))) (dOp zis (zab 4) (zfp (dA (zab 5) dA0))) 1
noncomputable abbrev pIn:DS:=zgE (dIt (zab 1)) (zb7 4) (dEx (zgH 3 (dFz ztK)))
noncomputable abbrev zxE:DS:=za3 (zck 3 (zdg dA0)) (za3 pIn (zbi 1 (zfl 3)))
theorem zoM:zeL=za3 (zbi 1 (dC (.lst [(.tup [])]))) (za3 (zgE (zdM (zab 0)) (zb7 2) zxE) (zbt (zab 1))):=rfl
noncomputable def zr1(n:Nat)(row:List Int):List (List Int):=((zbb n).filter λg=>!decide (g∈row)).map λg=>row++[g]
theorem zjl:∀ n,n<=6->∀ j,j<=n->(zbZ n j).length<=720:=by decide +kernel
theorem zh6{neg:Bool}{x:Dt}{ds:List Dt}(h1:okN 60 x=true)(h2:∀ d∈ds,okN 60 d=true):gIn neg x (.tup ds)=.ok (.bl (if neg then !inD x ds else inD x ds))/\gIn neg x (.lst ds)=.ok (.bl (if neg then !inD x ds else inD x ds)):=by have h3:ds.all (okN 60)=true:=List.all_eq_true.mpr h2;unfold gIn;simp only[h1,h3,Bool.and_self,if_true,and_self]
theorem zh2{l:List Int}:∀ d∈l.map Dt.int,okN 60 d=true:=λd hd=>by obtain ⟨i,_,rfl⟩:=List.mem_map.mp hd;rfl
theorem zu5{fa:De}{Z Z1:Ev}{m:Nat}(h:fa Z=.ok (.int (m:Nat),Z1))(hm:m<=1000):zdM fa Z=.ok ((zbb m).map Dt.int,Z1):=by rw[zt0 h,zqf (zte hm),Int.toNat_natCast,zne]
theorem zrz{n:Nat}{o2 o4:Option B}{R:List (List Int)}(hn:n<=6)(hR:R.length<=1000)(hl:∀ r∈R,r.length<=100) :
  ∃ o',pIn [some (.val (.int (n:Nat))),some (.val (.lst (lp R))),o2,some (.own []),o4]=.ok (.nx,[some (.val (.int (n:Nat))),some (.val (.lst (lp R))),o2,some (.own (lp (R.flatMap (zr1 n)))),o']):=by
 let N:Option B:=some (.val (.int (n:Nat)));let Z0:Ev:=[N,some (.val (.lst (lp R))),o2,some (.own []),o4]
 have hst:∀ row,(zr1 n row).length<=6:=λrow=>by unfold zr1;rw[List.length_map];exact waN (List.length_filter_le _ _) (by rw[zbC];exact hn)
 obtain ⟨Z',⟨o',rfl⟩,e⟩:=zca (u:=tz) (l:=R) (g:=zb7 4) (body:=dEx (zgH 3 (dFz ztK))) (Z:=Z0) (Z0:=Z0) (ds:=lp R) (I:=λdn Z=>∃ o',Z=[N,some (.val (.lst (lp R))),o2,some (.own (lp (dn.flatMap (zr1 n)))),o']) (fi:=dIt (zab 1)) rfl rfl ⟨o4,rfl⟩
  (λdn row zbV e Z ⟨o',hρ⟩=>by
   subst hρ;have hrow:row∈R:=by rw[e];simp
   let Z1:Ev:=[N,some (.val (.lst (lp R))),o2,some (.own (lp (dn.flatMap (zr1 n)))),some (.val (tz row))]
   have hcomp:ztK Z1=.ok (((zbb n).filter λg=>!decide (g∈row)).map λg=>tz (row++[g]),Z1):=by
    have a0:zab 0 Z1=.ok (.int (n:Nat),Z1):=rfl;refine zco (u:=Dt.int) (l:=zbb n) (zu5 a0 xwo) rfl rfl (by rw[zbC];omega) (λg hg=>?_) λg hg _=>?_
    ·have a4:zab 4 (Z1++[some (.val (.int g))])=.ok (tz row,Z1++[some (.val (.int g))]):=rfl;have a5:zab 5 (Z1++[some (.val (.int g))])=.ok (.int g,Z1++[some (.val (.int g))]):=rfl;refine zaG (zau a5 a4 ?_);unfold tz;rw[(zh6 rfl zh2).1,zgr];rfl
    ·have a4:zab 4 (Z1++[some (.val (.int g))])=.ok (tz row,Z1++[some (.val (.int g))]):=rfl;have a5:zfp (dA (zab 5) dA0) (Z1++[some (.val (.int g))])=.ok (tz [g],Z1++[some (.val (.int g))]):=rfl;refine zau a4 a5 ?_;have:=hl row hrow;rw[<- zxj];exact zuY (by simp only[wag,wan,List.length_nil];omega)
   have hdn:(dn.flatMap (zr1 n)).length<=6000:=by
    have h1:(dn.flatMap (zr1 n)).length<=dn.length * 6:=zts λa _=>hst a;have h2:dn.length<=R.length:=by rw[e];simp
    omega
   have hlp:lp (zr1 n row)=((zbb n).filter λg=>!decide (g∈row)).map λg=>tz (row++[g]):=by unfold lp zr1;rw[List.map_map];rfl
   refine ⟨Z1,_,rfl,zeo (zph (Z1:=Z1) rfl (zba hcomp) rfl rfl ?_),some (.val (tz row)),?_⟩
   ·have:=hst row;rw[<- hlp,zn4,zn4];omega
   ·rw[List.flatMap_append,zwZ,List.flatMap_singleton,hlp];rfl)
 exact ⟨o',e⟩
theorem zo1{n:Nat}(hn:n<=6):zcA [.val (.int (n:Nat))]=.ok (.lst (lp (zbZ n n)),[.val .non]):=by
 let A:Option B:=some (.val (.int (n:Nat)));have hr:zdM (zab 0) [A,some (.val (.lst [.tup []])),none,none,none]=.ok ((List.range n).map λk:Nat=>Dt.int k,[A,some (.val (.lst [.tup []])),none,none,none]):=by have a0:zab 0 [A,some (.val (.lst [.tup []])),none,none,none]=.ok (.int (n:Nat),[A,some (.val (.lst [.tup []])),none,none,none]):=rfl;exact znt a0 xwo
 obtain ⟨Z',⟨o2,o3,o4,rfl⟩,e⟩:=zca (u:=λk:Nat=>Dt.int k) (l:=List.range n) (g:=zb7 2) (body:=zxE)
  (I:=λdn Z=>∃ o2 o3 o4,Z=[A,some (.val (.lst (lp (zbZ n dn.length)))),o2,o3,o4]) hr rfl ⟨none,none,none,rfl⟩
  (λdn c zbV e Z ⟨o2,o3,o4,hρ⟩=>by
   subst hρ;have hdl:dn.length<n:=by have:=congrArg List.length e;simp at this;omega
   have hle:=zjl n hn dn.length xwo;let C2:Option B:=some (.val (.int (c:Nat)));obtain ⟨o',e'⟩:=zrz (n:=n) (o2:=C2) (o4:=o4) (R:=zbZ n dn.length) hn xwo (λr hr=>by have:=(zfN.mp hr).1;omega)
   let Z1:Ev:=[A,some (.val (.lst (lp (zbZ n dn.length)))),C2,o3,o4]
   let Z2:Ev:=[A,some (.val (.lst (lp (zbZ n dn.length)))),C2,some (.own []),o4]
   have e2:pIn Z2=.ok (.nx,[A,some (.val (.lst (lp (zbZ n dn.length)))),C2,some (.own (lp (zbZ n (dn.length+1)))),o']):=e';refine ⟨Z1,[A,some (.val (.lst (lp (zbZ n (dn.length+1))))),C2,some (.val (.lst (lp (zbZ n (dn.length+1))))),o'],rfl,?_,C2,some (.val (.lst (lp (zbZ n (dn.length+1))))),o',?_⟩
   ·show zxE Z1=_;rw[show zxE=za3 (zck 3 (zdg dA0)) (za3 pIn (zbi 1 (zfl 3))) from rfl,zag (Z1:=Z2) rfl,zag e2];rfl
   ·rw[List.length_append];rfl)
 refine zaj (Z':=[A,some (.val (.lst (lp (zbZ n (List.range n).length)))),o2,o3,o4]) rfl ?_ rfl;show zeL [A,none,none,none,none]=_;rw[zoM,zag (Z1:=[A,some (.val (.lst [.tup []])),none,none,none]) rfl,zag e,List.length_range];rfl
theorem zhj{bs q:List Tr}{b:Tr}{g:Int}{l:List Int}(A:zgk bs)(hq:∀ t∈q,t∈bs)(hb:b∈bs)(hg:g∈zac b)(h:zb0 (g::l) q):∃ q',q=b::q'/\(g::l).take (zac b).length∈zan b/\zb0 ((g::l).drop (zac b).length) q':=by
 obtain ⟨ys,h1,e⟩:=h;cases h1 with
 |nil=>simp at e
 |@cons y t ys q h r =>
  have hy:=zav h;have hyn:y≠[]:=λz=>A.ne t (hq t wau) (by subst z;exact hy.symm.eq_nil);obtain ⟨g',y',rfl⟩:=waI hyn;rw[List.flatten_cons] at e;have eg:g'=g:=by simp only[List.cons_append] at e;exact (List.cons.inj e).1
  subst eg;have tb:t=b:=zdL A.nd (hq t wau) hb (hy.mem_iff.mp wau) hg;subst tb;have hm:(zac t).length=(g'::y').length:=hy.length_eq.symm;refine ⟨q,rfl,?_,ys,r,?_⟩
  ·rw[<- e,hm,List.take_left];exact h
  ·rw[<- e,hm,List.drop_left]
theorem zqE{b:Tr}{q:List Tr}{l:List Int}{m:Nat}(h1:l.take m∈zan b)(h2:zb0 (l.drop m) q):zb0 l (b::q):=by obtain ⟨ys,h3,e⟩:=h2;exact ⟨l.take m::ys,.cons h1 h3,by rw[List.flatten_cons,e,List.take_append_drop]⟩
noncomputable def sel(bs:List Tr)(pl:List Nat):List Tr:=pl.filterMap (bs[·]?)
theorem zdq{bs:List Tr}{i:Nat}{b:Tr}{pl:List Nat}(h:bs[i]? = some b):sel bs (i::pl)=b::sel bs pl:=by unfold sel;rw[List.filterMap_cons,h]
theorem zjS{bs:List Tr}{pl:List Nat}{t:Tr}(h:t∈sel bs pl):t∈bs:=by unfold sel at h;obtain ⟨i,_,e⟩:=List.mem_filterMap.mp h;exact waH e
theorem zmh{bs:List Tr}(hn:bs.Nodup):∀{a b:List Nat},(∀ i∈a,i<bs.length)->(∀ i∈b,i<bs.length)->sel bs a=sel bs b->a=b
 |[],[],_,_,_=>rfl
 |[],j::b,_,hb,e=>by rw[zdq (List.getElem?_eq_getElem (hb j List.mem_cons_self))] at e;simp[sel] at e
 |i::a,[],ha,_,e=>by rw[zdq (List.getElem?_eq_getElem (ha i List.mem_cons_self))] at e;simp[sel] at e
 |i::a,j::b,ha,hb,e=>by
  have hi:=ha i wau;have hj:=hb j wau;rw[zdq (List.getElem?_eq_getElem hi),zdq (List.getElem?_eq_getElem hj)] at e;obtain ⟨e1,e2⟩:=List.cons.inj e;have:i=j:=by
   rcases Nat.lt_trichotomy i j with h|h|h
   ·exact absurd e1 (List.pairwise_iff_getElem.mp hn i j hi hj h)
   ·exact h
   ·exact absurd e1.symm (List.pairwise_iff_getElem.mp hn j i hj hi h)
  rw[this,zmh hn (λk hk=>ha k (List.mem_cons_of_mem _ hk)) (λk hk=>hb k (List.mem_cons_of_mem _ hk)) e2]
theorem zoR:∀(l pre:List Tr),sel (pre++l) (List.range' pre.length l.length)=l
 |[],pre=>by simp[sel]
 |t::l,pre=>by rw[List.length_cons,List.range'_succ,zdq (b:=t) (by rw[List.getElem?_append_right (Nat.le_refl _),Nat.sub_self];rfl)];have:=zoR l (pre++[t]);rw[List.append_assoc,List.length_append] at this;exact congrArg (t::·) this
theorem zgh(bs:List Tr):sel bs (List.range bs.length)=bs:=by rw[List.range_eq_range'];exact zoR bs []
theorem zpr(bs:List Tr)(pl:List Nat):sel bs pl.reverse=(sel bs pl).reverse:=by unfold sel;rw[List.filterMap_reverse]
theorem zm3{bs:List Tr}:∀{pl:List Nat},(∀ i∈pl,i<bs.length)->(sel bs pl).length=pl.length
 |[],_=>rfl
 |i::pl,h=>by rw[zdq (List.getElem?_eq_getElem (h i List.mem_cons_self)),List.length_cons,List.length_cons,zm3 λj hj=>h j (List.mem_cons_of_mem _ hj)]
theorem zjy{bs q:List Tr}{r:List Int}(A:zgk bs)(hq:∀ t∈q,t∈bs)(hr:r.Perm (zad bs))(h:zb0 r q):q.Perm bs:=by
 have hp:(zad q).Perm (zad bs):=(zkv h).symm.trans hr;have hA:zgk q:=⟨hp.symm.nodup A.nd,λt ht=>A.ne t (hq t ht)⟩
 haveI:DecidableEq Tr:=λa b=>Classical.propDecidable (a=b)
 refine zlT (zcs hA) (zcs A) λt=>⟨hq t,λht=>?_⟩
 obtain ⟨g,y,e⟩:=waI (A.ne t ht);have hg:g∈zac t:=by rw[e];exact wau
 obtain ⟨u,hu,gu⟩:=zaN.mp (hp.mem_iff.mpr (zaN.mpr ⟨t,ht,hg⟩));rw[zdL A.nd ht (hq u hu) hg gu];exact hu
theorem zkM{bs:List Tr}:∀{pl:List Nat},(∀ i∈pl,i<bs.length)->(sel bs pl).Nodup->pl.Nodup
 |[],_,_=>.nil
 |i::pl,h,hn=>by have hi:=h i wau;rw[zdq (List.getElem?_eq_getElem hi)] at hn;rw[List.nodup_cons] at hn ⊢;refine ⟨λz=>hn.1 ?_,zkM (λj hj=>h j (wah _ hj)) hn.2⟩;unfold sel;exact List.mem_filterMap.mpr ⟨i,z,wac hi⟩
noncomputable def zbf(pl:List Nat):List Int:=pl.map λ(i:Nat)=>(i:Int)
theorem zhU:∀{a b:List Nat},zbf a=zbf b->a=b
 |[],[],_=>rfl
 |[],_::_,h=>by simp[zbf] at h
 |_::_,[],h=>by simp[zbf] at h
 |x::a,y::b,h=>by simp only[zbf,List.map_cons] at h;obtain ⟨h1,h2⟩:=List.cons.inj h;rw[zhU h2,Int.ofNat_inj.mp h1]
theorem zef(k:Nat):zbf (List.range k)=zbb k:=rfl
theorem zk0(l:List Nat):zbf l.reverse=(zbf l).reverse:=by unfold zbf;rw[List.map_reverse]
theorem zuW{bs:List Tr}{r:List Int}{pl:List Nat}(A:zgk bs)(hr:r.Perm (zad bs))(hpl:∀ i∈pl,i<bs.length)(h:zb0 r (sel bs pl)):r∈zan (.nd false bs):=by refine zaH.mpr ⟨sel bs pl,?_,h⟩;show sel bs pl∈zlS bs.length bs;exact (zcx _ _ _ rfl).mpr (zjy A (λt=>zjS) hr h)
theorem zuj{bs:List Tr}{r:List Int}{pl:List Nat}(A:zgk bs)(hr:r.Perm (zad bs))(hpl:∀ i∈pl,i<bs.length)(h:zb0 r (sel bs pl)) :
  zbd (zbf pl)=zbb bs.length/\(r∈zan (.nd true bs) ↔ zbf pl=zbb bs.length\/zbf pl=(zbb bs.length).reverse):=by
 have hp:=zjy A (λt=>zjS) hr h;have hn:=zcs A;have hlen:pl.length=bs.length:=by rw[<- zm3 hpl,hp.length_eq]
 refine ⟨zof.mpr ⟨?_,λx hx=>?_,?_⟩,?_⟩
 ·exact List.pairwise_map.mpr ((zkM hpl (hp.symm.nodup hn)).imp λhab e=>hab (Int.ofNat_inj.mp e))
 ·obtain ⟨i,hi,rfl⟩:=List.mem_map.mp hx;have:=hpl i hi;lia
 ·unfold zbf;rw[List.length_map,hlen]
 ·rw[zaH];have hR:∀ i∈List.range bs.length,i<bs.length:=λi hi=>List.mem_range.mp hi;have hR':∀ i∈(List.range bs.length).reverse,i<bs.length:=λi hi=>List.mem_range.mp (List.mem_reverse.mp hi);constructor
  ·rintro ⟨p,hp',hm⟩;have e:sel bs pl=p:=zrG A (λt=>zjS) (λt ht=>(za5 hp').mem_iff.mp ht) h hm;have:p=bs\/p=bs.reverse:=by simpa [arr] using hp'
   rcases this with rfl|rfl
   ·left;rw[<- zef,<- zmh hn hpl hR (e.trans (zgh _).symm)]
   ·right;rw[<- zef,<- zk0,<- zmh hn hpl hR' (e.trans (by rw[zpr,zgh]))]
  ·rintro (e|e)
   ·have:=zhU (e.trans (zef _).symm);refine ⟨bs,by simp[arr],?_⟩;rw[this,zgh] at h;exact h
   ·have:=zhU (e.trans (by rw[zk0,zef]:(zbb bs.length).reverse=zbf (List.range bs.length).reverse));refine ⟨bs.reverse,by simp[arr],?_⟩;rw[this,zpr,zgh] at h;exact h
theorem zth{α:Type}(l:List α)(j:Nat):zih l none (some (j:Int))=l.take j:=by
 unfold zih;rw[HT.sIx_nat,HT.sIx_none,List.drop_zero,Nat.sub_zero];rcases Nat.le_total j l.length with h|h
 ·rw[Nat.min_eq_left h]
 ·rw[Nat.min_eq_right h,List.take_of_length_le (Nat.le_refl _),List.take_of_length_le h]
theorem zkf{α:Type}(l:List α)(j:Nat):zih l (some (j:Int)) none=l.drop j:=by
 unfold zih;rw[HT.sIx_nat,HT.sIx_none];rcases Nat.le_total j l.length with h|h
 ·rw[Nat.min_eq_left h,List.take_of_length_le xws]
 ·rw[Nat.min_eq_right h,List.drop_of_length_le (Nat.le_refl _),List.drop_of_length_le h];simp
theorem zuS(l:List Int)(j:Nat):Dt.tup ((l.map .int).take j)=tz (l.take j):=by unfold tz;rw[List.map_take]
theorem zpC(l:List Int)(j:Nat):Dt.tup ((l.map .int).drop j)=tz (l.drop j):=by unfold tz;rw[List.map_drop]
theorem zn8(l:List Int):okN 60 (tz l)=true:=by unfold tz;rw[okN,List.all_eq_true];intro d hd;obtain ⟨i,_,rfl⟩:=List.mem_map.mp hd;rfl
theorem zkK(l:List Int):okN 60 (.lst (l.map .int))=true:=zri l 59
theorem zx3(a b:List Int):eqD (tz a) (tz b)=(a == b):=by unfold tz;rw[eqD,zkm]
theorem zub(a b:List Int):eqD (.lst (a.map .int)) (.lst (b.map .int))=(a == b):=by rw[eqD,zkm]
noncomputable abbrev tC:DT:=dTB (dOp (gEq true) (zab 2) (zfp dA0))
noncomputable abbrev zwb(j:Nat):De:=dOp gIx (dOp gIx (zab 0) (dC (.int 1))) (zab j)
noncomputable abbrev tLv(j:Nat):De:=zai (zaZ 8) (dR (zwb j) dR0)
noncomputable abbrev zwB:DN:=zb9 (zdM (dFn zc3 (dA (dOp gIx (zab 0) (dC (.int 1))) dA0))) (zb7 6) (dTB (dOp (gIn false) (dOp gIx (zab 2) (dC (.int 0))) (tLv 6))) (zab 6) 1
noncomputable abbrev zpI:DS:=zbi 4 (dOp gIx (dFz zwB) (dC (.int 0)))
noncomputable abbrev zqv:DS:=zbi 5 (dFn zc3 (dA (tLv 4) dA0))
noncomputable abbrev zsx:De:=zgu (zab 2) dO0 (dO1 (zab 5))
noncomputable abbrev ztF:DS:=dIf (zo3 (dTB (zoH false 3 (zab 4))) (dTB (dOp (gEq true) (dFz (ze3 zd9 (dA zsx dA0))) (dFz (ze3 zbD (dA (tLv 4) dA0)))))) (zbt (dC (.bl false))) dNx
noncomputable abbrev zv5(F:FD):DS:=dIf (zhX (dTB (zai F (dR (zwb 4) (dR zsx dR0))))) (zbt (dC (.bl false))) dNx
noncomputable abbrev zkz(F:FD):DS:=za3 zpI (za3 zqv (za3 ztF (za3 (zv5 F) (za3 (dEx (zcQ 3 (zab 4))) (zbi 2 (zgu (zab 2) (dO1 (zab 5)) dO0))))))
noncomputable abbrev tEnd:De:=dOr (dOp (gEq false) (dOp gIx (zab 0) (dC (.int 0))) (dC (.str (Str.ofString "any")))) (dOp (gIn false) (zfl 3) (zfp (dA (dFz (ze3 zbD (dA (zfl 3) dA0))) (dA (dFz (zgI (dFz (ze3 zbD (dA (zfl 3) dA0))))) dA0))))
theorem zqU(F:FD):zbx F=za3 (dIf (dTB (zg0 "int" (zab 0))) (zbt (dOp (gEq false) (zab 1) (zfp (dA (zab 0) dA0)))) dNx) (za3 (zbi 2 (zab 1)) (za3 (zck 3 (zdg dA0)) (za3 (zb2 tC (zkz F) 10) (zbt tEnd)))):=rfl
theorem zmQ{c:DT}{body:DS}{n:Nat}{Z Z1 Z2:Ev}(h:c Z=.ok (true,Z1))(hb:body Z1=.ok (.nx,Z2)):zb2 c body (n+1) Z=zb2 c body n Z2:=by rw[zb2,h];simp only[R.bind_ok,if_true,hb]
theorem zn3{c:DT}{body:DS}{n:Nat}{Z Z1 Z2:Ev}{d:Dt}(h:c Z=.ok (true,Z1))(hb:body Z1=.ok (.rt d,Z2)):zb2 c body (n+1) Z=.ok (.rt d,Z2):=by rw[zb2,h];simp only[R.bind_ok,if_true,hb]
theorem zoK{c:DT}{body:DS}{n:Nat}{Z Z1:Ev}(h:c Z=.ok (false,Z1)):zb2 c body (n+1) Z=.ok (.nx,Z1):=by rw[zb2,h];simp only[R.bind_ok,Bool.false_eq_true,if_false]
theorem zkl{g:List Dt->R (List Dt)}{f:De}{Z Z1:Ev}{d:Dt}{z:List Dt}(h:f Z=.ok (d,Z1))(hg:g [d]=.ok z):ze3 g (dA f dA0) Z=.ok (z,Z1):=by unfold ze3 dA dA0;rw[h];simp only[R.bind_ok,hg]
theorem zrh{l:List Int}(h:l.length<64):zd9 [tz l]=.ok ((zbd l).map .int):=by unfold zd9 tz;simp only[zpd,h,if_true]
theorem zjt{l:List Int}(h:l.length<64):zbD [.lst (l.map .int)]=.ok ((zbd l).map .int):=by unfold zbD;simp only[zpd,h,if_true]
structure Nod(r:Bool)(bs:List Tr):Prop where
 A:zgk bs
 d:∀ b∈bs,dep b<=8
 k:bs.length<=6
 l:(zad bs).length<=6
theorem zpw{r:Bool}{bs:List Tr}{Z:Ev}{i j:Nat}{b:Tr}(h:zab 0 Z=.ok (toD (.nd r bs),Z))(hj:zab j Z=.ok (.int (i:Nat),Z))(hb:bs[i]? = some b):zwb j Z=.ok (toD b,Z):=by have hi:=(wam.mp hb).1;refine zau (zfa h) hj (zve (v:=(i:Nat)) xwo (by rw[zbk,List.length_map];omega) ?_);rw[Int.toNat_natCast,zbk,List.getElem?_map,hb];rfl
theorem zq6{r:Bool}{bs:List Tr}{Z:Ev}{i j:Nat}{b:Tr}(N:Nod r bs)(h:zab 0 Z=.ok (toD (.nd r bs),Z))(hj:zab j Z=.ok (.int (i:Nat),Z))(hb:bs[i]? = some b):tLv j Z=.ok (.lst ((zac b).map .int),Z):=by have hm:=waH hb;exact zeg (zpw h hj hb) (zhG 8 b (N.d b hm) (by have:=zda hm;have:=N.l;omega))
theorem zpp{r:Bool}{bs:List Tr}{g:Int}{l:List Int}{R3 o3 o4 o5:Option B}(N:Nod r bs)(hg:g∈zad bs):∃ i b,bs[i]? = some b/\g∈zac b /\
  zpI [some (.val (toD (.nd r bs))),R3,some (.val (tz (g::l))),o3,o4,o5]=.ok (.nx,[some (.val (toD (.nd r bs))),R3,some (.val (tz (g::l))),o3,some (.val (.int (i:Nat))),o5]):=by
 let Z:Ev:=[some (.val (toD (.nd r bs))),R3,some (.val (tz (g::l))),o3,o4,o5]
 have hv:zab 0 Z=.ok (toD (.nd r bs),Z):=rfl;have hlen:dFn zc3 (dA (dOp gIx (zab 0) (dC (.int 1))) dA0) Z=.ok (.int (bs.length:Nat),Z):=zdF (zfa hv) (by show R.ok (Dt.int ((zlH bs).length:Nat))=_;rw[zbk,List.length_map]);let p:Nat->Bool:=λi=>match bs[i]? with
  |some b=>decide (g∈zac b)
  |none=>false
 have hc:zwB Z=.ok (((List.range bs.length).filter p).map λi:Nat=>Dt.int i,Z):=by
  refine zco (u:=λi:Nat=>Dt.int i) (l:=List.range bs.length) (znt hlen (by have:=N.k;omega)) rfl rfl (by rw[List.length_range];have:=N.k;omega) (λi hi=>?_) λi hi _=>?_
  ·have hi':=List.mem_range.mp hi;have e:bs[i]? = some bs[i]:=wac hi';have a0:zab 0 (Z++[some (.val (.int (i:Nat)))])=.ok (toD (.nd r bs),Z++[some (.val (.int (i:Nat)))]):=rfl;have a6:zab 6 (Z++[some (.val (.int (i:Nat)))])=.ok (.int (i:Nat),Z++[some (.val (.int (i:Nat)))]):=rfl;have a2:dOp gIx (zab 2) (dC (.int 0)) (Z++[some (.val (.int (i:Nat)))])=.ok (.int g,Z++[some (.val (.int (i:Nat)))]):=zau (d:=tz (g::l)) (Z1:=Z++[some (.val (.int (i:Nat)))]) rfl rfl (by unfold gIx tz;rw[List.map_cons];simp only[zff]);refine zaG (zau a2 (zq6 N a0 a6 e) ?_);rw[(zh6 rfl zh2).2,zgr];show _=PV.R.ok (Dt.bl (match bs[i]? with|some b=>decide (g∈zac b)|none=>false));rw[e];rfl
  ·rfl
 obtain ⟨b,hb,gb⟩:=zaN.mp hg;obtain ⟨k,hk,ek⟩:=List.mem_iff_getElem.mp hb;have hkp:k∈(List.range bs.length).filter p:=by refine List.mem_filter.mpr ⟨List.mem_range.mpr hk,?_⟩;show (match bs[k]? with|some b=>decide (g∈zac b)|none=>false)=true;rw[List.getElem?_eq_getElem hk,ek];exact wat gb
 obtain ⟨i,zbV,ei⟩:=waI (List.ne_nil_of_mem hkp);have hi:i∈(List.range bs.length).filter p:=by rw[ei];exact wau
 obtain ⟨h1,h2⟩:=List.mem_filter.mp hi;have hil:=List.mem_range.mp h1;have h2':(match bs[i]? with|some b=>decide (g∈zac b)|none=>false)=true:=h2;rw[List.getElem?_eq_getElem hil] at h2';refine ⟨i,bs[i],wac hil,of_decide_eq_true h2',?_⟩;rw[ei] at hc;exact zaM (Z1:=Z) (zau (zba hc) rfl (by unfold gIx;rw[List.map_cons];simp only[zff])) (by simp[Z])
theorem zs6{a b:List Int}(h:a.Perm b):zbd a=zbd b:=W.lks_uniq ((zaO a).trans (h.trans (zaO b).symm)) (zdG a) (zdG b)
theorem zoo{a b:List Int}(h:zbd a=zbd b):a.Perm b:=(zaO a).symm.trans (by rw[h];exact zaO b)
theorem zrd{i:Nat}{pl:List Nat}:((i:Int)∈zbf pl) ↔ i∈pl:=by unfold zbf;rw[List.mem_map];exact ⟨λ⟨j,hj,e⟩=>by rw[<- Int.ofNat_inj.mp e];exact hj,λh=>⟨i,h,rfl⟩⟩
section
variable{r:Bool}{bs:List Tr}{F:FD}{R:Option B}
theorem zre{g:Int}{l:List Int}{pl:List Nat}{i:Nat}{b:Tr}{o5:Option B}(N:Nod r bs)(hl:(g::l).length<=6)(hb:bs[i]? = some b)(hpl:i∉pl)(Z2:Ev)(e2:Z2=[some (.val (toD (.nd r bs))),R,some (.val (tz (g::l))),some (.own ((zbf pl).map .int)),some (.val (.int (i:Nat))),some (.val (.int ((zac b).length:Nat)))]) :
  zqv [some (.val (toD (.nd r bs))),R,some (.val (tz (g::l))),some (.own ((zbf pl).map .int)),some (.val (.int (i:Nat))),o5]=.ok (.nx,Z2) /\
  zo3 (dTB (zoH false 3 (zab 4))) (dTB (dOp (gEq true) (dFz (ze3 zd9 (dA zsx dA0))) (dFz (ze3 zbD (dA (tLv 4) dA0))))) Z2=.ok (!(zbd ((g::l).take (zac b).length) == zbd (zac b)),Z2) /\
  zsx Z2=.ok (tz ((g::l).take (zac b).length),Z2)/\zgu (zab 2) (dO1 (zab 5)) dO0 Z2=.ok (tz ((g::l).drop (zac b).length),Z2):=by
 subst e2;let Z2:Ev:=[some (.val (toD (.nd r bs))),R,some (.val (tz (g::l))),some (.own ((zbf pl).map .int)),some (.val (.int (i:Nat))),some (.val (.int ((zac b).length:Nat)))]
 let Z1:Ev:=[some (.val (toD (.nd r bs))),R,some (.val (tz (g::l))),some (.own ((zbf pl).map .int)),some (.val (.int (i:Nat))),o5]
 have hbl:(zac b).length<=6:=by have:=zda (waH hb);have:=N.l;omega
 have a2:zab 2 Z2=.ok (tz (g::l),Z2):=rfl;have a5:zab 5 Z2=.ok (.int ((zac b).length:Nat),Z2):=rfl;have a4:zab 4 Z2=.ok (.int (i:Nat),Z2):=rfl;have hpre:zsx Z2=.ok (tz ((g::l).take (zac b).length),Z2):=by refine (zme a2 rfl (zry a5)).trans ?_;rw[zth,zuS]
 refine ⟨?_,?_,hpre,?_⟩
 ·have e:=zdF (g:=zc3) (z:=.int ((zac b).length:Nat)) (zq6 (j:=4) (Z:=Z1) N rfl rfl hb) (by show PV.R.ok (Dt.int (((zac b).map Dt.int).length:Nat))=_;rw[List.length_map]);exact zaM e (by simp[Z1])
 ·have c1:dTB (zoH false 3 (zab 4)) Z2=.ok (false,Z2):=by refine zaG ?_;unfold zoH;rw[a4];show ((gIn false (.int (i:Nat)) (.lst ((zbf pl).map .int))).bind λz=>PV.R.ok (z,Z2))=_;rw[(zh6 rfl zh2).2,zgr];have:decide ((i:Int)∈zbf pl)=false:=waw λz=>hpl (zrd.mp z);rw[this];rfl
  have c2:dTB (dOp (gEq true) (dFz (ze3 zd9 (dA zsx dA0))) (dFz (ze3 zbD (dA (tLv 4) dA0)))) Z2=.ok (!(zbd ((g::l).take (zac b).length) == zbd (zac b)),Z2):=by
   refine zaG (zau (zba (zkl hpre (zrh ?_))) (zba (zkl (zq6 (j:=4) N rfl rfl hb) (zjt xwo))) ?_)
   ·rw[List.length_take];omega
   ·rw[zbF (zkK _) (zkK _),zub];rfl
  rw[show zo3 _ _ Z2=_ from zps c1];exact c2
 ·refine (zme a2 (zry a5) rfl).trans ?_;rw[zkf,zpC]
theorem zpn{T o3 o4 o5:Option B}(left:List Int):tC [T,R,some (.val (tz left)),o3,o4,o5]=.ok (!left.isEmpty,[T,R,some (.val (tz left)),o3,o4,o5]):=by
 let Z:Ev:=[T,R,some (.val (tz left)),o3,o4,o5]
 have a2:zab 2 Z=.ok (tz left,Z):=rfl;have a0:zfp dA0 Z=.ok (tz [],Z):=rfl;refine zaG (zau a2 a0 ?_);rw[zbF (zn8 _) (zn8 _),zx3];cases left <;> rfl
theorem zl8(N:Nod r bs)(IH:∀ b∈bs,∀ x:List Int,x.Perm (zac b)->F [.val (toD b),.val (tz x)]=.ok (.bl (decide (x∈zan b)),[.val .non,.val .non])) :
  ∀(f:Nat)(left:List Int)(pl:List Nat)(o4 o5:Option B),left.length<f->left.length<=6->left.Nodup->(∀ g∈left,g∈zad bs)->(∀ i∈pl,∀ b,bs[i]? = some b->∀ g∈zac b,g∉left)->pl.length+left.length<=10 ->
   (∃ a2 a3 a4 a5,zb2 tC (zkz F) f [some (.val (toD (.nd r bs))),R,some (.val (tz left)),some (.own ((zbf pl).map .int)),o4,o5]=.ok (.rt (.bl false),[some (.val (toD (.nd r bs))),R,a2,a3,a4,a5])/\¬ ∃ q,(∀ t∈q,t∈bs)/\zb0 left q) \/
   (∃ pl' a4 a5,zb2 tC (zkz F) f [some (.val (toD (.nd r bs))),R,some (.val (tz left)),some (.own ((zbf pl).map .int)),o4,o5]=.ok (.nx,[some (.val (toD (.nd r bs))),R,some (.val (tz [])),some (.own ((zbf (pl++pl')).map .int)),a4,a5])/\(∀ i∈pl',i<bs.length)/\zb0 left (sel bs pl'))
 |0,left,pl,o4,o5,h,_,_,_,_,_=>by omega
 |f+1,[],pl,o4,o5,_,_,_,_,_,_=>by right;refine ⟨[],o4,o5,?_,xws,[],.nil,rfl⟩;rw[List.append_nil];exact zoK (zpn [])
 |f+1,g::l,pl,o4,o5,hf,h6,hn,hin,hpl,h10=>by
  obtain ⟨i,b,hb,gb,e1⟩:=zpp (r:=r) (bs:=bs) (g:=g) (l:=l) (R3:=R) (o3:=some (.own ((zbf pl).map .int))) (o4:=o4) (o5:=o5) N (hin g wau);have hbm:=waH hb;have hi:=(wam.mp hb).1;have hip:i∉pl:=λz=>hpl i z b hb g gb wau;have hne:zac b≠[]:=N.A.ne b hbm;have hm1:1<=(zac b).length:=Nat.pos_of_ne_zero λz=>hne (List.length_eq_zero_iff.mp z);let T:Option B:=some (.val (toD (.nd r bs)));let Z2:Ev:=[T,R,some (.val (tz (g::l))),some (.own ((zbf pl).map .int)),some (.val (.int (i:Nat))),some (.val (.int ((zac b).length:Nat)))]
  obtain ⟨e2,e3,e4,e5⟩:=zre (r:=r) (R:=R) (g:=g) (l:=l) (pl:=pl) (o5:=o5) N h6 hb hip Z2 rfl;have hc:=zpn (R:=R) (T:=T) (o3:=some (.own ((zbf pl).map .int))) (o4:=o4) (o5:=o5) (g::l);have hkid:zwb 4 Z2=.ok (toD b,Z2):=zpw (r:=r) rfl rfl hb;by_cases hp:((g::l).take (zac b).length).Perm (zac b)
  ·have e3':zo3 (dTB (zoH false 3 (zab 4))) (dTB (dOp (gEq true) (dFz (ze3 zd9 (dA zsx dA0))) (dFz (ze3 zbD (dA (tLv 4) dA0))))) Z2=.ok (false,Z2):=by rw[e3,zs6 hp];simp
   have hcall:zai F (dR (zwb 4) (dR zsx dR0)) Z2=.ok (.bl (decide ((g::l).take (zac b).length∈zan b)),Z2):=zcN hkid e4 (IH b hbm _ hp);by_cases hr:(g::l).take (zac b).length∈zan b
   ·rw[decide_eq_true hr] at hcall;have hlen:pl.length+1<=10:=by simp only[wan] at h10;omega
    have hbody:zkz F [T,R,some (.val (tz (g::l))),some (.own ((zbf pl).map .int)),o4,o5]=.ok (.nx,[T,R,some (.val (tz ((g::l).drop (zac b).length))),some (.own ((zbf (pl++[i])).map .int)),some (.val (.int (i:Nat))),some (.val (.int ((zac b).length:Nat)))]):=by
     let Z3:Ev:=[T,R,some (.val (tz (g::l))),some (.own ((zbf (pl++[i])).map .int)),some (.val (.int (i:Nat))),some (.val (.int ((zac b).length:Nat)))]
     have y1:dEx (zcQ 3 (zab 4)) Z2=.ok (.nx,Z3):=by
      have:=zqa (i:=3) (fa:=zab 4) (Z:=Z2) (Z1:=Z2) (l0:=(zbf pl).map .int) (ds:=(zbf pl).map .int) (d:=.int (i:Nat)) rfl rfl rfl (by unfold zbf;rw[List.length_map,List.length_map];omega);refine (zeo this).trans ?_;show PV.R.ok (Fl.nx,[T,R,_,some (B.own ((zbf pl).map Dt.int++[Dt.int (i:Nat)])),_,_])=_;have:(zbf (pl++[i])).map Dt.int=(zbf pl).map Dt.int++[Dt.int (i:Nat)]:=by unfold zbf;simp
      rw[show Z3=[T,R,some (.val (tz (g::l))),some (.own ((zbf (pl++[i])).map .int)),some (.val (.int (i:Nat))),some (.val (.int ((zac b).length:Nat)))] from rfl,this]
     have a2:zab 2 Z3=.ok (tz (g::l),Z3):=rfl;have a5:zab 5 Z3=.ok (.int ((zac b).length:Nat),Z3):=rfl;have y2:zgu (zab 2) (dO1 (zab 5)) dO0 Z3=.ok (tz ((g::l).drop (zac b).length),Z3):=by refine (zme a2 (zry a5) rfl).trans ?_;rw[zkf,zpC]
     rw[show zkz F=za3 zpI (za3 zqv (za3 ztF (za3 (zv5 F) (za3 (dEx (zcQ 3 (zab 4))) (zbi 2 (zgu (zab 2) (dO1 (zab 5)) dO0)))))) from rfl,zag e1,zag e2,zag (Z1:=Z2) (by rw[show ztF Z2=_ from zcm e3'];rfl),zag (Z1:=Z2) (by rw[show zv5 F Z2=_ from zcm (zhi (zaG hcall))];rfl),zag y1];exact zaM y2 (by simp[Z3])
    have htd:((g::l).take (zac b).length++(g::l).drop (zac b).length).Nodup:=by rw[List.take_append_drop];exact hn
    rw[List.nodup_append] at htd;have hdl:((g::l).drop (zac b).length).length+1<=(g::l).length:=by rw[List.length_drop];simp only[wan] at *;omega
    have hsub:∀ x∈(g::l).drop (zac b).length,x∈g::l:=λx hx=>List.mem_of_mem_drop hx;rcases zl8 N IH f ((g::l).drop (zac b).length) (pl++[i]) (some (.val (.int (i:Nat)))) (some (.val (.int ((zac b).length:Nat)))) xwo xwo htd.2.1 (λx hx=>hin x (hsub x hx)) (λj hj c hc x hx z=>by
      rcases wax.mp hj with hj|hj
      ·exact hpl j hj c hc x hx (hsub x z)
      ·rw[List.mem_singleton] at hj;subst hj;rw[hb] at hc;cases hc;exact htd.2.2 x (hp.mem_iff.mpr hx) x z rfl) (by rw[List.length_append];simp only[wan,List.length_nil] at *;omega) with ⟨a2,a3,a4,a5,ew,hno⟩|⟨pl',a4,a5,ew,h1,h2⟩
    ·left;refine ⟨a2,a3,a4,a5,(zmQ hc hbody).trans ew,λ⟨q,hq,hM⟩=>?_⟩;obtain ⟨q',rfl,_,h3⟩:=zhj N.A hq hbm gb hM;exact hno ⟨q',λt ht=>hq t (wah _ ht),h3⟩
    ·right;refine ⟨i::pl',a4,a5,(zmQ hc hbody).trans ?_,λj hj=>?_,?_⟩
     ·rw[ew,List.append_assoc];rfl
     ·rcases wap.mp hj with rfl|hj
      ·exact hi
      ·exact h1 j hj
     ·rw[zdq hb];exact zqE hr h2
   ·left;rw[decide_eq_false hr] at hcall;refine ⟨_,_,_,_,zn3 hc (Z2:=Z2) ?_,λ⟨q,hq,hM⟩=>?_⟩
    ·rw[show zkz F=za3 zpI (za3 zqv (za3 ztF (za3 (zv5 F) (za3 (dEx (zcQ 3 (zab 4))) (zbi 2 (zgu (zab 2) (dO1 (zab 5)) dO0)))))) from rfl,zag e1,zag e2,zag (Z1:=Z2) (by rw[show ztF Z2=_ from zcm e3'];rfl)];exact zbz (by rw[show zv5 F Z2=_ from zd5 (zhi (zaG hcall))];rfl)
    ·obtain ⟨q',rfl,h3,_⟩:=zhj N.A hq hbm gb hM;exact hr h3
  ·left;have e3':zo3 (dTB (zoH false 3 (zab 4))) (dTB (dOp (gEq true) (dFz (ze3 zd9 (dA zsx dA0))) (dFz (ze3 zbD (dA (tLv 4) dA0))))) Z2=.ok (true,Z2):=by have:(zbd ((g::l).take (zac b).length) == zbd (zac b))=false:=beq_false_of_ne λz=>hp (zoo z);rw[e3,this];rfl
   refine ⟨_,_,_,_,zn3 hc (Z2:=Z2) ?_,λ⟨q,hq,hM⟩=>?_⟩
   ·rw[show zkz F=za3 zpI (za3 zqv (za3 ztF (za3 (zv5 F) (za3 (dEx (zcQ 3 (zab 4))) (zbi 2 (zgu (zab 2) (dO1 (zab 5)) dO0)))))) from rfl,zag e1,zag e2];exact zbz (by rw[show ztF Z2=_ from zd5 e3'];rfl)
   ·obtain ⟨q',rfl,h3,_⟩:=zhj N.A hq hbm gb hM;exact hp (zav h3)
end
theorem zpZ{r:Bool}{bs:List Tr}{R a2 a4 a5:Option B}{P:List Int}(hl:P.length<64):∃ a3,tEnd [some (.val (toD (.nd r bs))),R,a2,some (.own (P.map .int)),a4,a5]=.ok (.bl (!r || (zbd P == P || (zbd P).reverse == P)),[some (.val (toD (.nd r bs))),R,a2,a3,a4,a5]):=by
 let Z:Ev:=[some (.val (toD (.nd r bs))),R,a2,some (.own (P.map .int)),a4,a5]
 let Z1:Ev:=[some (.val (toD (.nd r bs))),R,a2,some (.val (.lst (P.map .int))),a4,a5]
 have hv:zab 0 Z=.ok (toD (.nd r bs),Z):=rfl;cases r with
 |false =>
  refine ⟨some (.own (P.map .int)),?_⟩;show dOr _ _ Z=_;unfold dOr;rw[zjP hv];rfl
 |true =>
  refine ⟨some (.val (.lst (P.map .int))),?_⟩;show dOr _ _ Z=_;unfold dOr;rw[zjP hv];have u0:zfl 3 Z=.ok (.lst (P.map .int),Z1):=rfl;have u1:zfl 3 Z1=.ok (.lst (P.map .int),Z1):=rfl;have s1:dFz (ze3 zbD (dA (zfl 3) dA0)) Z1=.ok (.lst ((zbd P).map .int),Z1):=zba (zkl u1 (zjt hl));have s2:dFz (zgI (dFz (ze3 zbD (dA (zfl 3) dA0)))) Z1=.ok (.lst ((zbd P).reverse.map .int),Z1):=by refine zba ?_;unfold zgI;rw[s1];simp only[PV.R.bind_ok];rw[List.map_reverse]
  have s3:zfp (dA (dFz (ze3 zbD (dA (zfl 3) dA0))) (dA (dFz (zgI (dFz (ze3 zbD (dA (zfl 3) dA0))))) dA0)) Z1=.ok (.tup [.lst ((zbd P).map .int),.lst ((zbd P).reverse.map .int)],Z1):=zu8 (zws s1 (zws s2 rfl)) xws;have:=zau (g:=gIn false) u0 s3 (zh6 (neg:=false) (zkK P) (λd hd=>by
   simp only[wap,wak,or_false] at hd;rcases hd with rfl|rfl
   ·exact zkK _
   ·exact zkK _)).1
  simp only[PV.R.bind_ok,Bool.not_true,Bool.false_or];refine this.trans ?_;have:inD (.lst (P.map .int)) [.lst ((zbd P).map .int),.lst ((zbd P).reverse.map .int)]=(zbd P == P || (zbd P).reverse == P):=by unfold inD;rw[List.any_cons,List.any_cons,List.any_nil,zub,zub,Bool.or_false]
  rw[this];rfl
theorem zuA{F:FD}{r:Bool}{bs:List Tr}{row:List Int}(N:Nod r bs)(IH:∀ b∈bs,∀ x:List Int,x.Perm (zac b)->F [.val (toD b),.val (tz x)]=.ok (.bl (decide (x∈zan b)),[.val .non,.val .non]))(hr:row.Perm (zad bs)) :
  za1 false [false,false] 4 (zbx F) [.val (toD (.nd r bs)),.val (tz row)]=.ok (.bl (decide (row∈zan (.nd r bs))),[.val .non,.val .non]):=by
 let T:Option B:=some (.val (toD (.nd r bs)));let R:Option B:=some (.val (tz row));let Z0:Ev:=[T,R,none,none,none,none]
 let Z1:Ev:=[T,R,R,none,none,none]
 let Z2:Ev:=[T,R,R,some (.own []),none,none]
 have hrl:row.length<=6:=by rw[hr.length_eq];exact N.l
 have x0:dIf (dTB (zg0 "int" (zab 0))) (zbt (dOp (gEq false) (zab 1) (zfp (dA (zab 0) dA0)))) dNx Z0=.ok (.nx,Z0):=by
  have:dTB (zg0 "int" (zab 0)) Z0=.ok (false,Z0):=by refine zaG ?_;unfold zg0;rw[show zab 0 Z0=.ok (toD (.nd r bs),Z0) from rfl,toD];rfl
  rw[zcm this];rfl
 rcases zl8 (r:=r) (F:=F) (R:=R) N IH 10 row [] none none xwo hrl (hr.symm.nodup N.A.nd) (λg hg=>hr.mem_iff.mp hg) (λi hi=>by cases hi) (by simp;omega) with ⟨a2,a3,a4,a5,ew,hno⟩|⟨pl',a4,a5,ew,h1,h2⟩
 ·have hf:decide (row∈zan (.nd r bs))=false:=waw λz=>by obtain ⟨p,hp,hm⟩:=zaH.mp z;exact hno ⟨p,λt ht=>(za5 hp).mem_iff.mp ht,hm⟩
  rw[hf];refine zaj (Z':=[T,R,a2,a3,a4,a5]) rfl ?_ rfl;show zbx F Z0=_;rw[zqU,zag x0,zag (Z1:=Z1) rfl,zag (Z1:=Z2) rfl];exact zbz ew
 ·rw[List.nil_append] at ew;have hpl:(zbf pl').length<64:=by have:=(zkv h2).length_eq;have h3:=zjy N.A (λt=>zjS) hr h2;have:=h3.length_eq;rw[zm3 h1] at this;unfold zbf;rw[List.length_map];have:=N.k;omega
  obtain ⟨a3,ee⟩:=zpZ (r:=r) (bs:=bs) (R:=R) (a2:=some (.val (tz []))) (a4:=a4) (a5:=a5) (P:=zbf pl') hpl;have hval:(!r || (zbd (zbf pl') == zbf pl' || (zbd (zbf pl')).reverse == zbf pl'))=decide (row∈zan (.nd r bs)):=by
   cases r with
   |false =>
    rw[decide_eq_true (zuW N.A hr h1 h2)];rfl
   |true =>
    obtain ⟨h3,h4⟩:=zuj N.A hr h1 h2;rw[h3,Bool.eq_iff_iff];simp only[Bool.not_true,Bool.false_or,Bool.or_eq_true,beq_iff_eq,war,h4];exact ⟨λh=>h.elim (λe=>.inl e.symm) λe=>.inr e.symm,λh=>h.elim (λe=>.inl e.symm) λe=>.inr e.symm⟩
  rw[hval] at ee;refine zaj (Z':=[T,R,some (.val (tz [])),a3,a4,a5]) rfl ?_ rfl;show zbx F Z0=_;have ew2:zb2 tC (zkz F) 10 Z2=.ok (.nx,[T,R,some (.val (tz [])),some (.own ((zbf pl').map .int)),a4,a5]):=ew;rw[zqU,zag x0,zag (Z1:=Z1) rfl,zag (Z1:=Z2) rfl,zag ew2];exact zbe ee
theorem zpR:∀(n:Nat)(t:Tr),dep t<=n->dep t<=8->okT t=true->(zac t).Nodup->(zac t).length<=6->∀ row:List Int,row.Perm (zac t)->zbL n [.val (toD t),.val (tz row)]=.ok (.bl (decide (row∈zan t)),[.val .non,.val .non])
 |0,t,h,_,_,_,_=>by cases t <;> simp[dep] at h
 |n+1,.lf g,_,_,_,_,_=>λrow hr=>by
  let Z:Ev:=[some (.val (.int g)),some (.val (tz row)),none,none,none,none]
  refine zaj (Z':=Z) rfl ?_ rfl;rw[toD];show zbx _ Z=_;rw[zqU];have a1:zab 1 Z=.ok (tz row,Z):=rfl;have a0:zfp (dA (zab 0) dA0) Z=.ok (tz [g],Z):=rfl;refine zbz ?_;rw[zd5 (Z1:=Z) (zaG rfl)];refine zbe (zau a1 a0 ?_);rw[zbF (zn8 _) (zn8 _),zx3,zan];congr 2;rw[Bool.eq_iff_iff];simp
 |n+1,.nd r bs,h,h8,ho,hn,h6=>λrow hr=>by
  have hh:=zgi h ho hn;have hd8:∀ b∈bs,dep b<=8:=λb hb=>by simp only[dep] at h8;have:=zaS.mp (wal (zdi bs)) b hb;omega
  have hsub:∀ b∈bs,(zac b).length<=6:=λb hb=>by have:=zda hb;rw[zac] at h6;omega
  have hk:bs.length<=6:=by have:=zmv bs (wal _) (by rw[okT,Bool.and_eq_true] at ho;exact ho.2);rw[zac] at h6;omega
  rw[zac] at hr h6;exact zuA (F:=zbL n) ⟨hh.1,hd8,hk,h6⟩ (λb hb x hx=>zpR n b (hh.2 b hb).1 (hd8 b hb) (hh.2 b hb).2.1 (hh.2 b hb).2.2 (hsub b hb) x hx) hr
theorem zdY{f:DN}{Z Z1:Ev}{l:List Dt}(h:f Z=.ok (l,Z1)):ze5 f Z=.ok (.rt (.lst l),Z1):=by unfold ze5;rw[h];rfl
theorem zvg{t:Tr}{rs:List (List Int)}(hd:dep t<=8)(ho:okT t=true)(hn:(zac t).Nodup)(h6:(zac t).length<=6)(hl:rs.length<=1000)(hr:∀ r∈rs,r.Perm (zac t)) :
  zbw [.val (toD t),.val (.lst (lp rs))]=.ok (.lst (lp (rs.filter λr=>decide (r∈zan t))),[.val .non,.val .non]):=by
 let Z:Ev:=[some (.val (toD t)),some (.val (.lst (lp rs)))]
 refine zaj (Z':=Z) rfl ?_ rfl;refine zdY ?_;refine (zco (u:=tz) (f:=tz) (p:=λr=>decide (r∈zan t)) (l:=rs) (ds:=lp rs) rfl rfl rfl xwo (λr hr'=>?_) λr hr' _=>rfl).trans rfl;have a0:zab 0 (Z++[some (.val (tz r))])=.ok (toD t,Z++[some (.val (tz r))]):=rfl;have a2:zab 2 (Z++[some (.val (tz r))])=.ok (tz r,Z++[some (.val (tz r))]):=rfl;exact zaG (zcN a0 a2 (zpR 8 t hd hd ho hn h6 r (hr r hr')))
theorem zfr{s a y c:List Int}{g:Int}(hn:s.Nodup)(e:s=a++y++c)(hg:g∈y):a.length<=s.idxOf g/\s.idxOf g<a.length+y.length:=by subst e;rw[List.append_assoc,List.nodup_append] at hn;have hga:g∉a:=λz=>hn.2.2 g z g (waR _ hg) rfl;rw[List.append_assoc,List.idxOf_append,if_neg hga,List.idxOf_append,if_pos hg];have:=List.idxOf_lt_length_of_mem hg;lia
theorem ziY{f:Tr->Int}:∀{p:List Tr}{ys:List (List Int)}{s u v:List Int},s.Nodup->s=u++ys.flatten++v->Paired (λy t=>y∈zan t) ys p->(∀ b∈p,f b∈zac b)->(p.map λb=>((s.idxOf (f b):Nat):Int)).Pairwise (· < ·)/\∀ b∈p,u.length<=s.idxOf (f b)
 |[],_,s,u,v,_,_,.nil,_=>⟨.nil,xws⟩
 |b::p,y::ys,s,u,v,hn,e,.cons h t,hf=>by
  rw[List.flatten_cons] at e;have e1:s=u++y++(ys.flatten++v):=by rw[e];simp
  have e2:s=(u++y)++ys.flatten++v:=by rw[e];simp
  have hb:=zfr hn e1 ((zav h).mem_iff.mpr (hf b wau));obtain ⟨h1,h2⟩:=ziY (f:=f) hn e2 t λc hc=>hf c (wah _ hc);refine ⟨List.pairwise_cons.mpr ⟨λz hz=>?_,h1⟩,λc hc=>?_⟩
  ·obtain ⟨c,hc,rfl⟩:=List.mem_map.mp hz;have:=h2 c hc;rw[List.length_append] at this;show ((s.idxOf (f b):Nat):Int)<((s.idxOf (f c):Nat):Int);lia
  ·rcases wap.mp hc with rfl|hc
   ·exact hb.1
   ·have:=h2 c hc;rw[List.length_append] at this;lia
noncomputable def zay(b:Tr):Int:=(zbd (zac b)).headD 0
theorem zfY{b:Tr}(h:zac b≠[]):zay b∈zac b:=by unfold zay;have hn:zbd (zac b)≠[]:=λz=>h (by have:=zaO (zac b);rw[z] at this;exact this.symm.eq_nil);obtain ⟨g,r,e⟩:=waI hn;rw[e];exact (zaO _).mem_iff.mp (by rw[e];exact wau)
noncomputable def Seg(t:Tr)(s:List Int):Prop:=∃ u x v,s=u++x++v/\x∈zan t
theorem zcu{α β:Type}{F:α->β->Prop}:∀{l:List α}{r:List β},Paired F l r->Paired F l.reverse r.reverse
 |_,_,.nil=>.nil
 |_,_,.cons h t=>by rw[List.reverse_cons,List.reverse_cons];exact zfy h (zcu t)
theorem zho{α β:Type}{F F':α->β->Prop}{g:α->α}:∀{l:List α}{r:List β},Paired F l r->(∀ a b,F a b->F' (g a) b)->Paired F' (l.map g) r
 |_,_,.nil,_=>.nil
 |_,_,.cons h t,H=>.cons (H _ _ h) (zho t H)
theorem zmZ:∀ ys:List (List Int),(ys.reverse.map List.reverse).flatten=ys.flatten.reverse
 |[]=>rfl
 |y::ys=>by rw[List.reverse_cons,List.map_append,List.flatten_append,zmZ ys,List.flatten_cons,List.reverse_append];simp
theorem zud{r:Bool}{bs p:List Tr}(h:p∈arr r bs):p.reverse∈arr r bs:=by
 cases r with
 |false=>exact (zcx _ _ _ rfl).mpr ((List.reverse_perm p).trans (za5 h))
 |true =>
  have:p=bs\/p=bs.reverse:=by simpa [arr] using h
  rcases this with rfl|rfl
  ·simp[arr]
  ·simp[arr]
theorem zpk:∀(n:Nat)(t:Tr),dep t<=n->∀ x∈zan t,x.reverse∈zan t
 |0,t,h,_,_=>by cases t <;> simp[dep] at h
 |n+1,.lf g,_,x,hx=>by rw[zan,List.mem_singleton] at hx;subst hx;rw[zan];simp
 |n+1,.nd r bs,h,x,hx=>by
  simp only[dep] at h;have hd:=zaS.mp (by omega:zdi bs<=n);obtain ⟨p,hp,ys,h1,rfl⟩:=zaH.mp hx;refine zaH.mpr ⟨p.reverse,zud hp,ys.reverse.map List.reverse,?_,zmZ ys⟩;have:Paired (λy t=>y∈zan t/\dep t<=n) ys p:=by
   have pb:∀ t∈p,dep t<=n:=λt ht=>hd t ((za5 hp).mem_iff.mp ht);clear hx hp
   induction h1 with
   |nil=>exact .nil
   |cons h t ih=>exact .cons ⟨h,pb _ wau⟩ (ih λu hu=>pb u (wah _ hu))
  exact zho (zcu this) λa b hab=>zpk n b hab.2 a hab.1
theorem zhc{t:Tr}{x:List Int}(h:x∈zan t):x.reverse∈zan t:=zpk _ t (wal _) x h
theorem zqc{x P M N u s v:List Int}{a c b:Int}(hn:x.Nodup)(e:x=P++M++N)(e':x=u++s++v)(ha:a∈P)(hc:c∈M)(hb:b∈N)(sa:a∈s)(sb:b∈s):c∈s:=by
 have i1:=zfr (y:=P) (a:=[]) (c:=M++N) hn (by rw[e];simp) ha;have i2:=zfr hn e hc;have i3:=zfr (y:=N) (a:=P++M) (c:=[]) hn (by rw[e];simp) hb;have j1:=zfr hn e' sa;have j3:=zfr hn e' sb;simp only[List.length_nil,wav] at i1 i3;have hcx:c∈x:=by rw[e];simp[hc]
 have hl:=List.idxOf_lt_length_of_mem hcx;have hg:x[x.idxOf c]? = some c:=by rw[List.getElem?_eq_getElem hl,List.getElem_idxOf]
 rw[show x[x.idxOf c]? = (u++s++v)[x.idxOf c]? by rw[<- e'],List.append_assoc,List.getElem?_append_right xwo,List.getElem?_append_left xwo] at hg;exact waH hg
structure zbI(t:Tr):Prop where
 o:okT t=true
 n:(zac t).Nodup
theorem zbI.kids{r:Bool}{bs:List Tr}(h:zbI (.nd r bs)):zgk bs/\(∀ b∈bs,zbI b)/\(if r then 3 else 2)<=bs.length:=by obtain ⟨A,H⟩:=zgi (Nat.le_succ _) h.o h.n;have:=h.o;rw[okT,Bool.and_eq_true,decide_eq_true_eq] at this;exact ⟨A,λb hb=>⟨(H b hb).2.1,(H b hb).2.2⟩,this.1⟩
theorem zqe{r:Bool}{bs:List Tr}{x:List Int}(hx:x∈zan (.nd r bs)){b:Tr}(hb:b∈bs):Seg b x:=by
 obtain ⟨p,hp,ys,h1,rfl⟩:=zaH.mp hx;have hb':=(za5 hp).mem_iff.mpr hb;clear hx hp hb
 induction h1 with
 |nil=>cases hb'
 |@cons y t ys p h r ih =>
  rw[List.flatten_cons];rcases wap.mp hb' with rfl|hb'
  ·exact ⟨[],y,ys.flatten,xws,h⟩
  ·obtain ⟨u,s,v,e,hs⟩:=ih hb';exact ⟨y++u,s,v,by rw[e];simp,hs⟩
theorem zlx:∀{ys:List (List Int)}{w R:List Int},ys.flatten=w++R->(∃ l1 l2,ys=l1++l2/\w=l1.flatten/\R=l2.flatten)\/∃ l1 a b l2,ys=l1++(a++b)::l2/\a≠[]/\b≠[]/\w=l1.flatten++a/\R=b++l2.flatten
 |[],w,R,e=>by rw[List.flatten_nil] at e;obtain ⟨h1,h2⟩:=List.append_eq_nil_iff.mp e.symm;exact .inl ⟨[],[],rfl,h1,h2⟩
 |y::ys,w,R,e=>by
  rw[List.flatten_cons] at e;rcases List.append_eq_append_iff.mp e with ⟨c,h1,h2⟩|⟨c,h1,h2⟩
  ·
   rcases zlx h2 with ⟨l1,l2,e1,e2,e3⟩|⟨l1,a,b,l2,e1,e2,e3,e4,e5⟩
   ·exact .inl ⟨y::l1,l2,by rw[e1];rfl,by rw[h1,e2];simp,e3⟩
   ·exact .inr ⟨y::l1,a,b,l2,by rw[e1];rfl,e2,e3,by rw[h1,e4];simp,e5⟩
  ·
   by_cases hw:w=[]
   ·exact .inl ⟨[],y::ys,rfl,hw,by subst hw;rw[h2,h1];simp⟩
   by_cases hc:c=[]
   ·subst hc;rw[List.append_nil] at h1;exact .inl ⟨[y],ys,rfl,by simp[h1],by simpa using h2⟩
   ·exact .inr ⟨[],w,c,ys,by rw[h1];rfl,hw,hc,rfl,h2⟩
noncomputable abbrev Pr(ys:List (List Int))(p:List Tr):Prop:=Paired (λy t=>y∈zan t) ys p
theorem zb3{α β:Type}{F:α->β->Prop}:∀{l1 l2:List α}{y:α}{p:List β},Paired F (l1++y::l2) p->∃ p1 b p2,p=p1++b::p2/\Paired F l1 p1/\F y b/\Paired F l2 p2
 |[],l2,y,_,.cons h t=>⟨[],_,_,rfl,.nil,h,t⟩
 |a::l1,l2,y,_,.cons h t=>by obtain ⟨p1,b,p2,rfl,h1,h2,h3⟩:=zb3 (l1:=l1) t;exact ⟨_::p1,b,p2,rfl,.cons h h1,h2,h3⟩
theorem zaT{α β:Type}{F:α->β->Prop}:∀{l1 l2:List α}{p1 p2:List β},Paired F l1 p1->Paired F l2 p2->Paired F (l1++l2) (p1++p2)
 |_,_,_,_,.nil,h=>h
 |_,_,_,_,.cons h t,h'=>.cons h (zaT t h')
theorem zi9{α β:Type}{F:α->β->Prop}:∀{l1 l2:List α}{p:List β},Paired F (l1++l2) p->∃ p1 p2,p=p1++p2/\Paired F l1 p1/\Paired F l2 p2
 |[],l2,p,h=>⟨[],p,rfl,.nil,h⟩
 |a::l1,l2,_,.cons h t=>by obtain ⟨p1,p2,rfl,h1,h2⟩:=zi9 (l1:=l1) t;exact ⟨_::p1,p2,rfl,.cons h h1,h2⟩
theorem zoU{α:Type}{R:α->α->Prop}{A B:List α}{x:α}(h:(A++x::B).Pairwise R):(∀ a∈A,R a x)/\∀ b∈B,R x b:=by rw[List.pairwise_append,List.pairwise_cons] at h;exact ⟨λa ha=>h.2.2 a ha x wau,h.2.1.1⟩
theorem zma{bs:List Tr}(A:zgk bs){y:List Int}{b:Tr}(hb:b∈bs)(h:y∈zan b):y≠[]:=λz=>A.ne b hb (by subst z;exact (zav h).symm.eq_nil)
theorem zxu{bs:List Tr}(A:zgk bs):∀{ys:List (List Int)}{p:List Tr},Pr ys p->(∀ t∈p,t∈bs)->ys.flatten=[]->p=[]
 |_,_,.nil,_,_=>rfl
 |_,_,.cons h t,hp,e=>by exfalso;rw[List.flatten_cons] at e;exact zma A (hp _ wau) h (List.append_eq_nil_iff.mp e).1
theorem zqb{r1 r2:Bool}{bs1 bs2:List Tr}(H1:zbI (.nd r1 bs1))(H2:zbI (.nd r2 bs2))(hS:∀ x,x∈zan (.nd r1 bs1) ↔ x∈zan (.nd r2 bs2))
  {cm ys zs:List (List Int)} {y z:List Int} {p q:List Tr} (hp:p∈arr r1 bs1) (hq:q∈arr r2 bs2) (m1:Pr (cm++y::ys) p) (m2:Pr (cm++z::zs) q) (e:(cm++y::ys).flatten=(cm++z::zs).flatten) (hl:y.length<z.length):False:=by
 obtain ⟨A1,K1,L1⟩:=H1.kids;obtain ⟨A2,K2,L2⟩:=H2.kids;have pb:∀ t∈p,t∈bs1:=λt ht=>(za5 hp).mem_iff.mp ht;have qb:∀ t∈q,t∈bs2:=λt ht=>(za5 hq).mem_iff.mp ht;have hx1:(cm++y::ys).flatten∈zan (.nd r1 bs1):=zaH.mpr ⟨p,hp,_,m1,rfl⟩;have hxn:(cm++y::ys).flatten.Nodup:=(zav hx1).symm.nodup H1.n;rw[List.flatten_append,List.flatten_append,List.flatten_cons,List.flatten_cons] at e;have e':=List.append_cancel_left e;obtain ⟨w,hz,hw⟩ : ∃ w,z=y++w/\ys.flatten=w++zs.flatten:=by
  rcases List.append_eq_append_iff.mp e' with ⟨c,h1,h2⟩|⟨c,h1,h2⟩
  ·exact ⟨c,h1,h2⟩
  ·have:=congrArg List.length h1;rw[List.length_append] at this;lia
 have hwn:w≠[]:=λz'=>by subst z';rw[List.append_nil] at hz;subst hz;lia
 obtain ⟨p1,b,p2,ep,n1,n2,n3⟩:=zb3 m1;obtain ⟨q1,c,q2,eq,o1,o2,o3⟩:=zb3 m2;have hbm:b∈bs1:=pb b (by rw[ep];simp);have hcm:c∈bs2:=qb c (by rw[eq];simp);have hyn:=zma A1 hbm n2;obtain ⟨γ,y',ey⟩:=waI hyn;have hγ:γ∈y:=by rw[ey];exact wau
 have hx2:cm.flatten++w.reverse++y.reverse++zs.flatten∈zan (.nd r1 bs1):=by
  rw[hS];refine zaH.mpr ⟨q,hq,cm++z.reverse::zs,?_,?_⟩
  ·rw[eq];exact zaT o1 (.cons (zhc o2) o3)
  ·rw[List.flatten_append,List.flatten_cons,hz,List.reverse_append];simp
 have hx2n:(cm.flatten++w.reverse++y.reverse++zs.flatten).Nodup:=(zav hx2).symm.nodup H1.n;have hdis:∀ g∈y,g∉ys.flatten:=λg hg z'=>by rw[List.flatten_append,List.flatten_cons,List.nodup_append,List.nodup_append] at hxn;exact hxn.2.1.2.2 g hg g z' rfl
 rcases zlx hw with ⟨l1,l2,e1,e2,e3⟩|⟨l1,a,bb,l2,e1,e2,e3,e4,e5⟩
 ·cases l1 with
  |nil=>exact hwn (by rw[e2];rfl)
  |cons y2 l1 =>
   rw[e1] at n3;cases n3 with
   |@cons _ d _ p3 nd n3 =>
    have hdm:d∈bs1:=pb d (by rw[ep];simp);obtain ⟨β,y2',ey2⟩:=waI (zma A1 hdm nd);have hβ:β∈y2:=by rw[ey2];exact wau
    have hw2:∀ g∈y2,g∈w:=λg hg=>by rw[e2];exact List.mem_flatten.mpr ⟨y2,wau,hg⟩
    have hzy:∀ g,g∈z ↔ g∈y\/g∈w:=λg=>by rw[hz,List.mem_append]
    obtain ⟨p4,p5,ep3,n4,n5⟩:=zi9 n3;have tq:∃ ye ev ms ps,Pr (y::ye::y2::ms) (b::ev::d::ps)/\(b::ev::d::ps).Perm p/\(∀ g∈ye,g∉z)/\ye≠[]/\((ev∈p1/\∀ g∈ye,g∈cm.flatten)\/(ev∈p5/\∀ g∈ye,g∈zs.flatten)):=by
     by_cases hc0:cm=[]
     ·by_cases hl2:l2=[]
      ·exfalso;subst hc0;subst hl2;cases o1;have:q2=[]:=zxu A2 o3 (λt ht=>qb t (by rw[eq];simp[ht])) (by rw[e3];rfl);subst this;have:=(za5 hq).length_eq;rw[eq] at this;simp at this;cases r2 <;> simp at L2 <;> lia
      ·obtain ⟨ye,l2',el2⟩:=waI hl2;rw[el2] at n5;cases n5 with
       |@cons _ ev _ p6 ne n6 =>
        have hem:ev∈bs1:=pb ev (by rw[ep,ep3];simp);refine ⟨ye,ev,cm++(l1++l2'),p1++(p4++p6),.cons n2 (.cons ne (.cons nd (zaT n1 (zaT n4 n6)))),?_,λg hg hgz=>?_,zma A1 hem ne,.inr ⟨wau,λg hg=>by rw[e3,el2];exact List.mem_flatten.mpr ⟨ye,wau,hg⟩⟩⟩
        ·rw[ep,ep3];have h1:(b::ev::d::(p1++(p4++p6))).Perm (p1++(b::ev::d::(p4++p6))):=by exact (List.perm_append_comm_assoc [b,ev,d] p1 (p4++p6)).trans (.refl _)
         refine h1.trans (List.Perm.append_left p1 (List.Perm.cons b ?_));exact (List.Perm.swap d ev _).trans (List.Perm.cons d List.perm_middle.symm)
        ·rcases (hzy g).mp hgz with h|h
         ·exact hdis g h (by rw[e1,el2];simp[hg])
         ·rw[e1] at hdis;rw[List.flatten_append,List.flatten_cons,e1,el2] at hxn;rw[e2] at h;rw[show (y2::l1++ye::l2').flatten=(y2::l1).flatten++(ye++l2'.flatten) by simp,List.nodup_append,List.nodup_append,List.nodup_append] at hxn;exact hxn.2.1.2.1.2.2 g h g (waR _ hg) rfl
     ·obtain ⟨ye,cm',ecm⟩:=waI hc0;subst ecm;cases n1 with
      |@cons _ ev _ p6 ne n6 =>
       have hem:ev∈bs1:=pb ev (by rw[ep];simp);refine ⟨ye,ev,cm'++(l1++l2),p6++p3,.cons n2 (.cons ne (.cons nd (zaT n6 (by rw[ep3];exact zaT n4 n5)))),?_,λg hg hgz=>?_,zma A1 hem ne,.inl ⟨wau,λg hg=>List.mem_flatten.mpr ⟨ye,wau,hg⟩⟩⟩
       ·rw[ep];have h1:(b::ev::d::(p6++p3)).Perm (ev::b::d::(p6++p3)):=List.Perm.swap _ _ _;refine h1.trans (List.Perm.cons ev ?_);exact List.perm_append_comm_assoc [b,d] p6 p3
       ·have hgc:g∈(ye::cm').flatten:=List.mem_flatten.mpr ⟨ye,wau,hg⟩;rw[List.flatten_append,List.nodup_append] at hxn;refine hxn.2.2 g hgc g ?_ rfl;rw[List.flatten_cons];rcases (hzy g).mp hgz with h|h
        ·exact waR _ h
        ·exact waz _ (by rw[hw];exact waR _ h)
    obtain ⟨ye,ev,ms,ps,t1,t2,t3,t4,t5⟩:=tq;cases r1 with
    |false =>
     have hx3:(y::ye::y2::ms).flatten∈zan (.nd false bs1):=zaH.mpr ⟨_,(zcx _ _ _ rfl).mpr (t2.trans (za5 hp)),_,t1,rfl⟩;have hx3n:=(zav hx3).symm.nodup H1.n;obtain ⟨u,s,v,es,hs⟩:=zqe ((hS _).mp hx3) hcm;have hsz:∀ g,g∈s ↔ g∈z:=λg=>(zav hs).mem_iff.trans (zav o2).mem_iff.symm;obtain ⟨δ,ye',eye⟩:=waI t4;have hδ : δ ∈ ye:=by rw[eye];exact wau
     have:=zqc (P:=y) (M:=ye) (N:=y2++ms.flatten) hx3n xws es hγ hδ (waR _ hβ) ((hsz γ).mpr ((hzy γ).mpr (.inl hγ))) ((hsz β).mpr ((hzy β).mpr (.inr (hw2 β hβ))));exact t3 δ hδ ((hsz δ).mp this)
    |true =>
     obtain ⟨p'',hp'',zz,mz,ez⟩:=zaH.mp hx2;have ord:=(ziY (f:=zay) (u:=[]) (v:=[]) hx2n (by rw[ez];simp) mz λt ht=>zfY (A1.ne t ((za5 hp'').mem_iff.mp ht))).1;have hevm:ev∈bs1:=pb ev (t2.mem_iff.mp xws);have ib:=zfr (a:=cm.flatten++w.reverse) (y:=y.reverse) (c:=zs.flatten) (g:=zay b) hx2n rfl (List.mem_reverse.mpr ((zav n2).mem_iff.mpr (zfY (A1.ne b hbm))));have id:=zfr (a:=cm.flatten) (y:=w.reverse) (c:=y.reverse++zs.flatten) (g:=zay d) hx2n xws (List.mem_reverse.mpr (hw2 _ ((zav nd).mem_iff.mpr (zfY (A1.ne d hdm)))));have hye:zay ev∈ye:=by
      cases t1 with
      |cons _ t=>cases t with
       |cons hh _=>exact (zav hh).mem_iff.mpr (zfY (A1.ne ev hevm))
     have hpp:p=bs1\/p=bs1.reverse:=by simpa [arr] using hp
     have hpp'':p''=bs1\/p''=bs1.reverse:=by simpa [arr] using hp''
     have hcase:p''=p\/p''=p.reverse:=by rcases hpp with h|h <;> rcases hpp'' with h'|h' <;> simp[h,h']
     rw[List.length_append] at ib;rcases hcase with h|h
     ·rw[h,ep,List.map_append,List.map_cons] at ord;have:=(zoU ord).2 _ (List.mem_map_of_mem (f:=λt=>((_:List Int).idxOf (zay t):Int)) (wau:d∈d::p3));lia
     ·have ord':(p.map λt=>(((cm.flatten++w.reverse++y.reverse++zs.flatten).idxOf (zay t):Nat):Int)).Pairwise (λa b=>b<a):=by rw[h,List.map_reverse,List.pairwise_reverse] at ord;exact ord
      rw[ep,List.map_append,List.map_cons] at ord';rcases t5 with ⟨k1,k2⟩|⟨k1,k2⟩
      ·have h1:=(zoU ord').1 _ (List.mem_map_of_mem (f:=λt=>(((cm.flatten++w.reverse++y.reverse++zs.flatten).idxOf (zay t):Nat):Int)) k1);have ie:=zfr (a:=[]) (y:=cm.flatten) (c:=w.reverse++y.reverse++zs.flatten) (g:=zay ev) hx2n xws (k2 _ hye);simp only[List.length_nil] at ie;have h1':(((cm.flatten++w.reverse++y.reverse++zs.flatten).idxOf (zay b):Nat):Int)<(((cm.flatten++w.reverse++y.reverse++zs.flatten).idxOf (zay ev):Nat):Int):=h1;lia
      ·have h1:=(zoU ord').2 _ (List.mem_map_of_mem (f:=λt=>(((cm.flatten++w.reverse++y.reverse++zs.flatten).idxOf (zay t):Nat):Int)) (show ev∈d::p3 by rw[ep3];simp[k1]));have ie:=zfr (a:=cm.flatten++w.reverse++y.reverse) (y:=zs.flatten) (c:=[]) (g:=zay ev) hx2n xws (k2 _ hye);simp only[wav] at ie ib;have h1':(((cm.flatten++w.reverse++y.reverse++zs.flatten).idxOf (zay ev):Nat):Int)<(((cm.flatten++w.reverse++y.reverse++zs.flatten).idxOf (zay b):Nat):Int):=h1;lia
 ·rw[e1] at n3;obtain ⟨p4,d,p5,ep2,n4,nd,n5⟩:=zb3 n3;have hdm:d∈bs1:=pb d (by rw[ep,ep2];simp);obtain ⟨u,s,v,es,hs⟩:=zqe hx2 hdm;have hsd:∀ g,g∈s ↔ g∈a++bb:=λg=>(zav hs).mem_iff.trans (zav nd).mem_iff.symm;obtain ⟨α,a',ea⟩:=waI e2;obtain ⟨β,b',eb⟩:=waI e3;have hα:α∈a:=by rw[ea];exact wau
  have hβ:β∈bb:=by rw[eb];exact wau
  have:=zqc (P:=cm.flatten++w.reverse) (M:=y.reverse) (N:=zs.flatten) hx2n rfl es (waz _ (List.mem_reverse.mpr (by rw[e4];exact waz _ hα))) (List.mem_reverse.mpr hγ) (by rw[e5];exact waR _ hβ) ((hsd α).mpr (waR _ hα)) ((hsd β).mpr (waz _ hβ));exact hdis γ hγ (by rw[e1,List.flatten_append,List.flatten_cons];exact waz _ (waR _ ((hsd γ).mp this)))
noncomputable def zcF(a b:Tr):Prop:=∀ x,x∈zan a ↔ x∈zan b
theorem zcF.symm{a b:Tr}(h:zcF a b):zcF b a:=λx=>(h x).symm
section
variable{r1 r2:Bool}{bs1 bs2:List Tr}
theorem zkV(H1:zbI (.nd r1 bs1))(H2:zbI (.nd r2 bs2))(hS:zcF (.nd r1 bs1) (.nd r2 bs2)){p q:List Tr}(hp:p∈arr r1 bs1)(hq:q∈arr r2 bs2) :
  ∀(ys zs cm:List (List Int)),Pr (cm++ys) p->Pr (cm++zs) q->(cm++ys).flatten=(cm++zs).flatten->ys=zs
 |[],[],_,_,_,_=>rfl
 |[],z::zs,cm,_,m2,e=>by
  exfalso;rw[List.append_nil,List.flatten_append] at e;have e2:(z::zs).flatten=[]:=by have:=congrArg List.length e;rw[List.length_append] at this;exact List.length_eq_zero_iff.mp xwl
  obtain ⟨q1,c,q2,rfl,_,h,_⟩:=zb3 m2;exact zma H2.kids.1 ((za5 hq).mem_iff.mp xws) h (List.append_eq_nil_iff.mp (by rw[List.flatten_cons] at e2;exact e2)).1
 |y::ys,[],cm,m1,_,e=>by
  exfalso;rw[List.append_nil,List.flatten_append] at e;have e2:(y::ys).flatten=[]:=by have:=congrArg List.length e;rw[List.length_append] at this;exact List.length_eq_zero_iff.mp xwl
  obtain ⟨q1,c,q2,rfl,_,h,_⟩:=zb3 m1;exact zma H1.kids.1 ((za5 hp).mem_iff.mp xws) h (List.append_eq_nil_iff.mp (by rw[List.flatten_cons] at e2;exact e2)).1
 |y::ys,z::zs,cm,m1,m2,e=>by
  have hl:y.length=z.length:=by
   rcases Nat.lt_trichotomy y.length z.length with h|h|h
   ·exact (zqb H1 H2 hS hp hq m1 m2 e h).elim
   ·exact h
   ·exact (zqb H2 H1 hS.symm hq hp m2 m1 e.symm h).elim
  have e':=e;rw[List.flatten_append,List.flatten_append,List.flatten_cons,List.flatten_cons] at e';have hyz:=(List.append_inj (List.append_cancel_left e') hl).1;subst hyz;rw[zkV H1 H2 hS hp hq ys zs (cm++[y]) (by rw[List.append_assoc];exact m1) (by rw[List.append_assoc];exact m2) (by rw[List.append_assoc,List.append_assoc];exact e)]
theorem zjJ(H1:zbI (.nd r1 bs1))(H2:zbI (.nd r2 bs2))(hS:zcF (.nd r1 bs1) (.nd r2 bs2)){p q:List Tr}(hp:p∈arr r1 bs1)(hq:q∈arr r2 bs2){ys zs:List (List Int)}(m1:Pr ys p)(m2:Pr zs q)(e:ys.flatten=zs.flatten):ys=zs:=zkV H1 H2 hS hp hq ys zs [] m1 m2 e
theorem zjU{bs:List Tr}(A:zgk bs){c c':Tr}{y:List Int}(hc:c∈bs)(hc':c'∈bs)(h:y.Perm (zac c))(h':y.Perm (zac c')):c=c':=by
 have hn:y≠[]:=λz=>A.ne c hc (by subst z;exact h.symm.eq_nil);obtain ⟨g,y',e⟩:=waI hn;have hg:g∈y:=by rw[e];exact wau
 exact zdL A.nd hc hc' (h.mem_iff.mp hg) (h'.mem_iff.mp hg)
theorem zpo(H1:zbI (.nd r1 bs1))(H2:zbI (.nd r2 bs2))(hS:zcF (.nd r1 bs1) (.nd r2 bs2)){p1 p2 q1 q2:List Tr}{b c:Tr}{l1 l2:List (List Int)}{y:List Int}(hp:p1++b::p2∈arr r1 bs1)(hq:q1++c::q2∈arr r2 bs2)
  (m1:Pr l1 p1) (m2:Pr l2 p2) (hb:y∈zan b) (hc:y∈zan c):∀ x∈zan b,x∈zan c:=λx hx=>by
 have hx':(l1++x::l2).flatten∈zan (.nd r1 bs1):=zaH.mpr ⟨_,hp,_,zaT m1 (.cons hx m2),rfl⟩;obtain ⟨q',hq',zs,mz,ez⟩:=zaH.mp ((hS _).mp hx');have:=zjJ H1 H2 hS hp hq' (zaT m1 (.cons hx m2)) mz ez.symm;subst this;obtain ⟨q3,c',q4,rfl,_,h,_⟩:=zb3 mz;have h1:c'∈bs2:=(za5 hq').mem_iff.mp xws;have h2:c∈bs2:=(za5 hq).mem_iff.mp xws;have:c=c':=zjU H2.kids.1 h2 h1 ((zav hx).trans ((zav hb).symm.trans (zav hc))) (zav h);rw[this];exact h
theorem zls(H1:zbI (.nd r1 bs1))(H2:zbI (.nd r2 bs2))(hS:zcF (.nd r1 bs1) (.nd r2 bs2)){p q:List Tr}(hp:p∈arr r1 bs1)(hq:q∈arr r2 bs2) :
  ∀(l2 l1:List (List Int))(p1 p2 q1 q2:List Tr),Pr l1 p1->Pr l1 q1->Pr l2 p2->Pr l2 q2->p=p1++p2->q=q1++q2->Paired zcF p2 q2
 |_,l1,p1,_,q1,_,a1,a2,.nil,.nil,_,_=>.nil
 |_,l1,p1,_,q1,_,a1,a2,.cons (l₁:=l2) (a:=y) (b:=b) (l₂:=p2) h t,.cons (b:=c) (l₂:=q2) h' t',ep,eq=>by refine .cons (λx=>⟨zpo H1 H2 hS (ep ▸ hp) (eq ▸ hq) a1 t h h' x,zpo H2 H1 hS.symm (eq ▸ hq) (ep ▸ hp) a2 t' h' h x⟩) ?_;exact zls H1 H2 hS hp hq l2 (l1++[y]) (p1++[b]) p2 (q1++[c]) q2 (zaT a1 (.cons h .nil)) (zaT a2 (.cons h' .nil)) t t' (by rw[ep];simp) (by rw[eq];simp)
theorem zsN{bs1 bs2:List Tr}(H1:zbI (.nd false bs1))(H2:zbI (.nd true bs2))(hS:zcF (.nd false bs1) (.nd true bs2)){p q:List Tr}(hp:p∈arr false bs1)(hq:q∈arr true bs2){ys:List (List Int)}(m1:Pr ys p)(m2:Pr ys q):False:=by
 obtain ⟨A2,_,L2⟩:=H2.kids;have hql:=(za5 hq).length_eq;simp only[if_true] at L2;have hqn:q.Nodup:=(za5 hq).symm.nodup (zcs A2);have qb:∀ t∈q,t∈bs2:=λt ht=>(za5 hq).mem_iff.mp ht;cases m2 with
 |nil=>simp at hql;lia
 |@cons y1 c1 ys q h1 t =>
  cases t with
  |nil=>simp at hql;lia
  |@cons y2 c2 ys q h2 t =>
   cases m1 with
   |@cons _ b1 _ p k1 s =>
    cases s with
    |@cons _ b2 _ p k2 s =>
     have hp4:b2::b1::p∈arr false bs1:=(zcx _ _ _ rfl).mpr ((List.Perm.swap _ _ _).trans (za5 hp));have m4:Pr (y2::y1::ys) (b2::b1::p):=.cons k2 (.cons k1 s);obtain ⟨q4,hq4,zs,mz,ez⟩:=zaH.mp ((hS _).mp (zaH.mpr ⟨_,hp4,_,m4,rfl⟩));have:=zjJ H1 H2 hS hp4 hq4 m4 mz ez.symm;subst this;have hq4n:q4.Nodup:=(za5 hq4).symm.nodup (zcs A2);have q4b:∀ t∈q4,t∈bs2:=λt ht=>(za5 hq4).mem_iff.mp ht;cases mz with
     |@cons _ d2 _ q5 f2 mz =>
      cases mz with
      |@cons _ d1 _ q5 f1 mz =>
       have e2:c2=d2:=zjU A2 (qb c2 xws) (q4b d2 xws) (zav h2) (zav f2);have e1:c1=d1:=zjU A2 (qb c1 xws) (q4b d1 xws) (zav h1) (zav f1);subst e1;subst e2;have a1:c1::c2::q=bs2\/c1::c2::q=bs2.reverse:=by simpa [arr] using hq
       have a2:c2::c1::q5=bs2\/c2::c1::q5=bs2.reverse:=by simpa [arr] using hq4
       have hcase:c2::c1::q5=c1::c2::q\/(c2::c1::q5).reverse=c1::c2::q:=by rcases a1 with a1|a1 <;> rcases a2 with a2|a2 <;> rw[a1,a2] <;> simp
       rcases hcase with hc|hc
       ·have:c2=c1:=(List.cons.inj hc).1;rw[List.nodup_cons] at hqn;exact hqn.1 (by rw[this];exact wau)
       ·have hc':q5.reverse++[c1,c2]=c1::c2::q:=by rw[<- hc];simp
        rw[List.nodup_cons,List.nodup_cons] at hq4n;cases hr:q5.reverse with
        |nil =>
         have h5:q5=[]:=by simpa using hr
         subst h5;have hl:=(za5 hq4).length_eq;simp only[wan,List.length_nil] at hl;lia
        |cons a r =>
         rw[hr] at hc';have:a=c1:=(List.cons.inj hc').1;exact hq4n.2.1 (List.mem_reverse.mp (by rw[hr,this];exact wau))
end
inductive Eqv:Tr->Tr->Prop
 |lf (g:Int):Eqv (.lf g) (.lf g)
 |nd {r:Bool} {bs cs p q:List Tr}:p∈arr r bs->q∈arr r cs->Paired Eqv p q->Eqv (.nd r bs) (.nd r cs)
theorem znp{g:Int}{r:Bool}{bs:List Tr}(H:zbI (.nd r bs))(h:zcF (.lf g) (.nd r bs)):False:=by have h1:=zav ((h [g]).mp (by rw[zan];exact wau));rw[zac] at h1;have h2:=zmv bs (wal _) (by have:=H.o;rw[okT,Bool.and_eq_true] at this;exact this.2);have h3:=H.kids.2.2;have:=h1.length_eq;simp only[wan,List.length_nil] at this;cases r <;> simp at h3 <;> lia
theorem zjh{n:Nat}(IH:∀ a b,dep a<=n->zbI a->zbI b->zcF a b->Eqv a b):∀{p q:List Tr},(∀ t∈p,dep t<=n/\zbI t)->(∀ t∈q,zbI t)->Paired zcF p q->Paired Eqv p q
 |_,_,_,_,.nil=>.nil
 |_,_,hp,hq,.cons h t=>.cons (IH _ _ (hp _ wau).1 (hp _ wau).2 (hq _ wau) h) (zjh IH (λt ht=>hp t (wah _ ht)) (λt ht=>hq t (wah _ ht)) t)
theorem zoP:∀(n:Nat)(t:Tr),dep t<=n->zan t≠[]
 |n,t,h,e=>by have:=zjL n t h;rw[e] at this;simp at this
theorem zsW:∀(n:Nat)(a b:Tr),dep a<=n->zbI a->zbI b->zcF a b->Eqv a b
 |0,a,_,h,_,_,_=>by cases a <;> simp[dep] at h
 |n+1,.lf g,.lf k,_,_,_,hS=>by have:=(hS [g]).mp (by rw[zan];exact wau);rw[zan,List.mem_singleton] at this;cases this;exact .lf g
 |n+1,.lf g,.nd r cs,_,_,H2,hS=>(znp H2 hS).elim
 |n+1,.nd r bs,.lf k,_,H1,_,hS=>(znp H1 hS.symm).elim
 |n+1,.nd r bs,.nd r' cs,hd,H1,H2,hS=>by
  simp only[dep] at hd;have hdd:=zaS.mp (by lia:zdi bs<=n);obtain ⟨x,hx⟩ : ∃ x,x∈zan (.nd r bs):=by
   cases e:zan (.nd r bs) with
   |nil =>
    exfalso;have:=H1.o;exact absurd e (zoP _ _ (wal _))
   |cons x l=>exact ⟨x,wau⟩
  obtain ⟨p,hp,ys,m1,e1⟩:=zaH.mp hx;obtain ⟨q,hq,zs,m2,e2⟩:=zaH.mp ((hS x).mp hx);have:=zjJ H1 H2 hS hp hq m1 m2 (e1.trans e2.symm);subst this;have hr:r=r':=by
   cases r <;> cases r'
   ·rfl
   ·exact (zsN H1 H2 hS hp hq m1 m2).elim
   ·exact (zsN H2 H1 hS.symm hq hp m2 m1).elim
   ·rfl
  subst hr;refine .nd hp hq (zjh (zsW n) (λt ht=>⟨hdd t ((za5 hp).mem_iff.mp ht),H1.kids.2.1 t ((za5 hp).mem_iff.mp ht)⟩) (λt ht=>H2.kids.2.1 t ((za5 hq).mem_iff.mp ht)) ?_);exact zls H1 H2 hS hp hq ys [] [] p [] q .nil .nil m1 m2 rfl rfl
section
variable{α:Type}{N A:α->Prop}
noncomputable def RLg(N A:α->Prop)(r:List α):Prop:=∃ u v,r=u++v/\(∀ g∈u,N g)/\∀ g∈v,A g
noncomputable def Ctg(N A:α->Prop)(r:List α):Prop:=∃ u v w,r=u++v++w/\(∀ g∈u,N g)/\(∀ g∈v,A g)/\∀ g∈w,N g
theorem zaI{P:α->Prop}{a b:List α}:(∀ g∈a++b,P g) ↔ (∀ g∈a,P g)/\∀ g∈b,P g:=List.forall_mem_append
theorem zbE{P:α->Prop}{a:List α}:(∀ g∈a.reverse,P g) ↔ ∀ g∈a,P g:=by simp
theorem zxl(dj:∀ g,N g->¬ A g){a:List α}(h1:∀ g∈a,N g)(h2:∀ g∈a,A g):a=[]:=by
 cases a with
 |nil=>rfl
 |cons g r=>exact absurd (h2 g wau) (dj g (h1 g wau))
theorem zww{a:List α}(h:∀ g∈a,N g):RLg N A a:=⟨a,[],xws,h,xws⟩
theorem zpL{a:List α}(h:∀ g∈a,A g):RLg N A a:=⟨[],a,rfl,xws,h⟩
theorem ziI(dj:∀ g,N g->¬ A g){x y z:List α}(hx:∀ g∈x,N g)(hy:¬ ∀ g∈y,N g):RLg N A (x++(y++z)) ↔ RLg N A y/\∀ g∈z,A g:=by
 constructor
 ·rintro ⟨u,v,e,hu,hv⟩;rcases List.append_eq_append_iff.mp e with ⟨a,rfl,e2⟩|⟨a,rfl,e2⟩
  ·rcases List.append_eq_append_iff.mp e2 with ⟨b,rfl,rfl⟩|⟨b,rfl,e4⟩
   ·exact absurd (zaI.mp (zaI.mp hu).2).1 hy
   ·rw[e4] at hv;exact ⟨⟨a,b,rfl,(zaI.mp hu).2,(zaI.mp hv).1⟩,(zaI.mp hv).2⟩
  ·rw[e2] at hv;have ha:=zxl dj (zaI.mp hx).2 (zaI.mp hv).1;subst ha;have:=zaI.mp (zaI.mp hv).2;exact ⟨zpL this.1,this.2⟩
 ·rintro ⟨⟨u,v,rfl,hu,hv⟩,hz⟩;exact ⟨x++u,v++z,xws,zaI.mpr ⟨hx,hu⟩,zaI.mpr ⟨hv,hz⟩⟩
theorem zjc(dj:∀ g,N g->¬ A g){x s:List α}(hx:∀ g∈x,N g)(hs:¬ ∀ g∈s,N g):Ctg N A (x++s) ↔ Ctg N A s:=by
 constructor
 ·rintro ⟨u,v,w,e,hu,hv,hw⟩;rw[List.append_assoc] at e;rcases List.append_eq_append_iff.mp e with ⟨a,rfl,rfl⟩|⟨a,rfl,e2⟩
  ·exact ⟨a,v,w,xws,(zaI.mp hu).2,hv,hw⟩
  ·rcases List.append_eq_append_iff.mp e2 with ⟨b,rfl,rfl⟩|⟨b,rfl,rfl⟩
   ·exact absurd (zaI.mp hw).2 hs
   ·exact ⟨[],b,w,xws,xws,(zaI.mp hv).2,hw⟩
 ·rintro ⟨u,v,w,rfl,hu,hv,hw⟩;exact ⟨x++u,v,w,xws,zaI.mpr ⟨hx,hu⟩,hv,hw⟩
theorem zke{y t:List α}(hy:¬ ∀ g∈y,N g)(ht:¬ ∀ g∈t,N g):Ctg N A (y++t) ↔ RLg N A y/\RLg N A t.reverse:=by
 constructor
 ·rintro ⟨u,v,w,e,hu,hv,hw⟩;rcases List.append_eq_append_iff.mp e with ⟨a,e1,e2⟩|⟨a,e1,e2⟩
  ·subst e2;have hr:RLg N A (a++w).reverse:=⟨w.reverse,a.reverse,xws,zbE.mpr hw,?_⟩
   ·refine ⟨?_,hr⟩;rcases List.append_eq_append_iff.mp e1 with ⟨b,rfl,rfl⟩|⟨b,rfl,rfl⟩
    ·exact ⟨u,b,rfl,hu,(zaI.mp hv).1⟩
    ·exact absurd (zaI.mp hu).1 hy
   ·rcases List.append_eq_append_iff.mp e1 with ⟨b,rfl,rfl⟩|⟨b,rfl,rfl⟩
    ·exact zbE.mpr (zaI.mp hv).2
    ·exact absurd (zaI.mp hu).1 hy
  ·subst e2;exact absurd (zaI.mp hw).2 ht
 ·rintro ⟨⟨u,v,rfl,hu,hv⟩,⟨a,b,e,ha,hb⟩⟩;have:t=b.reverse++a.reverse:=by rw[<- List.reverse_reverse t,e];simp
  subst this;exact ⟨u,v++b.reverse,a.reverse,xws,hu,zaI.mpr ⟨hv,zbE.mpr hb⟩,zbE.mpr ha⟩
end
noncomputable abbrev No(p r:List Int):Prop:=∀ g∈r,g∉p
noncomputable abbrev Al(p r:List Int):Prop:=∀ g∈r,g∈p
noncomputable abbrev RL(p r:List Int):Prop:=RLg (λg=>g∉p) (λg=>g∈p) r
noncomputable abbrev Ct(p r:List Int):Prop:=Ctg (λg=>g∉p) (λg=>g∈p) r
theorem ztn{p:List Int}:∀ g:Int,g∉p->¬ g∈p:=λ_ h=>h
variable{p:List Int}
noncomputable def sh(p:List Int)(t:Tr):Nat:=if ∀ g∈zac t,g∉p then 0 else if ∀ g∈zac t,g∈p then 2 else 1
theorem zmS{t:Tr}:sh p t=0 ↔ No p (zac t):=by
 unfold sh;split
 ·rename_i h;exact ⟨λ_=>h,λ_=>rfl⟩
 ·rename_i h;split
  ·exact ⟨λe=>(by cases e),λe=>absurd e h⟩
  ·exact ⟨λe=>(by cases e),λe=>absurd e h⟩
theorem ztf{t:Tr}(hne:zac t≠[]):sh p t=2 ↔ Al p (zac t):=by
 unfold sh;split
 ·rename_i h;exact ⟨λe=>(by cases e),λe=>absurd (zxl ztn h e) hne⟩
 ·split
  ·rename_i h;exact ⟨λ_=>h,λ_=>rfl⟩
  ·rename_i h;exact ⟨λe=>(by cases e),λe=>absurd e h⟩
theorem zjW(t:Tr):sh p t=0\/sh p t=1\/sh p t=2:=by
 unfold sh;split
 ·exact .inl rfl
 ·split
  ·exact .inr (.inr rfl)
  ·exact .inr (.inl rfl)
theorem zfP{t:Tr}{y:List Int}(h:y∈zan t):No p y ↔ sh p t=0:=by rw[zmS];have:=zav h;exact ⟨λq g hg=>q g (this.mem_iff.mpr hg),λq g hg=>q g (this.mem_iff.mp hg)⟩
theorem znG{t:Tr}{y:List Int}(hne:zac t≠[])(h:y∈zan t):Al p y ↔ sh p t=2:=by rw[ztf hne];have:=zav h;exact ⟨λq g hg=>q g (this.mem_iff.mpr hg),λq g hg=>q g (this.mem_iff.mp hg)⟩
theorem zkA{r:List Int}:zb0 r [] ↔ r=[]:=by
 constructor
 ·rintro ⟨ys,h,rfl⟩;cases h;rfl
 ·rintro rfl;exact ⟨[],.nil,rfl⟩
theorem zal{r:List Int}{l m:List Tr}:zb0 r (l++m) ↔ ∃ a b,r=a++b/\zb0 a l/\zb0 b m:=by
 constructor
 ·rintro ⟨ys,h,rfl⟩;have key:∀{l:List Tr}{ys:List (List Int)},Paired (λy t=>y∈zan t) ys (l++m)->∃ as bs,ys=as++bs/\Paired (λy t=>y∈zan t) as l/\Paired (λy t=>y∈zan t) bs m:=λ{l}=>by
   induction l with
   |nil=>intro ys h;exact ⟨[],ys,rfl,.nil,h⟩
   |cons t l ih =>
    intro ys h;cases h with
    |cons h1 h2 =>
     obtain ⟨as,bs,rfl,h3,h4⟩:=ih h2;exact ⟨_::as,bs,rfl,.cons h1 h3,h4⟩
  obtain ⟨as,bs,rfl,h1,h2⟩:=key h;exact ⟨as.flatten,bs.flatten,xws,⟨as,h1,rfl⟩,⟨bs,h2,rfl⟩⟩
 ·rintro ⟨a,b,rfl,⟨as,h1,rfl⟩,⟨bs,h2,rfl⟩⟩;exact ⟨as++bs,zaT h1 h2,xws⟩
theorem zdp{r:List Int}{t:Tr}:zb0 r [t] ↔ r∈zan t:=by
 constructor
 ·rintro ⟨ys,h,rfl⟩;cases h with|cons h1 h2=>cases h2;simpa using h1
 ·intro h;exact ⟨[r],.cons h .nil,xws⟩
theorem zaX{r:List Int}{t:Tr}{l:List Tr}:zb0 r (t::l) ↔ ∃ a b,r=a++b/\a∈zan t/\zb0 b l:=by rw[show t::l=[t]++l from rfl,zal];simp only[zdp]
theorem zfb{l:List Tr}:∀{r:List Int},zb0 r l.reverse ↔ zb0 r.reverse l:=λ{r}=>by
 have key:∀{l:List Tr}{r:List Int},zb0 r l->zb0 r.reverse l.reverse:=λ{l}=>by
  induction l with
  |nil=>intro r h;rw[zkA.mp h];exact zkA.mpr rfl
  |cons t l ih =>
   intro r h;obtain ⟨a,b,rfl,h1,h2⟩:=zaX.mp h;rw[List.reverse_cons,List.reverse_append];exact zal.mpr ⟨_,_,rfl,ih h2,zdp.mpr (zhc h1)⟩
 constructor
 ·intro h;have:=key h;rwa [List.reverse_reverse] at this
 ·intro h;have:=key h;rwa [List.reverse_reverse] at this
noncomputable def bun(l:List Tr):List Tr:=if l.length<2 then l else [.nd false l]
theorem zbR{l:List Tr}{r:List Int}:zb0 r (bun l) ↔ ∃ q,q.Perm l/\zb0 r q:=by
 unfold bun;split
 ·rename_i h;constructor
  ·intro q;exact ⟨l,.refl _,q⟩
  ·rintro ⟨q,hp,hm⟩;have:q=l:=by
    match l,h with
    |[],_=>exact hp.eq_nil
    |[a],_=>exact hp.eq_singleton
   rw[this] at hm;exact hm
 ·rw[zdp,zaH];constructor
  ·rintro ⟨q,hq,hm⟩;exact ⟨q,za5 hq,hm⟩
  ·rintro ⟨q,hq,hm⟩;refine ⟨q,?_,hm⟩;unfold arr;rw[if_neg xws];exact (zcx _ _ _ rfl).mpr hq
theorem zcg{l:List Tr}:∀{r:List Int},zb0 r l->(∀ x∈l,sh p x=0)->No p r:=λ{r} h hl=>by
 induction l generalizing r with
 |nil=>rw[zkA.mp h];exact λg hg=>by cases hg
 |cons t l ih =>
  obtain ⟨a,b,rfl,h1,h2⟩:=zaX.mp h;exact zaI.mpr ⟨(zfP h1).mpr (hl t wau),ih h2 λx hx=>hl x (wah _ hx)⟩
theorem zm6{l:List Tr}(hne:∀ x∈l,zac x≠[]):∀{r:List Int},zb0 r l->(Al p r ↔ ∀ x∈l,sh p x=2):=λ{r} h=>by
 induction l generalizing r with
 |nil=>rw[zkA.mp h];exact ⟨λ_ x hx=>(by cases hx),λ_ g hg=>by cases hg⟩
 |cons t l ih =>
  obtain ⟨a,b,rfl,h1,h2⟩:=zaX.mp h;have e1:=znG (p:=p) (hne t wau) h1;have e2:=ih (λx hx=>hne x (wah _ hx)) h2;rw[List.forall_mem_cons,<- e1,<- e2];exact zaI
variable{p:List Int}
noncomputable abbrev NA(p:List Int)(l:List Tr):Prop:=RLg (λx=>sh p x=0) (λx=>sh p x=2) l
noncomputable abbrev NAN(p:List Int)(l:List Tr):Prop:=Ctg (λx=>sh p x=0) (λx=>sh p x=2) l
theorem zwp:∀ x:Tr,sh p x=0->¬ sh p x=2:=λx h e=>by rw[h] at e;cases e
theorem zbH{t:Tr}(h:zbI t):zac t≠[]:=zb5 _ t (wal _) h.o
structure zcc(p:List Int)(t:Tr)(pc:List Tr):Prop where
 pure:∀ x∈pc,sh p x=0\/sh p x=2
 ok:∀ x∈pc,zbI x
 lv:(zad pc).Perm (zac t)
 yes:NA p pc->∀ r,zb0 r pc ↔ (r∈zan t/\RL p r)
 no:¬ NA p pc->∀ r∈zan t,¬ RL p r
theorem zcc.self{t:Tr}(h:zbI t)(hs:sh p t≠1):zcc p t [t]:=by
 have h02:sh p t=0\/sh p t=2:=by
  rcases zjW (p:=p) t with e|e|e
  ·exact .inl e
  ·exact absurd e hs
  ·exact .inr e
 have na:NA p [t]:=by
  rcases h02 with e|e
  ·exact zww λx hx=>by rw[List.mem_singleton.mp hx];exact e
  ·exact zpL λx hx=>by rw[List.mem_singleton.mp hx];exact e
 refine ⟨λx hx=>by rw[List.mem_singleton.mp hx];exact h02,λx hx=>by rw[List.mem_singleton.mp hx];exact h,by simp[zad],λ_ r=>?_,λn=>absurd na n⟩;rw[zdp];refine ⟨λhr=>⟨hr,?_⟩,λhr=>hr.1⟩;rcases h02 with e|e
 ·exact zww ((zfP hr).mpr e)
 ·exact zpL ((znG (zbH h) hr).mpr e)
theorem zcc.has{t:Tr}{pc:List Tr}(L:zcc p t pc)(h:sh p t≠0):¬ ∀ x∈pc,sh p x=0:=λz=>h (zmS.mpr λg hg=>by obtain ⟨x,hx,gx⟩:=zaN.mp (L.lv.mem_iff.mpr hg);exact zmS.mp (z x hx) g gx)
theorem zcc.all{t:Tr}{pc:List Tr}(L:zcc p t pc)(ht:zbI t)(h:∀ x∈pc,sh p x=2):sh p t=2:=(ztf (zbH ht)).mpr λg hg=>by obtain ⟨x,hx,gx⟩:=zaN.mp (L.lv.mem_iff.mpr hg);exact (ztf (zbH (L.ok x hx))).mp (h x hx) g gx
section
variable{f:Tr->List Tr}
structure LOK(p:List Int)(f:Tr->List Tr)(l:List Tr):Prop where
 lean:∀ x∈l,zcc p x (f x)
 one:∀ x∈l,sh p x≠1->f x=[x]
 ok:∀ x∈l,zbI x
theorem LOK.sub{l m:List Tr}(h:LOK p f l)(hs:∀ x∈m,x∈l):LOK p f m:=⟨λx hx=>h.lean x (hs x hx),λx hx=>h.one x (hs x hx),λx hx=>h.ok x (hs x hx)⟩
noncomputable abbrev rv(f:Tr->List Tr)(l:List Tr):List Tr:=l.flatMap λx=>(f x).reverse
theorem ztw{l:List Tr}(h:LOK p f l):(∀ y∈rv f l,sh p y=2) ↔ ∀ x∈l,sh p x=2:=by
 constructor
 ·intro q x hx;exact (h.lean x hx).all (h.ok x hx) λy hy=>q y (List.mem_flatMap.mpr ⟨x,hx,List.mem_reverse.mpr hy⟩)
 ·intro q y hy;obtain ⟨x,hx,hy'⟩:=List.mem_flatMap.mp hy;have e:=q x hx;rw[h.one x hx (by rw[e];decide)] at hy';rw[List.mem_singleton.mp hy'];exact e
theorem zmi{l:List Tr}(h:LOK p f l)(hq:∀ x∈l,sh p x≠1):rv f l=l:=by
 induction l with
 |nil=>rfl
 |cons x l ih =>
  show (f x).reverse++rv f l=_;rw[h.one x List.mem_cons_self (hq x List.mem_cons_self),ih (h.sub λy hy=>List.mem_cons_of_mem _ hy) λy hy=>hq y (List.mem_cons_of_mem _ hy)];rfl
theorem zr0{A B:List Tr}{b:Tr}(hA:∀ x∈A,sh p x=0)(hb:sh p b≠0)(Lb:zcc p b (f b))(LB:LOK p f B) :
  (NA p (A++(f b++rv f B))->∀ r,zb0 r (A++(f b++rv f B)) ↔ zb0 r (A++b::B)/\RL p r)/\(¬ NA p (A++(f b++rv f B))->∀ r,zb0 r (A++b::B)->¬ RL p r):=by
 have key:NA p (A++(f b++rv f B)) ↔ NA p (f b)/\∀ x∈B,sh p x=2:=by rw[NA,ziI zwp hA (Lb.has hb),ztw LB]
 have word:∀{a c d:List Int},zb0 a A->c∈zan b->zb0 d B->(RL p (a++(c++d)) ↔ RL p c/\∀ x∈B,sh p x=2):=λ{a c d} h1 h2 h3=>by rw[RL,ziI ztn (zcg h1 hA) λz=>hb ((zfP h2).mp z)];exact and_congr_right λ_=>zm6 (λx hx=>zbH (LB.ok x hx)) h3
 constructor
 ·intro na r;obtain ⟨n1,n2⟩:=key.mp na;rw[zmi LB λx hx=>by rw[n2 x hx];decide];constructor
  ·intro h;obtain ⟨a,r2,rfl,h1,h2⟩:=zal.mp h;obtain ⟨c,d,rfl,h3,h4⟩:=zal.mp h2;obtain ⟨h5,h6⟩:=(Lb.yes n1 c).mp h3;exact ⟨zal.mpr ⟨a,_,rfl,h1,zaX.mpr ⟨c,d,rfl,h5,h4⟩⟩,(word h1 h5 h4).mpr ⟨h6,n2⟩⟩
  ·rintro ⟨h,hr⟩;obtain ⟨a,r2,rfl,h1,h2⟩:=zal.mp h;obtain ⟨c,d,rfl,h3,h4⟩:=zaX.mp h2;exact zal.mpr ⟨a,_,rfl,h1,zal.mpr ⟨c,d,rfl,(Lb.yes n1 c).mpr ⟨h3,((word h1 h3 h4).mp hr).1⟩,h4⟩⟩
 ·intro na r h hr;obtain ⟨a,r2,rfl,h1,h2⟩:=zal.mp h;obtain ⟨c,d,rfl,h3,h4⟩:=zaX.mp h2;obtain ⟨q1,q2⟩:=(word h1 h3 h4).mp hr;refine na (key.mpr ⟨Classical.byContradiction λz=>Lb.no z c h3 q1,q2⟩)
theorem zgS{t:Tr}{y:List Int}:y.reverse∈zan t ↔ y∈zan t:=⟨λh=>by have:=zhc h;rwa [List.reverse_reverse] at this,zhc⟩
theorem zoN{A M Zq:List Tr}{b c:Tr}(hA:∀ x∈A,sh p x=0)(hb:sh p b≠0)(hc:sh p c≠0)(hZ:∀ x∈Zq,sh p x=0)(hM:∀ x∈M,zbI x){a y m z w:List Int}(h1:zb0 a A)(h2:y∈zan b)(h3:zb0 m M)(h4:z∈zan c)(h5:zb0 w Zq):Ct p (a++(y++(m++(z++w)))) ↔ RL p y/\RL p z.reverse/\∀ x∈M,sh p x=2:=by have hy:¬ No p y:=λq=>hb ((zfP h2).mp q);have hz:¬ No p z:=λq=>hc ((zfP h4).mp q);rw[Ct,zjc ztn (zcg h1 hA) (λq=>hy (zaI.mp q).1),zke hy (λq=>hz (zaI.mp (zaI.mp q).2).1)];refine and_congr_right λ_=>?_;rw[show (m++(z++w)).reverse=w.reverse++(z.reverse++m.reverse) by simp,ziI ztn (zbE.mpr (zcg h5 hZ)) (λq=>hz (zbE.mp q)),zbE];exact and_congr_right λ_=>zm6 (λx hx=>zbH (hM x hx)) h3
theorem zpP{A M Zq:List Tr}{b c:Tr}(hA:∀ x∈A,sh p x=0)(hb:sh p b≠0)(hc:sh p c≠0)(hZ:∀ x∈Zq,sh p x=0)(Lb:zcc p b (f b))(Lc:zcc p c (f c))(LM:LOK p f M) :
  (NAN p (A++(f b++(rv f M++((f c).reverse++Zq))))->∀ r,zb0 r (A++(f b++(rv f M++((f c).reverse++Zq)))) ↔ zb0 r (A++b::(M++c::Zq))/\Ct p r) /\
  (¬ NAN p (A++(f b++(rv f M++((f c).reverse++Zq))))->∀ r,zb0 r (A++b::(M++c::Zq))->¬ Ct p r):=by
 have hasC:¬ ∀ x∈rv f M++((f c).reverse++Zq),sh p x=0:=λz=>Lc.has hc (zbE.mp (zaI.mp (zaI.mp z).2).1);have key:NAN p (A++(f b++(rv f M++((f c).reverse++Zq)))) ↔ NA p (f b)/\NA p (f c)/\∀ x∈M,sh p x=2:=by rw[NAN,zjc zwp hA (λz=>Lb.has hb (zaI.mp z).1),zke (Lb.has hb) hasC];refine and_congr_right λ_=>?_;rw[show (rv f M++((f c).reverse++Zq)).reverse=Zq.reverse++(f c++(rv f M).reverse) by simp,ziI zwp (zbE.mpr hZ) (Lc.has hc),zbE,ztw LM]
 have word:∀{a y m z w:List Int},zb0 a A->y∈zan b->zb0 m M->z∈zan c->zb0 w Zq->(Ct p (a++(y++(m++(z++w)))) ↔ RL p y/\RL p z.reverse/\∀ x∈M,sh p x=2):=λh1 h2 h3 h4 h5=>zoN hA hb hc hZ LM.ok h1 h2 h3 h4 h5;constructor
 ·intro na r;obtain ⟨n1,n2,n3⟩:=key.mp na;rw[zmi LM λx hx=>by rw[n3 x hx];decide];constructor
  ·intro h;obtain ⟨a,r2,rfl,h1,h2⟩:=zal.mp h;obtain ⟨y,r3,rfl,h3,h4⟩:=zal.mp h2;obtain ⟨m,r4,rfl,h5,h6⟩:=zal.mp h4;obtain ⟨z,w,rfl,h7,h8⟩:=zal.mp h6;obtain ⟨q1,q2⟩:=(Lb.yes n1 y).mp h3;obtain ⟨q3,q4⟩:=(Lc.yes n2 _).mp (zfb.mp h7);have q3':=zgS.mp q3;exact ⟨zal.mpr ⟨a,_,rfl,h1,zaX.mpr ⟨y,_,rfl,q1,zal.mpr ⟨m,_,rfl,h5,zaX.mpr ⟨z,w,rfl,q3',h8⟩⟩⟩⟩,(word h1 q1 h5 q3' h8).mpr ⟨q2,q4,n3⟩⟩
  ·rintro ⟨h,hr⟩;obtain ⟨a,r2,rfl,h1,h2⟩:=zal.mp h;obtain ⟨y,r3,rfl,h3,h4⟩:=zaX.mp h2;obtain ⟨m,r4,rfl,h5,h6⟩:=zal.mp h4;obtain ⟨z,w,rfl,h7,h8⟩:=zaX.mp h6;obtain ⟨q1,q2,_⟩:=(word h1 h3 h5 h7 h8).mp hr;exact zal.mpr ⟨a,_,rfl,h1,zal.mpr ⟨y,_,rfl,(Lb.yes n1 y).mpr ⟨h3,q1⟩,zal.mpr ⟨m,_,rfl,h5,zal.mpr ⟨z,w,rfl,zfb.mpr ((Lc.yes n2 _).mpr ⟨zgS.mpr h7,q2⟩),h8⟩⟩⟩⟩
 ·intro na r h hr;obtain ⟨a,r2,rfl,h1,h2⟩:=zal.mp h;obtain ⟨y,r3,rfl,h3,h4⟩:=zaX.mp h2;obtain ⟨m,r4,rfl,h5,h6⟩:=zal.mp h4;obtain ⟨z,w,rfl,h7,h8⟩:=zaX.mp h6;obtain ⟨q1,q2,q3⟩:=(word h1 h3 h5 h7 h8).mp hr;refine na (key.mpr ⟨Classical.byContradiction λe=>Lb.no e y h3 q1,Classical.byContradiction λe=>Lc.no e _ (zgS.mpr h7) q2,q3⟩)
end
variable{p:List Int}
section
variable{f:Tr->List Tr}
noncomputable def zbc(f:Tr->List Tr)(p:List Int):List Tr->List Tr->List Tr
 |acc,[]=>acc
 |acc,b::os=>zbc f p (acc++(if (acc.any λx=>sh p x == 2)=true then (f b).reverse else f b)) os
theorem zkC:∀(os acc:List Tr),(acc.any λx=>sh p x == 2)=true->zbc f p acc os=acc++rv f os
 |[],acc,_=>by simp[zbc,rv]
 |b::os,acc,h=>by rw[zbc,if_pos h,zkC os _ (by rw[List.any_append,h];rfl)];simp[rv]
theorem zlf:∀(A os acc:List Tr),(∀ x∈A,sh p x=0)->(∀ x∈A,f x=[x])->(∀ x∈acc,sh p x=0)->zbc f p acc (A++os)=zbc f p (acc++A) os
 |[],os,acc,_,_,_=>by simp
 |a::A,os,acc,h1,h2,h3=>by
  have hn:¬ (acc.any λx=>sh p x == 2)=true:=λz=>by obtain ⟨x,hx,e⟩:=List.any_eq_true.mp z;rw[h3 x hx] at e;cases e
  rw[List.cons_append,zbc,if_neg hn,h2 a List.mem_cons_self,zlf A os _ (λx hx=>h1 x (List.mem_cons_of_mem _ hx)) (λx hx=>h2 x (List.mem_cons_of_mem _ hx)) λx hx=>by
   rcases List.mem_append.mp hx with z|z
   ·exact h3 x z
   ·rw[List.mem_singleton.mp z];exact h1 a wau]
  simp
theorem zmD{A B:List Tr}{b:Tr}(hA:∀ x∈A,sh p x=0)(hb:sh p b≠0)(L:LOK p f (A++b::B)):zbc f p [] (A++b::B)=A++(f b++rv f B):=by
 have Lb:=L.lean b xws;rw[zlf A _ [] hA (λx hx=>L.one x (by simp[hx]) (by rw[hA x hx];decide)) xws,List.nil_append,zbc];have hn:¬ (A.any λx=>sh p x == 2)=true:=λz=>by obtain ⟨x,hx,e⟩:=List.any_eq_true.mp z;rw[hA x hx] at e;cases e
 rw[if_neg hn,zkC,List.append_assoc];rw[List.any_append,Bool.or_eq_true];refine .inr ?_;refine Classical.byContradiction λz=>Lb.has hb λx hx=>?_;rcases Lb.pure x hx with e|e
 ·exact e
 ·exact absurd (List.any_eq_true.mpr ⟨x,hx,by rw[e];rfl⟩) z
end
theorem zc7:∀{os:List Tr},(¬ ∀ x∈os,sh p x=0)->∃ A b B,os=A++b::B/\(∀ x∈A,sh p x=0)/\sh p b≠0
 |[],h=>absurd xws h
 |x::os,h=>by
  by_cases hx:sh p x=0
  ·obtain ⟨A,b,B,rfl,h1,h2⟩:=zc7 (os:=os) λz=>h λy hy=>by
    rcases wap.mp hy with rfl|hy
    ·exact hx
    ·exact z y hy
   exact ⟨x::A,b,B,rfl,λy hy=>by
    rcases wap.mp hy with rfl|hy
    ·exact hx
    ·exact h1 y hy,h2⟩
  ·exact ⟨[],x,os,rfl,xws,hx⟩
theorem zmU{os:List Tr}(h:¬ ∀ x∈os,sh p x=0):∃ M c Zq,os=M++c::Zq/\(∀ x∈Zq,sh p x=0)/\sh p c≠0:=by obtain ⟨A,b,B,e,h1,h2⟩:=zc7 (os:=os.reverse) λz=>h (zbE.mp z);refine ⟨B.reverse,b,A.reverse,?_,zbE.mpr h1,h2⟩;rw[<- List.reverse_reverse os,e];simp
theorem zqW{A B:List Tr}{b:Tr}{r:List Int}(hA:∀ x∈A,sh p x=0)(hb:sh p b≠0)(hB:∀ x∈B,zbI x)(h:zb0 r (A++b::B))(hr:RL p r):∀ x∈B,sh p x=2:=by obtain ⟨a,r2,rfl,h1,h2⟩:=zal.mp h;obtain ⟨c,d,rfl,h3,h4⟩:=zaX.mp h2;exact (zm6 (λx hx=>zbH (hB x hx)) h4).mp ((ziI ztn (zcg h1 hA) λz=>hb ((zfP h3).mp z)).mp hr).2
noncomputable abbrev ws(p:List Int)(k:Nat)(l:List Tr):List Tr:=l.filter λb=>sh p b == k
theorem zcC{k:Nat}{l:List Tr}{x:Tr}:x∈ws p k l ↔ x∈l/\sh p x=k:=by rw[List.mem_filter,beq_iff_eq]
theorem zc9:∀ bs:List Tr,(ws p 0 bs++(ws p 1 bs++ws p 2 bs)).Perm bs
 |[]=>.refl _
 |b::bs=>by
  have ih:=zc9 bs;have c:∀ k,ws p k (b::bs)=if sh p b=k then b::ws p k bs else ws p k bs:=λk=>by
   show List.filter _ (b::bs)=_;rw[List.filter_cons];by_cases h:sh p b=k
   ·rw[if_pos (by simpa using h),if_pos h]
   ·rw[if_neg (by simpa using h),if_neg h]
  rw[c,c,c];rcases zjW (p:=p) b with e|e|e
  ·rw[e,if_pos rfl,if_neg xwd,if_neg xwd];exact .cons b ih
  ·rw[e,if_neg xwd,if_pos rfl,if_neg xwd];exact List.perm_middle.trans (.cons b ih)
  ·rw[e,if_neg xwd,if_neg xwd,if_pos rfl];refine (List.Perm.append_left _ List.perm_middle).trans (List.perm_middle.trans (.cons b ih))
noncomputable def zbr(p:List Int)(r:Bool)(bs:List Tr):List Tr :=
 if r=true then (if sh p (bs.headD (.lf 0)) > sh p (bs.getLastD (.lf 0)) then bs.reverse else bs) else bun (ws p 0 bs)++(ws p 1 bs++bun (ws p 2 bs))
theorem zl9{os:List Tr}{r:List Int}(hl:2<=os.length)(ho:∀ x∈os,zbI x)(hle:¬ sh p (os.headD (.lf 0)) > sh p (os.getLastD (.lf 0)))(hn:¬ ∀ x∈os,sh p x=0)(h2:¬ ∀ x∈os,sh p x=2)(h:zb0 r os.reverse)(hr:RL p r):False:=by
 obtain ⟨A,b,B,e,hA,hb⟩:=zc7 (os:=os.reverse) λz=>hn (zbE.mp z);rw[e] at h;have hB:=zqW hA hb (λx hx=>ho x (List.mem_reverse.mp (by rw[e];simp[hx]))) h hr;have e':os=B.reverse++b::A.reverse:=by rw[<- List.reverse_reverse os,e];simp
 subst e';cases A with
 |cons a A =>
  have e1:(B.reverse++b::(a::A).reverse).getLastD (.lf 0)=a:=by
   have:B.reverse++b::(a::A).reverse=(B.reverse++b::A.reverse)++[a]:=by simp
   rw[this,List.getLastD_eq_getLast?,List.getLast?_append];rfl
  rw[e1,hA a List.mem_cons_self] at hle;cases hB':B.reverse with
  |nil =>
   rw[hB'] at hle;have:sh p b > 0:=Nat.pos_of_ne_zero hb;exact hle this
  |cons c C =>
   rw[hB'] at hle;have hc:=hB c (List.mem_reverse.mp (by rw[hB'];simp));have:sh p c > 0:=by rw[hc];decide
   exact hle this
 |nil =>
  have e1:(B.reverse++b::([]:List Tr).reverse).getLastD (.lf 0)=b:=by simp
  rw[e1] at hle;cases hB':B.reverse with
  |nil=>rw[hB'] at hl;simp at hl
  |cons c C =>
   rw[hB'] at hle;have hc:=hB c (List.mem_reverse.mp (by rw[hB'];simp));have hb2:sh p b=2:=by have:¬ sh p c > sh p b:=hle;rcases zjW (p:=p) b with z|z|z <;> omega
   refine h2 λx hx=>?_;rcases wax.mp hx with z|z
   ·exact hB x (List.mem_reverse.mp z)
   ·simp at z;rw[z];exact hb2
theorem zwi{r:Bool}{bs:List Tr}(H:zbI (.nd r bs))(hs:sh p (.nd r bs)=1)(x:List Int):(x∈zan (.nd r bs)/\RL p x) ↔ (zb0 x (zbr p r bs)/\RL p x):=by
 obtain ⟨Ap,hk,hlen⟩:=H.kids;have hn:¬ ∀ y∈bs,sh p y=0:=λz=>by
  have:sh p (.nd r bs)=0:=zmS.mpr λg hg=>by rw[zac] at hg;obtain ⟨y,hy,gy⟩:=zaN.mp hg;exact zmS.mp (z y hy) g gy
  rw[this] at hs;cases hs
 have h2:¬ ∀ y∈bs,sh p y=2:=λz=>by
  have:sh p (.nd r bs)=2:=(ztf (zbH H)).mpr λg hg=>by rw[zac] at hg;obtain ⟨y,hy,gy⟩:=zaN.mp hg;exact (ztf (zbH (hk y hy))).mp (z y hy) g gy
  rw[this] at hs;cases hs
 refine and_congr_left λhr=>?_;cases r with
 |true =>
  have hl:2<=bs.length:=by simp at hlen;omega
  have mem:x∈zan (.nd true bs) ↔ zb0 x bs\/zb0 x bs.reverse:=by rw[zaH];unfold arr;rw[if_pos rfl];simp
  rw[mem];unfold zbr;rw[if_pos rfl];by_cases c:sh p (bs.headD (.lf 0)) > sh p (bs.getLastD (.lf 0))
  ·rw[if_pos c];refine ⟨λh=>h.elim (λz=>?_) id,.inr⟩;refine (zl9 (os:=bs.reverse) (by simpa using hl) (λy hy=>hk y (List.mem_reverse.mp hy)) ?_ (λq=>hn (zbE.mp q)) (λq=>h2 (zbE.mp q)) (by rw[List.reverse_reverse];exact z) hr).elim;have e1:bs.reverse.headD (.lf 0)=bs.getLastD (.lf 0):=by simp[List.headD_eq_head?_getD,List.getLastD_eq_getLast?]
   have e2:bs.reverse.getLastD (.lf 0)=bs.headD (.lf 0):=by simp[List.headD_eq_head?_getD,List.getLastD_eq_getLast?]
   rw[e1,e2];omega
  ·rw[if_neg c];exact ⟨λh=>h.elim id λz=>(zl9 hl hk c hn h2 z hr).elim,.inl⟩
 |false =>
  have mem:x∈zan (.nd false bs) ↔ ∃ q,q.Perm bs/\zb0 x q:=by rw[zaH];unfold arr;rw[if_neg xws];exact ⟨λ⟨q,h1,h2⟩=>⟨q,(zcx _ _ _ rfl).mp h1,h2⟩,λ⟨q,h1,h2⟩=>⟨q,(zcx _ _ _ rfl).mpr h1,h2⟩⟩
  rw[mem];unfold zbr;rw[if_neg xws];constructor
  ·rintro ⟨q,hq,hm⟩;obtain ⟨A,b,B,rfl,hA,hb⟩:=zc7 (os:=q) λz=>hn λy hy=>z y (hq.mem_iff.mpr hy);have hB:=zqW hA hb (λy hy=>hk y (hq.mem_iff.mp (by simp[hy]))) hm hr;have flt:∀ k,(ws p k (A++b::B)).Perm (ws p k bs):=λk=>hq.filter _;have wA:∀ k,ws p k A=if k=0 then A else []:=λk=>by
    by_cases h:k=0
    ·rw[if_pos h];exact List.filter_eq_self.mpr λy hy=>by rw[hA y hy,h];rfl
    ·rw[if_neg h];exact List.filter_eq_nil_iff.mpr λy hy=>by rw[hA y hy];simpa using λz=>h z.symm
   have wB:∀ k,ws p k B=if k=2 then B else []:=λk=>by
    by_cases h:k=2
    ·rw[if_pos h];exact List.filter_eq_self.mpr λy hy=>by rw[hB y hy,h];rfl
    ·rw[if_neg h];exact List.filter_eq_nil_iff.mpr λy hy=>by rw[hB y hy];simpa using λz=>h z.symm
   have wq:∀ k,ws p k (A++b::B)=ws p k A++((if sh p b=k then [b] else [])++ws p k B):=λk=>by
    show List.filter _ _=_;rw[List.filter_append,List.filter_cons];by_cases h:sh p b=k
    ·rw[if_pos (by simpa using h),if_pos h];rfl
    ·rw[if_neg (by simpa using h),if_neg h];rfl
   have f0:=flt 0;have f1:=flt 1;have f2:=flt 2;rw[wq,wA,wB] at f0 f1 f2;obtain ⟨a,r2,rfl,m1,m2⟩:=zal.mp hm;obtain ⟨c,d,rfl,m3,m4⟩:=zaX.mp m2;rcases zjW (p:=p) b with z|z|z
   ·exact absurd z hb
   ·simp[z] at f0 f1 f2;refine zal.mpr ⟨a,_,rfl,zbR.mpr ⟨A,f0,m1⟩,zal.mpr ⟨c,d,rfl,?_,zbR.mpr ⟨B,f2,m4⟩⟩⟩;rw[<- f1];exact zdp.mpr m3
   ·simp[z] at f0 f1 f2;refine zal.mpr ⟨a,_,rfl,zbR.mpr ⟨A,f0,m1⟩,zal.mpr ⟨[],c++d,rfl,?_,zbR.mpr ⟨b::B,f2,m2⟩⟩⟩;have e:ws p 1 bs=[]:=by first|exact f1|exact List.filter_eq_nil_iff.mpr λy hy q=>f1 y hy (by simpa using q)
    rw[e];exact zkA.mpr rfl
  ·intro hm;obtain ⟨a,r2,rfl,m1,m2⟩:=zal.mp hm;obtain ⟨c,d,rfl,m3,m4⟩:=zal.mp m2;obtain ⟨q0,p0,m5⟩:=zbR.mp m1;obtain ⟨q2,p2,m6⟩:=zbR.mp m4;exact ⟨q0++(ws p 1 bs++q2),(p0.append (List.Perm.append_left _ p2)).trans (zc9 bs),zal.mpr ⟨a,_,rfl,m5,zal.mpr ⟨c,d,rfl,m3,m6⟩⟩⟩
variable{p:List Int}
theorem zbh(a b:List Tr):zad (a++b)=zad a++zad b:=by rw[zaF,zaF,zaF,List.flatMap_append]
theorem zpA(t:Tr):zad [t]=zac t:=by simp[zad]
theorem zh8(l:List Tr):zad (bun l)=zad l:=by
 unfold bun;split
 ·rfl
 ·rw[zpA];rfl
theorem zjq{r:Bool}{l:List Tr}(h1:(if r then 3 else 2)<=l.length)(h2:∀ x∈l,zbI x)(h3:(zad l).Nodup):zbI (.nd r l):=by refine ⟨?_,h3⟩;rw[okT,Bool.and_eq_true,decide_eq_true_eq,zcR,List.all_eq_true];exact ⟨h1,λx hx=>(h2 x hx).o⟩
theorem zpz{l:List Tr}(h2:∀ x∈l,zbI x)(h3:(zad l).Nodup):∀ x∈bun l,zbI x:=λx hx=>by
 unfold bun at hx;split at hx
 ·exact h2 x hx
 ·rename_i h;rw[List.mem_singleton.mp hx];exact zjq (Nat.le_of_not_lt h) h2 h3
theorem zmT{l:List Tr}{k:Nat}(h2:∀ x∈l,zbI x)(hk:k=0\/k=2)(h:∀ x∈l,sh p x=k):∀ x∈bun l,sh p x=k:=λx hx=>by
 unfold bun at hx;split at hx
 ·exact h x hx
 ·rename_i hl;rw[List.mem_singleton.mp hx];have e:zac (.nd false l)=zad l:=rfl;rcases hk with rfl|rfl
  ·rw[zmS,e];intro g hg;obtain ⟨t,ht,hg⟩:=zaN.mp hg;exact zmS.mp (h t ht) g hg
  ·rw[ztf,e]
   ·intro g hg;obtain ⟨t,ht,hg⟩:=zaN.mp hg;exact (ztf (zbH (h2 t ht))).mp (h t ht) g hg
   ·rw[e]
    match l,hl with
    |[],hl=>exact absurd xwd hl
    |a::l,_ =>
     intro z;rw[show zad (a::l)=zac a++zad l from rfl,List.append_eq_nil_iff] at z;exact zbH (h2 a wau) z.1
theorem zhZ{k:Nat}{l:List Tr}(h2:∀ x∈l,zbI x):∀ x∈ws p k l,zbI x:=λx hx=>h2 x (zcC.mp hx).1
theorem zvm{l m:List Tr}(h:l.Sublist m):(zad l).Sublist (zad m):=by
 rw[zaF,zaF]
 induction h with
 |slnil=>exact .slnil
 |cons a h ih=>rw[List.flatMap_cons];exact ih.trans (List.sublist_append_right _ _)
 |cons_cons a h ih=>rw[List.flatMap_cons,List.flatMap_cons];exact (List.Sublist.refl _).append ih
theorem zwG{k:Nat}{l:List Tr}(h:(zad l).Nodup):(zad (ws p k l)).Nodup:=(zvm List.filter_sublist).nodup h
theorem zta{r:Bool}{bs:List Tr}:(zad (zbr p r bs)).Perm (zad bs):=by
 unfold zbr;split
 ·split
  ·exact zbp (List.reverse_perm bs)
  ·exact .refl _
 ·rw[zbh,zbh,zh8,zh8,<- zbh,<- zbh];exact zbp (zc9 bs)
theorem zhf{r:Bool}{bs:List Tr}(h2:∀ x∈bs,zbI x)(h3:(zad bs).Nodup){x:Tr}(hx:x∈zbr p r bs):zbI x/\(sh p x≠1\/x∈bs):=by
 unfold zbr at hx;split at hx
 ·have:x∈bs:=by
   split at hx
   ·exact List.mem_reverse.mp hx
   ·exact hx
  exact ⟨h2 x this,.inr this⟩
 ·have B:∀ k,k=0\/k=2->x∈bun (ws p k bs)->zbI x/\(sh p x≠1\/x∈bs):=λk hk hx=>by refine ⟨zpz (zhZ h2) (zwG h3) x hx,.inl ?_⟩;rw[zmT (zhZ h2) hk (λy hy=>(zcC.mp hy).2) x hx];rcases hk with rfl|rfl <;> decide
  rcases wax.mp hx with hx|hx
  ·exact B 0 (.inl rfl) hx
  ·rcases wax.mp hx with hx|hx
   ·exact ⟨h2 x (zcC.mp hx).1,.inr (zcC.mp hx).1⟩
   ·exact B 2 (.inr rfl) hx
theorem zvV{f:Tr->List Tr}:∀{l:List Tr},(∀ x∈l,zcc p x (f x))->(zad (rv f l)).Perm (zad l)
 |[],_=>.refl _
 |x::l,h=>by show (zad ((f x).reverse++rv f l)).Perm (zac x++zad l);rw[zbh];exact ((zbp (List.reverse_perm _)).trans (h x wau).lv).append (zvV λy hy=>h y (wah _ hy))
noncomputable def ordT(p:List Int):Tr->List Tr
 |.lf g=>[.lf g]
 |.nd r bs=>zbr p r bs
noncomputable def zcj:Nat->List Int->Tr->List Tr
 |0,_,t=>[t]
 |n+1,p,t=>if sh p t=1 then zbc (zcj n p) p [] (ordT p t) else [t]
theorem zdx{n:Nat}{t:Tr}(h:sh p t≠1):zcj n p t=[t]:=by
 cases n with
 |zero=>rfl
 |succ n=>rw[zcj,if_neg h]
theorem zrL{g:Int}:sh p (.lf g)≠1:=λz=>by
 unfold sh at z;split at z
 ·cases z
 ·rename_i h;split at z
  ·cases z
  ·rename_i h';simp[zac] at h h';exact h' h
theorem zw9{t:Tr}(h:sh p t=1):sh p t≠0/\sh p t≠2:=by rw[h];decide
theorem zgV{t:Tr}{l:List Tr}(h:(zad l).Perm (zac t))(hs:sh p t≠0):¬ ∀ x∈l,sh p x=0:=λz=>hs (zmS.mpr λg hg=>by obtain ⟨x,hx,gx⟩:=zaN.mp (h.mem_iff.mpr hg);exact zmS.mp (z x hx) g gx)
theorem ztt{f:Tr->List Tr}{P:Tr->Prop}{A B:List Tr}{b:Tr}(hA:∀ x∈A,P x)(hb:∀ x∈f b,P x)(hB:∀ y∈B,∀ x∈f y,P x):∀ x∈A++(f b++rv f B),P x:=by refine zaI.mpr ⟨hA,zaI.mpr ⟨hb,λx hx=>?_⟩⟩;obtain ⟨y,hy,hx⟩:=List.mem_flatMap.mp hx;exact hB y hy x (List.mem_reverse.mp hx)
theorem zsH{f:Tr->List Tr}{A B:List Tr}{b:Tr}(hA:∀ x∈A,sh p x=0)(L:LOK p f (A++b::B)) :
  (∀ x∈A++(f b++rv f B),sh p x=0\/sh p x=2)/\(∀ x∈A++(f b++rv f B),zbI x)/\(zad (A++(f b++rv f B))).Perm (zad (A++b::B)):=by
 have Lb:=L.lean b xws;have LB:∀ x∈B,zcc p x (f x):=λx hx=>L.lean x (by simp[hx]);refine ⟨ztt (λx hx=>.inl (hA x hx)) Lb.pure λy hy=>(LB y hy).pure,ztt (λx hx=>L.ok x (by simp[hx])) Lb.ok λy hy=>(LB y hy).ok,?_⟩;rw[zbh,zbh,zbh];exact .append_left _ (Lb.lv.append (zvV LB))
theorem zib:∀(n:Nat)(t:Tr),(sh p t=1->dep t<=n)->zbI t->zcc p t (zcj n p t)
 |0,t,h,H=>by refine zcc.self H λz=>?_;have:=h z;cases t <;> simp[dep] at this
 |n+1,t,h,H=>by
  by_cases hs:sh p t=1
  ·have hd:=h hs;rw[zcj,if_pos hs];cases t with
   |lf g=>exact absurd hs zrL
   |nd r bs =>
    show zcc p _ (zbc (zcj n p) p [] (zbr p r bs));simp only[dep] at hd;have hd':=zaS.mp (by omega:zdi bs<=n);obtain ⟨_,hk,_⟩:=H.kids;have L:LOK p (zcj n p) (zbr p r bs):=⟨λx hx=>by
     obtain ⟨h1,h2⟩:=zhf hk H.n hx;exact zib n x (λz=>by
      rcases h2 with q|q
      ·exact absurd z q
      ·exact hd' x q) h1,λx _ q=>zdx q,λx hx=>(zhf hk H.n hx).1⟩
    have hlv:(zad (zbr p r bs)).Perm (zac (.nd r bs)):=zta;obtain ⟨A,b,B,e,hA,hb⟩:=zc7 (zgV hlv (zw9 hs).1);have O:=λx=>zwi H hs x;rw[e] at L hlv O ⊢;rw[zmD hA hb L];obtain ⟨s1,s2,s3⟩:=zsH hA L;have S:=zr0 hA hb (L.lean b xws) (L.sub (m:=B) λx hx=>by simp[hx]);refine ⟨s1,s2,s3.trans hlv,λna r=>?_,λna r hr q=>?_⟩
    ·rw[S.1 na r,O r]
    ·exact S.2 na r ((O r).mp ⟨hr,q⟩).1 q
  ·rw[zcj,if_neg hs];exact zcc.self H hs
variable{p:List Int}
structure zgy(p:List Int)(os pc:List Tr):Prop where
 ok:∀ x∈pc,zbI x
 lv:(zad pc).Perm (zad os)
 pure:∀ x∈pc,sh p x=0\/sh p x=2
 yes:NAN p pc->∀ r,zb0 r pc ↔ zb0 r os/\Ct p r
 no:¬ NAN p pc->∀ r,zb0 r os->¬ Ct p r
theorem zwQ{r:List Int}(h:Al p r):Ct p r:=⟨[],r,[],xws,xws,h,xws⟩
theorem ziP{r:List Int}:Ct p r.reverse ↔ Ct p r:=by
 have key:∀{r:List Int},Ct p r->Ct p r.reverse:=λ{r}=>by rintro ⟨u,v,w,rfl,h1,h2,h3⟩;exact ⟨w.reverse,v.reverse,u.reverse,xws,zbE.mpr h3,zbE.mpr h2,zbE.mpr h1⟩
 exact ⟨λh=>by have:=key h;rwa [List.reverse_reverse] at this,key⟩
theorem zn0{a y w:List Int}(ha:No p a)(hy:¬ No p y)(hw:No p w):Ct p (a++(y++w)) ↔ Ct p y:=by rw[Ct,zjc ztn ha λz=>hy (zaI.mp z).1];rw[<- Ct,<- ziP,List.reverse_append,Ct,zjc ztn (zbE.mpr hw) λz=>hy (zbE.mp z)];exact ziP
theorem zgc{k:Nat}{l:List Tr}(h:∀ x∈l,sh p x=k):ws p k l=l:=List.filter_eq_self.mpr λx hx=>by rw[h x hx];exact beq_self_eq_true k
theorem zhR{k:Nat}{l:List Tr}(h:∀ x∈l,sh p x≠k):ws p k l=[]:=List.filter_eq_nil_iff.mpr λx hx z=>h x hx (beq_iff_eq.mp z)
theorem zje{k:Nat}{a b:List Tr}:ws p k (a++b)=ws p k a++ws p k b:=List.filter_append _ _
theorem zf0{k:Nat}{a:Tr}{b:List Tr}:ws p k (a::b)=(if sh p a=k then [a] else [])++ws p k b:=by
 show List.filter _ _=_;rw[List.filter_cons];by_cases h:sh p a=k
 ·rw[if_pos (by simpa using h),if_pos h];rfl
 ·rw[if_neg (by simpa using h),if_neg h];rfl
theorem zq0{os:List Tr}(h:(ws p 0 os).length+2<=os.length):∃ A b M c Zq,os=A++b::(M++c::Zq)/\(∀ x∈A,sh p x=0)/\sh p b≠0/\sh p c≠0/\∀ x∈Zq,sh p x=0:=by
 obtain ⟨A,b,B,rfl,h1,h2⟩:=zc7 (os:=os) (p:=p) λz=>by rw[zgc z] at h;omega
 obtain ⟨M,c,Zq,rfl,h3,h4⟩:=zmU (os:=B) (p:=p) λz=>by rw[zje,zf0,if_neg h2,zgc h1,zgc z] at h;simp at h;omega
 exact ⟨A,b,M,c,Zq,rfl,h1,h2,h4,h3⟩
theorem zrQ{f:Tr->List Tr}{A M Zq:List Tr}{b c:Tr}(L:LOK p f (A++b::(M++c::Zq)))(hA:∀ x∈A,sh p x=0)(hb:sh p b≠0)(hZ:∀ x∈Zq,sh p x=0):zbc f p [] (A++b::(M++c::Zq))=A++(f b++(rv f M++((f c).reverse++Zq))):=by
 rw[zmD hA hb L];have:rv f Zq=Zq:=zmi (L.sub λx hx=>by simp[hx]) λx hx=>by rw[hZ x hx];decide
 simp only[rv,List.flatMap_append,List.flatMap_cons] at this ⊢;rw[this]
theorem zjI{f:Tr->List Tr}{os:List Tr}(L:LOK p f os)(h:(ws p 0 os).length+2<=os.length):zgy p os (zbc f p [] os):=by obtain ⟨A,b,M,c,Zq,rfl,hA,hb,hc,hZ⟩:=zq0 h;obtain ⟨s1,s2,s3⟩:=zsH hA L;have S:=zpP hA hb hc hZ (L.lean b xws) (L.lean c xws) (L.sub (m:=M) λx hx=>by simp[hx]);rw[<- zmD hA hb L] at s1 s2 s3;rw[<- zrQ L hA hb hZ] at S;exact ⟨s2,s3,s1,S.1,S.2⟩
theorem zum{f:Tr->List Tr}{x:Tr}(hx:zbI x)(hs:sh p x=2)(h1:f x=[x]):zgy p [x] (zbc f p [] [x]):=by
 have e:zbc f p [] [x]=[x]:=by simp[zbc,h1]
 rw[e];refine ⟨λy hy=>by rw[List.mem_singleton.mp hy];exact hx,.refl _,λy hy=>by rw[List.mem_singleton.mp hy];exact .inr hs,λ_ r=>⟨λh=>⟨h,zwQ ?_⟩,λh=>h.1⟩,λn=>absurd ⟨[],[x],[],xws,xws,?_,xws⟩ n⟩
 ·exact (znG (zbH hx) (zdp.mp h)).mpr hs
 ·intro y hy;rw[List.mem_singleton.mp hy];exact hs
theorem zhe{l:List Tr}{r:List Int}:r∈zan (.nd true l) ↔ zb0 r l\/zb0 r.reverse l:=by
 rw[zaH];constructor
 ·rintro ⟨q,hq,hm⟩;have:q=l\/q=l.reverse:=by simpa [arr] using hq
  rcases this with rfl|rfl
  ·exact .inl hm
  ·exact .inr (zfb.mp hm)
 ·rintro (hm|hm)
  ·exact ⟨l,by simp[arr],hm⟩
  ·exact ⟨l.reverse,by simp[arr],zfb.mpr hm⟩
theorem zrX{l:List Tr}{r:List Int}:r∈zan (.nd false l) ↔ ∃ q,q.Perm l/\zb0 r q:=by rw[zaH];exact ⟨λ⟨q,hq,hm⟩=>⟨q,za5 hq,hm⟩,λ⟨q,hq,hm⟩=>⟨q,(zcx _ _ _ rfl).mpr hq,hm⟩⟩
structure zeG(p:List Int)(t:Tr)(o:Option Tr):Prop where
 yes:∀ t',o=some t'->zbI t'/\(zac t').Perm (zac t)/\∀ r,r∈zan t' ↔ r∈zan t/\Ct p r
 no:o=none->∀ r∈zan t,¬ Ct p r
noncomputable def ziV(pc:List Tr):Tr:=if pc.length=1 then pc.headD (.lf 0) else .nd true pc
noncomputable def zeu(p:List Int)(bs:List Tr):List Tr:=(ws p 1 bs).take 1++(bun (ws p 2 bs)++(ws p 1 bs).drop 1)
theorem zpV{pc:List Tr}{s:List Int}:s∈zan (ziV pc) ↔ zb0 s pc\/zb0 s.reverse pc:=by
 unfold ziV;split
 ·rename_i h;obtain ⟨x,rfl⟩:=List.length_eq_one_iff.mp h;show s∈zan x ↔ _;rw[zdp,zdp,zgS,or_self]
 ·exact zhe
theorem zpB{T C X Yq:List Tr}{s:List Int}(hX:X.length<=1)(hY:Yq.length<=1)(hT:(X++Yq).Perm T)(h:zb0 s (X++(bun C++Yq))):zb0 s (T.take 1++(bun C++T.drop 1))\/zb0 s.reverse (T.take 1++(bun C++T.drop 1)):=by
 have hb:(bun C).reverse=bun C:=by
  unfold bun;split
  ·rename_i h
   match C,h with
   |[],_=>rfl
   |[a],_=>rfl
  ·rfl
 have rev:∀{X Yq:List Tr},X.length<=1->Yq.length<=1->zb0 s (X++(bun C++Yq))->zb0 s.reverse (Yq++(bun C++X)):=λ{X Yq} hX hY h=>by
  have:Yq++(bun C++X)=(X++(bun C++Yq)).reverse:=by
   have one:∀{Zq:List Tr},Zq.length<=1->Zq.reverse=Zq:=λ{Zq} h=>by
    match Zq,h with
    |[],_=>rfl
    |[a],_=>rfl
   rw[List.reverse_append,List.reverse_append,hb,one hX,one hY,List.append_assoc]
  rw[this,zfb,List.reverse_reverse];exact h
 match X,Yq,hX,hY with
 |[],[],_,_=>rw[hT.symm.eq_nil];exact .inl h
 |[x],[],_,_=>rw[hT.symm.eq_singleton];exact .inl h
 |[],[y],hX,hY=>rw[hT.symm.eq_singleton];exact .inr (rev hX hY h)
 |[x],[y],hX,hY =>
  have hT':T.Perm [x,y]:=hT.symm;have hl:=hT'.length_eq
  match T,hl with
  |[a,b],_ =>
   have ha:a∈[x,y]:=hT'.mem_iff.mp xws;rcases wap.mp ha with rfl|ha
   ·have:=(List.perm_cons _).mp hT';rw[this.eq_singleton];exact .inl h
   ·have ha:=List.mem_singleton.mp ha;subst ha;have:=(List.perm_cons a).mp (hT'.trans (List.Perm.swap _ _ _));have:=this.eq_singleton;cases this;exact .inr (rev hX hY h)
variable{p:List Int}
theorem zwC{bs:List Tr}(hk:∀ x∈bs,zbI x)(h2:(ws p 0 bs).length+2<=bs.length)(r:List Int):(r∈zan (.nd false bs)/\Ct p r) ↔
  ∃ A Zq a s w,r=a++(s++w)/\(A++Zq).Perm (ws p 0 bs)/\zb0 a A/\zb0 w Zq/\(zb0 s (zeu p bs)\/zb0 s.reverse (zeu p bs))/\Ct p s:=by
 rw[zrX];constructor
 ·rintro ⟨⟨q,hq,hm⟩,hc⟩;have flt:∀ k,(ws p k q).Perm (ws p k bs):=λk=>hq.filter _;obtain ⟨A,b,M,c,Zq,rfl,hA,hb,hc',hZ⟩:=zq0 (os:=q) (p:=p) (by rw[(flt 0).length_eq,hq.length_eq];exact h2);obtain ⟨a,r2,rfl,m1,m2⟩:=zal.mp hm;obtain ⟨y,r3,rfl,m3,m4⟩:=zaX.mp m2;obtain ⟨m,r4,rfl,m5,m6⟩:=zal.mp m4;obtain ⟨z,w,rfl,m7,m8⟩:=zaX.mp m6;have hM:=((zoN hA hb hc' hZ (λx hx=>hk x (hq.mem_iff.mp (by simp[hx]))) m1 m3 m5 m7 m8).mp hc).2.2;have hy:¬ No p y:=λe=>hb ((zfP m3).mp e);refine ⟨A,Zq,a,y++(m++z),w,xws,?_,m1,m8,?_,?_⟩
  ·have:=flt 0;rw[zje,zf0,zje,zf0,if_neg hb,if_neg hc',zgc hA,zgc hZ,zhR (l:=M) λx hx=>by rw[hM x hx];decide] at this;exact this
  ·have f1:=flt 1;have f2:=flt 2;rw[zje,zf0,zje,zf0,zhR (l:=A) (λx hx=>by rw[hA x hx];decide),zhR (l:=Zq) (λx hx=>by rw[hZ x hx];decide)] at f1 f2;rw[zhR (l:=M) (λx hx=>by rw[hM x hx];decide)] at f1;rw[zgc (l:=M) hM] at f2;simp only[List.nil_append,List.append_nil] at f1 f2;refine zpB (X:=if sh p b=1 then [b] else []) (Yq:=if sh p c=1 then [c] else []) (by split <;> simp) (by split <;> simp) f1 ?_;have sb:sh p b=1\/sh p b=2:=by
    rcases zjW (p:=p) b with e|e
    ·exact absurd e hb
    ·exact e
   have sc:sh p c=1\/sh p c=2:=by
    rcases zjW (p:=p) c with e|e
    ·exact absurd e hc'
    ·exact e
   rcases sb with sb|sb <;> rcases sc with sc|sc <;> simp only[sb,sc,if_true,Nat.reduceEqDiff,if_false,List.nil_append,List.append_nil,List.cons_append] at f2 ⊢
   ·exact zaX.mpr ⟨y,_,rfl,m3,zal.mpr ⟨m,z,rfl,zbR.mpr ⟨M,f2,m5⟩,zdp.mpr m7⟩⟩
   ·exact zaX.mpr ⟨y,_,rfl,m3,zbR.mpr ⟨_,f2,zal.mpr ⟨m,z,rfl,m5,zdp.mpr m7⟩⟩⟩
   ·exact zal.mpr ⟨y++m,z,xws,zbR.mpr ⟨_,f2,zaX.mpr ⟨y,m,rfl,m3,m5⟩⟩,zdp.mpr m7⟩
   ·exact zbR.mpr ⟨_,f2,zaX.mpr ⟨y,_,rfl,m3,zal.mpr ⟨m,z,rfl,m5,zdp.mpr m7⟩⟩⟩
  ·refine (zn0 (zcg m1 hA) (λe=>hy (zaI.mp e).1) (zcg m8 hZ)).mp ?_;simpa using hc
 ·rintro ⟨A,Zq,a,s,w,rfl,hp,m1,m2,hs,hc⟩;have key:∀{s:List Int},zb0 s (zeu p bs)->∃ q,q.Perm (ws p 1 bs++ws p 2 bs)/\zb0 s q:=λ{s} h=>by obtain ⟨x,r2,rfl,k1,k2⟩:=zal.mp h;obtain ⟨y,z,rfl,k3,k4⟩:=zal.mp k2;obtain ⟨q,hq,k5⟩:=zbR.mp k3;refine ⟨_,?_,zal.mpr ⟨x,_,rfl,k1,zal.mpr ⟨y,z,rfl,k5,k4⟩⟩⟩;refine (List.Perm.append_left _ (List.perm_append_comm.trans (List.Perm.append_left _ hq))).trans ?_;rw[<- List.append_assoc,List.take_append_drop]
  have:∃ q,q.Perm (ws p 1 bs++ws p 2 bs)/\zb0 s q:=by
   rcases hs with hs|hs
   ·exact key hs
   ·obtain ⟨q,hq,k⟩:=key hs;exact ⟨q.reverse,(List.reverse_perm q).trans hq,zfb.mpr k⟩
  obtain ⟨q,hq,k⟩:=this;have hN:∀ x∈A++Zq,sh p x=0:=λx hx=>(zcC.mp (hp.mem_iff.mp hx)).2;refine ⟨⟨A++(q++Zq),?_,zal.mpr ⟨a,_,rfl,m1,zal.mpr ⟨s,w,rfl,k,m2⟩⟩⟩,?_⟩
  ·refine (List.Perm.append_left _ List.perm_append_comm).trans ?_;rw[<- List.append_assoc];exact (hp.append hq).trans (zc9 bs)
  ·by_cases hn:No p s
   ·have:No p (a++(s++w)):=zaI.mpr ⟨zcg m1 (zaI.mp hN).1,zaI.mpr ⟨hn,zcg m2 (zaI.mp hN).2⟩⟩;exact ⟨_,[],[],xws,this,xws,xws⟩
   ·exact (zn0 (zcg m1 (zaI.mp hN).1) hn (zcg m2 (zaI.mp hN).2)).mpr hc
theorem zuu{N:List Tr}{x:Tr}{r:List Int}:r∈zan ((bun (N++[x])).headD (.lf 0)) ↔ ∃ A Zq a s w,r=a++(s++w)/\(A++Zq).Perm N/\zb0 a A/\zb0 w Zq/\s∈zan x:=by
 have hd:r∈zan ((bun (N++[x])).headD (.lf 0)) ↔ zb0 r (bun (N++[x])):=by
  unfold bun;split
  ·rename_i h
   match N,h with
   |[],_=>exact zdp.symm
   |a::N,h=>simp at h;omega
  ·exact zdp.symm
 rw[hd,zbR];constructor
 ·rintro ⟨q,hq,hm⟩;obtain ⟨A,Zq,rfl⟩:=List.append_of_mem (hq.mem_iff.mpr (by simp:x∈N++[x]));obtain ⟨a,r2,rfl,m1,m2⟩:=zal.mp hm;obtain ⟨s,w,rfl,m3,m4⟩:=zaX.mp m2;exact ⟨A,Zq,a,s,w,rfl,(List.perm_cons x).mp (List.perm_middle.symm.trans (hq.trans List.perm_append_comm)),m1,m4,m3⟩
 ·rintro ⟨A,Zq,a,s,w,rfl,hp,m1,m2,m3⟩;exact ⟨A++x::Zq,List.perm_middle.trans ((hp.cons x).trans (List.perm_append_comm (l₁:=[x]) (l₂:=N))),zal.mpr ⟨a,_,rfl,m1,zaX.mpr ⟨s,w,rfl,m3,m2⟩⟩⟩
theorem zpg{bs pc:List Tr}(H:zbI (.nd false bs))(h2:(ws p 0 bs).length+2<=bs.length)(T:zgy p (zeu p bs) pc)(hl:pc.length=1\/3<=pc.length) :
  (NAN p pc->zeG p (.nd false bs) (some ((bun (ws p 0 bs++[ziV pc])).headD (.lf 0))))/\(¬ NAN p pc->zeG p (.nd false bs) none):=by
 obtain ⟨_,hk,_⟩:=H.kids;have C:=zwC hk h2;have hlv:(zad (zeu p bs)).Perm (zad (ws p 1 bs++ws p 2 bs)):=by rw[zeu,zbh,zbh,zh8,<- zbh,<- zbh];refine zbp ((List.Perm.append_left _ List.perm_append_comm).trans ?_);rw[<- List.append_assoc,List.take_append_drop]
 have ilv:(zac (ziV pc))=zad pc:=by
  unfold ziV;split
  ·rename_i h;obtain ⟨x,rfl⟩:=List.length_eq_one_iff.mp h;exact (zpA x).symm
  ·rfl
 have alv:(zad (ws p 0 bs++[ziV pc])).Perm (zad bs):=by rw[zbh,zpA,ilv];refine (List.Perm.append_left _ (T.lv.trans hlv)).trans ?_;rw[<- zbh];exact zbp (zc9 bs)
 have nd:=alv.nodup_iff.mpr H.n;have iok:zbI (ziV pc):=by
  unfold ziV;split
  ·rename_i h;obtain ⟨x,rfl⟩:=List.length_eq_one_iff.mp h;exact T.ok x xws
  ·rename_i h;refine zjq ?_ T.ok ?_
   ·rcases hl with q|q
    ·exact absurd q h
    ·exact q
   ·rw[zbh,zpA,ilv] at nd;exact (List.nodup_append.mp nd).2.1
 have aok:∀ x∈ws p 0 bs++[ziV pc],zbI x:=zaI.mpr ⟨zhZ hk,λx hx=>by rw[List.mem_singleton.mp hx];exact iok⟩;constructor
 ·intro na;refine ⟨λt' e=>?_,λe=>by cases e⟩;cases e;have hb:∃ x,bun (ws p 0 bs++[ziV pc])=[x]:=by
   unfold bun;split
   ·rename_i h
    match ws p 0 bs,h with
    |[],_=>exact ⟨_,rfl⟩
    |a::N,h=>simp at h;omega
   ·exact ⟨_,rfl⟩
  refine ⟨?_,?_,λr=>?_⟩
  ·obtain ⟨x,e⟩:=hb;have:=zpz aok nd x (by rw[e];simp);rw[e];exact this
  ·obtain ⟨x,e⟩:=hb;have:=zh8 (ws p 0 bs++[ziV pc]);rw[e,zpA] at this;rw[e];exact (show (zac x).Perm _ from this ▸ alv)
  ·rw[zuu,C r];refine exists_congr λA=>exists_congr λZq=>exists_congr λa=>exists_congr λs=>exists_congr λw=>and_congr_right λ_=>and_congr_right λ_=>and_congr_right λ_=>and_congr_right λ_=>?_;rw[zpV,T.yes na,T.yes na,ziP,or_and_right]
 ·intro na;refine ⟨λt' e=>(by cases e),λ_ r hr hc=>?_⟩;obtain ⟨A,Zq,a,s,w,rfl,hp,m1,m2,hs,hc⟩:=(C r).mp ⟨hr,hc⟩;rcases hs with hs|hs
  ·exact T.no na s hs hc
  ·exact T.no na _ hs (ziP.mpr hc)
theorem zoS{bs pc:List Tr}(H:zbI (.nd true bs))(T:zgy p bs pc)(hl:3<=pc.length) :
  (NAN p pc->zeG p (.nd true bs) (some (.nd true pc)))/\(¬ NAN p pc->zeG p (.nd true bs) none):=by
 constructor
 ·intro na;refine ⟨λt' e=>?_,λe=>by cases e⟩;cases e;refine ⟨zjq hl T.ok (T.lv.nodup_iff.mpr H.n),T.lv,λr=>?_⟩;rw[zhe,zhe,T.yes na,T.yes na,ziP,or_and_right]
 ·intro na;refine ⟨λt' e=>(by cases e),λ_ r hr hc=>?_⟩;rcases zhe.mp hr with h|h
  ·exact T.no na r h hc
  ·exact T.no na _ h (ziP.mpr hc)
theorem zoY{r:Bool}{A B q:List Tr}{b:Tr}(h:q∈arr r (A++b::B)):∃ q1 q2,q=q1++b::q2/\(q1++q2).Perm (A++B)/\∀ x,q1++x::q2∈arr r (A++x::B):=by
 cases r with
 |false =>
  have hp:=za5 h;obtain ⟨q1,q2,rfl⟩:=List.append_of_mem (hp.mem_iff.mpr (by simp:b∈A++b::B));have:(q1++q2).Perm (A++B):=(List.perm_cons b).mp (List.perm_middle.symm.trans (hp.trans List.perm_middle));exact ⟨q1,q2,rfl,this,λx=>(zcx _ _ _ rfl).mpr (List.perm_middle.trans ((this.cons x).trans List.perm_middle.symm))⟩
 |true =>
  have:q=A++b::B\/q=(A++b::B).reverse:=by simpa [arr] using h
  rcases this with rfl|rfl
  ·exact ⟨A,B,rfl,.refl _,λx=>by simp[arr]⟩
  ·exact ⟨B.reverse,A.reverse,xws,by rw[<- List.reverse_append];exact List.reverse_perm _,λx=>by simp[arr]⟩
theorem zn2{r:Bool}{A B:List Tr}{b c:Tr}{x:List Int}(hN:∀ y∈A++B,sh p y=0)(hb:sh p b≠0)(hbc:∀ y,y∈zan b/\Ct p y->y∈zan c)(hx:x∈zan (.nd r (A++b::B)))(hc:Ct p x):x∈zan (.nd r (A++c::B)):=by obtain ⟨q,hq,hm⟩:=zaH.mp hx;obtain ⟨q1,q2,rfl,hp,hq'⟩:=zoY hq;obtain ⟨a,r2,rfl,m1,m2⟩:=zal.mp hm;obtain ⟨s,w,rfl,m3,m4⟩:=zaX.mp m2;have hN':∀ y∈q1++q2,sh p y=0:=λy hy=>hN y (hp.mem_iff.mp hy);have cs:=(zn0 (zcg m1 (zaI.mp hN').1) (λe=>hb ((zfP m3).mp e)) (zcg m4 (zaI.mp hN').2)).mp hc;exact zaH.mpr ⟨_,hq' c,zal.mpr ⟨a,_,rfl,m1,zaX.mpr ⟨s,w,rfl,hbc s ⟨m3,cs⟩,m4⟩⟩⟩
theorem zsI{r:Bool}{A B:List Tr}{b:Tr}{x:List Int}(hN:∀ y∈A++B,sh p y=0)(hb:sh p b≠0)(hx:x∈zan (.nd r (A++b::B))):∃ s,s∈zan b/\(Ct p x ↔ Ct p s):=by obtain ⟨q,hq,hm⟩:=zaH.mp hx;obtain ⟨q1,q2,rfl,hp,_⟩:=zoY hq;obtain ⟨a,r2,rfl,m1,m2⟩:=zal.mp hm;obtain ⟨s,w,rfl,m3,m4⟩:=zaX.mp m2;have hN':∀ y∈q1++q2,sh p y=0:=λy hy=>hN y (hp.mem_iff.mp hy);exact ⟨s,m3,zn0 (zcg m1 (zaI.mp hN').1) (λe=>hb ((zfP m3).mp e)) (zcg m4 (zaI.mp hN').2)⟩
theorem zom{r:Bool}{A B:List Tr}{b:Tr}{o:Option Tr}(H:zbI (.nd r (A++b::B)))(hN:∀ y∈A++B,sh p y=0)(hb:sh p b≠0)(T:zeG p b o):zeG p (.nd r (A++b::B)) (o.map λc=>.nd r (A++c::B)):=by
 obtain ⟨_,hk,hn⟩:=H.kids;cases o with
 |none =>
  refine ⟨λt' e=>(by cases e),λ_ x hx hc=>?_⟩;obtain ⟨s,hs,e⟩:=zsI hN hb hx;exact T.no rfl s hs (e.mp hc)
 |some c =>
  obtain ⟨h1,h2,h3⟩:=T.yes c rfl;have hc:sh p c≠0:=λz=>hb (zmS.mpr λg hg=>zmS.mp z g (h2.mem_iff.mpr hg));have lv:(zad (A++c::B)).Perm (zad (A++b::B)):=by rw[zbh,zbh];exact .append_left _ (List.Perm.append_right _ h2)
  refine ⟨λt' e=>?_,λe=>(by cases e)⟩;cases e;refine ⟨zjq (by simpa using hn) (λx hx=>?_) (lv.nodup_iff.mpr H.n),lv,λx=>⟨λhx=>?_,λhx=>?_⟩⟩
  ·rcases wax.mp hx with q|q
   ·exact hk x (by simp[q])
   ·rcases wap.mp q with rfl|q
    ·exact h1
    ·exact hk x (by simp[q])
  ·obtain ⟨s,hs,e⟩:=zsI hN hc hx;have:=e.mpr ((h3 s).mp hs).2;exact ⟨zn2 hN hc (λy hy=>((h3 y).mp hy.1).1) hx this,this⟩
  ·exact zn2 hN hb (λy hy=>(h3 y).mpr hy) hx.1 hx.2
variable{p:List Int}
noncomputable def zhg(f:Tr->Option Tr)(p:List Int)(bs:List Tr):List (Option Tr):=bs.map λb=>if sh p b=0 then some b else f b
noncomputable def zlI:List (Option Tr)->Option (List Tr)
 |[]=>some []
 |none::_=>none
 |some a::l=>(zlI l).map (a::·)
open Classical in
noncomputable def zwH(f:Tr->Option Tr)(p:List Int)(r:Bool)(bs:List Tr):Option Tr :=
 if (ws p 0 bs).length+1=bs.length then (zlI (zhg f p bs)).map (.nd r)
 else if r=true then (if NAN p (zbc (zcj 7 p) p [] bs) then some (.nd true (zbc (zcj 7 p) p [] bs)) else none)
 else if NAN p (zbc (zcj 7 p) p [] (zeu p bs)) then some ((bun (ws p 0 bs++[ziV (zbc (zcj 7 p) p [] (zeu p bs))])).headD (.lf 0)) else none
noncomputable def nodT(f:Tr->Option Tr)(p:List Int):Tr->Option Tr
 |.lf g=>some (.lf g)
 |.nd r bs=>zwH f p r bs
noncomputable def zcJ:Nat->List Int->Tr->Option Tr
 |0,_,t=>some t
 |n+1,p,t=>if sh p t=2 then some t else nodT (zcJ n p) p t
theorem zhJ:∀{A:List Tr}{l:List (Option Tr)},zlI (A.map some++l)=(zlI l).map (A++·)
 |[],l=>by show zlI l=_;cases zlI l <;> rfl
 |a::A,l=>by show (zlI (A.map some++l)).map _=_;rw[zhJ];cases zlI l <;> rfl
theorem zkG{f:Tr->Option Tr}{A:List Tr}(h:∀ x∈A,sh p x=0):zhg f p A=A.map some:=List.map_congr_left λx hx=>if_pos (h x hx)
theorem zuJ{f:Tr->Option Tr}{A B:List Tr}{b:Tr}(hA:∀ x∈A,sh p x=0)(hB:∀ x∈B,sh p x=0)(hb:sh p b≠0):zlI (zhg f p (A++b::B))=(f b).map λc=>A++c::B:=by
 have:zhg f p (A++b::B)=A.map some++f b::(B.map some++[]):=by rw[zhg,List.map_append,List.map_cons,if_neg hb,List.append_nil];have e1:=zkG (f:=f) hA;have e2:=zkG (f:=f) hB;rw[zhg] at e1 e2;rw[e1,e2]
 rw[this,zhJ];cases f b with
 |none=>rfl
 |some c =>
  show ((zlI (B.map some++[])).map _).map _=_;rw[zhJ];simp[zlI]
theorem zj4{f:Tr->List Tr}:∀{os acc:List Tr},(∀ x∈os,f x≠[])->acc.length+os.length<=(zbc f p acc os).length
 |[],acc,_=>by simp[zbc]
 |b::os,acc,h=>by
  rw[zbc];have:=zj4 (f:=f) (os:=os) (acc:=acc++(if (acc.any λx=>sh p x == 2)=true then (f b).reverse else f b)) λx hx=>h x (wah _ hx);refine waN ?_ this;have h1:1<=(if (acc.any λx=>sh p x == 2)=true then (f b).reverse else f b).length:=by
   have:=List.length_pos_iff.mpr (h b wau);split
   ·rw[List.length_reverse];exact this
   ·exact this
  rw[List.length_append,List.length_cons];omega
theorem zcc.ne{t:Tr}{pc:List Tr}(L:zcc p t pc)(H:zbI t):pc≠[]:=λz=>by have:=L.lv;rw[z] at this;exact zbH H this.symm.eq_nil
theorem zcc.two{t:Tr}{pc:List Tr}(L:zcc p t pc)(H:zbI t)(hs:sh p t=1):2<=pc.length:=by
 match pc,L with
 |[],L=>exact absurd rfl (L.ne H)
 |[x],L =>
  exfalso;rcases L.pure x xws with e|e
  ·exact L.has (by rw[hs];decide) λy hy=>by rw[List.mem_singleton.mp hy];exact e
  ·have:=L.all H λy hy=>by rw[List.mem_singleton.mp hy];exact e
   rw[hs] at this;cases this
 |_::_::_,_=>simp
theorem zlX{bs:List Tr}(h2:∀ x∈bs,zbI x)(h3:(zad bs).Nodup){x:Tr}(hx:x∈zeu p bs):zbI x/\(sh p x≠1\/x∈bs):=by
 have W:∀{k:Nat},x∈ws p k bs->zbI x/\(sh p x≠1\/x∈bs):=λh=>⟨h2 x (zcC.mp h).1,.inr (zcC.mp h).1⟩
 rcases wax.mp hx with hx|hx
 ·exact W (List.mem_of_mem_take hx)
 ·rcases wax.mp hx with hx|hx
  ·refine ⟨zpz (zhZ h2) (zwG h3) x hx,.inl ?_⟩;rw[zmT (zhZ h2) (.inr rfl) (λy hy=>(zcC.mp hy).2) x hx]
   decide
  ·exact W (List.mem_of_mem_drop hx)
theorem zlw{bs:List Tr}{n:Nat}(H:zbI (.nd false bs))(hd:∀ b∈bs,dep b<=n)(h2:(ws p 0 bs).length+2<=bs.length) :
  zgy p (zeu p bs) (zbc (zcj n p) p [] (zeu p bs))/\((zbc (zcj n p) p [] (zeu p bs)).length=1\/3<=(zbc (zcj n p) p [] (zeu p bs)).length):=by
 obtain ⟨_,hk,_⟩:=H.kids;have L:LOK p (zcj n p) (zeu p bs):=⟨λx hx=>by
  obtain ⟨h1,h2⟩:=zlX hk H.n hx;exact zib n x (λz=>by
   rcases h2 with q|q
   ·exact absurd z q
   ·exact hd x q) h1,λx _ q=>zdx q,λx hx=>(zlX hk H.n hx).1⟩
 have hp:=(zc9 (p:=p) bs).length_eq;rw[List.length_append,List.length_append] at hp;have b2:=zmT (p:=p) (l:=ws p 2 bs) (zhZ hk) (.inr rfl) (λy hy=>(zcC.mp hy).2);have bl:(ws p 2 bs).length≠0->(bun (ws p 2 bs)).length=1:=λh=>by
  unfold bun;split
  ·omega
  ·rfl
 have an:zeu p bs=(ws p 1 bs).take 1++(bun (ws p 2 bs)++(ws p 1 bs).drop 1):=rfl;cases hT:ws p 1 bs with
 |nil =>
  rw[hT,List.length_nil] at hp;obtain ⟨x,hx⟩:=List.length_eq_one_iff.mp (bl xwo);rw[hT,hx] at an;have an:zeu p bs=[x]:=an;rw[hx] at b2;have s:=b2 x xws;have T:=zum (L.ok x (by rw[an];simp)) s (zdx (n:=n) (by rw[s];decide));rw[an];refine ⟨T,.inl ?_⟩;simp[zbc,zdx (n:=n) (p:=p) (t:=x) (by rw[s];decide)]
 |cons x T =>
  have hn:∀ y∈zeu p bs,sh p y≠0:=λy hy=>by
   have W:y∈ws p 1 bs->sh p y≠0:=λh=>by rw[(zcC.mp h).2];decide
   rcases wax.mp hy with hy|hy
   ·exact W (List.mem_of_mem_take hy)
   ·rcases wax.mp hy with hy|hy
    ·rw[b2 y hy];decide
    ·exact W (List.mem_of_mem_drop hy)
  have sx:sh p x=1:=(zcC.mp (by rw[hT];simp:x∈ws p 1 bs)).2;rw[hT] at an;have an:zeu p bs=x::(bun (ws p 2 bs)++T):=an;rw[hT,List.length_cons] at hp;have hlen:1<=(bun (ws p 2 bs)++T).length:=by
   rw[List.length_append];by_cases z:(ws p 2 bs).length=0
   ·omega
   ·rw[bl z];omega
  refine ⟨zjI L ?_,.inr ?_⟩
  ·rw[zhR hn,an,List.length_nil,List.length_cons];omega
  ·have Lx:=L.lean x (by rw[an];simp);have t2:=Lx.two (L.ok x (by rw[an];simp)) sx;rw[an,zbc];have:=zj4 (f:=zcj n p) (p:=p) (os:=bun (ws p 2 bs)++T) (acc:=[]++zcj n p x) λy hy=>by
    have:y∈zeu p bs:=by rw[an];exact wah _ hy
    exact (L.lean y this).ne (L.ok y this)
   refine waN ?_ this;rw[List.nil_append];omega
theorem zju:∀(n:Nat)(t:Tr),n<=8->dep t<=n->zbI t->sh p t≠0->zeG p t (zcJ n p t)
 |0,t,_,h,_,_=>by cases t <;> simp[dep] at h
 |n+1,t,hn8,h,H,h0=>by
  rw[zcJ];by_cases hs:sh p t=2
  ·rw[if_pos hs];refine ⟨λt' e=>?_,λe=>(by cases e)⟩;cases e;exact ⟨H,.refl _,λr=>⟨λhr=>⟨hr,zwQ ((znG (zbH H) hr).mpr hs)⟩,λhr=>hr.1⟩⟩
  ·rw[if_neg hs];have h1:sh p t=1:=by
    rcases zjW (p:=p) t with e|e|e
    ·exact absurd e h0
    ·exact e
    ·exact absurd e hs
   cases t with
   |lf g=>exact absurd h1 zrL
   |nd r bs =>
    show zeG p _ (zwH (zcJ n p) p r bs);simp only[dep] at h;have hd:=zaS.mp (by omega:zdi bs<=n);have hd8:∀ b∈bs,dep b<=7:=λb hb=>waN (hd b hb) xwo;obtain ⟨_,hk,hlen⟩:=H.kids;have hnn:¬ ∀ x∈bs,sh p x=0:=zgV (t:=.nd r bs) (.refl _) h0;obtain ⟨A,b,B,e,hA,hb⟩:=zc7 hnn;unfold zwH;by_cases hw:(ws p 0 bs).length+1=bs.length
    ·rw[if_pos hw];have hB:∀ x∈B,sh p x=0:=by
      rw[e,zje,zf0,if_neg hb,zgc hA] at hw;simp only[wav,wan,List.nil_append] at hw;have:(ws p 0 B).length=B.length:=by omega
      intro x hx;have e2:ws p 0 B=B:=List.filter_sublist.eq_of_length this;rw[<- e2] at hx;exact (zcC.mp hx).2
     subst e;rw[zuJ hA hB hb,Option.map_map];exact zom H (zaI.mpr ⟨hA,hB⟩) hb (zju n b xwo (hd b xws) (hk b xws) hb)
    ·rw[if_neg hw];have h2:(ws p 0 bs).length+2<=bs.length:=by
      have hle:(ws p 0 bs).length<=bs.length:=List.length_filter_le _ _;have:(ws p 0 bs).length≠bs.length:=λz=>hnn λx hx=>by have e2:ws p 0 bs=bs:=List.filter_sublist.eq_of_length z;rw[<- e2] at hx;exact (zcC.mp hx).2
      omega
     cases r with
     |true =>
      rw[if_pos rfl];have L:LOK p (zcj 7 p) bs:=⟨λx hx=>zib 7 x (λ_=>hd8 x hx) (hk x hx),λx _ q=>zdx q,hk⟩
      have R:=zoS H (zjI L h2) (waN hlen (by have:=zj4 (f:=zcj 7 p) (p:=p) (os:=bs) (acc:=[]) λy hy=>(L.lean y hy).ne (hk y hy);simpa using this))
      split
      ·rename_i q;exact R.1 q
      ·rename_i q;exact R.2 q
     |false =>
      rw[if_neg xwd];obtain ⟨T,hl⟩:=zlw (n:=7) H hd8 h2;have R:=zpg H h2 T hl;split
      ·rename_i q;exact R.1 q
      ·rename_i q;exact R.2 q
theorem ztm{r:Bool}{bs:List Tr}{Z:Ev}(h:zab 0 Z=.ok (toD (.nd r bs),Z)):dIt (dOp gIx (zab 0) (dC (.int 1))) Z=.ok (bs.map toD,Z):=by unfold dIt;rw[zfa h,zbk];rfl
theorem zxi{t:Tr}{Z:Ev}{f:DS}(h:zab 0 Z=.ok (toD t,Z)):dIf (dTB (zai zc6 (dR (zab 0) dR0))) f dNx Z=if zxR t=true then f Z else .ok (.nx,Z):=by
 have e:=zaG (zeg h (zkO t));cases hl:zxR t with
 |true=>rw[hl] at e;rw[zd5 e];rfl
 |false=>rw[hl] at e;rw[zcm e];rfl
theorem zkE{F:FD}{r:Bool}{bs:List Tr}(IH:∀ b∈bs,F [.val (toD b)]=.ok (.lst ((zac b).map .int),[.val .non]))(hl:(zad bs).length<=1000):za1 false [false] 2 (zep F) [.val (toD (.nd r bs))]=.ok (.lst ((zad bs).map .int),[.val .non]):=by
 let T:Option B:=some (.val (toD (.nd r bs)));let Z0:Ev:=[T,none,none]
 let Z1:Ev:=[T,some (.own []),none]
 obtain ⟨Z',⟨o',rfl⟩,e⟩:=zca (u:=toD) (l:=bs) (g:=zb7 2) (body:=dEx (zgH 1 (zai F (dR (zab 2) dR0)))) (Z:=Z1) (I:=λdn Z=>∃ o',Z=[T,some (.own ((zad dn).map .int)),o']) (ztm (Z:=Z1) (r:=r) rfl) rfl ⟨none,rfl⟩
  (λdn b zbV e Z ⟨o',hρ⟩=>by
   subst hρ;have hb:b∈bs:=by rw[e];simp
   let r1:Ev:=[T,some (.own ((zad dn).map .int)),some (.val (toD b))]
   have hlen:(zad dn).length+(zac b).length<=1000:=by rw[e,zaF,List.flatMap_append,List.length_append,List.flatMap_cons,List.length_append] at hl;rw[zaF];lia
   refine ⟨r1,_,rfl,zeo (zph (Z1:=r1) (l:=(zac b).map .int) rfl (zeg (Z':=r1) (d:=toD b) rfl (IH b hb)) rfl rfl (by simp only[wag];lia)),some (.val (toD b)),?_⟩;show [T,some (B.own ((zad dn).map Dt.int++(zac b).map Dt.int)),_]=_;rw[<- List.map_append];have:zad (dn++[b])=zad dn++zac b:=by rw[zaF,List.flatMap_append,zaF];simp
   rw[this])
 refine zaj (Z':=[T,some (.val (.lst ((zad bs).map .int))),o']) rfl ?_ rfl;show za3 (dIf (dTB (zai zc6 (dR (zab 0) dR0))) (zbt (dFz (zdg (dA (zab 0) dA0)))) dNx) (za3 (zck 1 (zdg dA0)) (za3 (zgE (dIt (dOp gIx (zab 0) (dC (.int 1)))) (zb7 2) (dEx (zgH 1 (zai F (dR (zab 2) dR0))))) (zbt (zfl 1)))) Z0=_;rw[zag (zxi (t:=.nd r bs) (Z:=Z0) rfl),zag (Z1:=Z1) rfl,zag e];rfl
theorem zgC:∀(n:Nat)(t:Tr),dep t<=n->(zac t).length<=1000->zbu n [.val (toD t)]=.ok (.lst ((zac t).map .int),[.val .non])
 |0,t,h,_=>by cases t <;> simp[dep] at h
 |n+1,.lf g,_,_=>by rw[toD,zac];exact zaj (d:=.lst [.int g]) (Z':=[some (.val (.int g)),none,none]) rfl rfl rfl
 |n+1,.nd r bs,h,hl=>by simp only[dep] at h;rw[zac] at hl ⊢;exact zkE (F:=zbu n) (λb hb=>zgC n b (zaS.mp (by lia:zdi bs<=n) b hb) (by have:=zda hb;lia)) hl
end Lw
end
section
namespace LQ
open PySem PySem.Spec L2 PV Lw
noncomputable def mn(t:Tr):Int:=(zbd (zac t)).headD 0
noncomputable def ztb(r:Bool)(l:List Tr):List Tr:=if r then (if mn (l.headD (.lf 0)) > mn (l.getLastD (.lf 0)) then l.reverse else l) else byK (l.map mn) l
mutual
noncomputable def zay:Tr->Tr
 |.lf i=>.lf i
 |.nd r l=>.nd r (ztb r (zl6 l))
noncomputable def zl6:List Tr->List Tr
 |[]=>[]
 |t::r=>zay t::zl6 r
end
theorem zdE:∀ l:List Tr,zl6 l=l.map zay
 |[]=>by simp[zl6]
 |t::r=>by simp[zl6,zdE r]
theorem zb5:∀(n:Nat)(t:Tr),dep t<=n->okT t=true->zac t≠[]
 |n,.lf i,_,_=>by simp[zac]
 |0,.nd r l,h,_=>by simp[dep] at h
 |n+1,.nd r l,h,ho=>by
  simp only[dep,okT,wae,war] at h ho;cases l with
  |nil=>have:=ho.1;cases r <;> simp at this
  |cons t q =>
   simp only[zhB,wae] at ho;have:=zb5 n t (by simp only[zdi] at h;lia) ho.2.1;simp only[zac,zad];intro z;exact this (List.append_eq_nil_iff.mp z).1
theorem zsB{l:List Int}(h:l≠[]):(zbd l).headD 0∈l:=by
 have hp:=zaO l;cases e:zbd l with
 |nil=>rw[e] at hp;exact absurd hp.symm.eq_nil h
 |cons a r=>rw[e] at hp;exact hp.mem_iff.mp xws
theorem zvN{t:Tr}(h:zac t≠[]):mn t∈zac t:=zsB h
inductive Tw:Tr->Tr->Prop
 |lf (i:Int):Tw (.lf i) (.lf i)
 |any {l l1 l2:List Tr}:Paired Tw l l1->l1.Perm l2->Tw (.nd false l) (.nd false l2)
 |row {l l1 l2:List Tr}:Paired Tw l l1->(l2=l1\/l2=l1.reverse)->Tw (.nd true l) (.nd true l2)
theorem zha{l1 l2:List Tr}(h:l2=l1\/l2=l1.reverse):l1.Perm l2:=by
 rcases h with rfl|rfl
 ·exact .refl _
 ·exact (List.reverse_perm _).symm
theorem zoZ{l1 l2:List Tr}(h:l1.Perm l2):zhB l2=zhB l1/\(zad l2).Perm (zad l1)/\(∀ n,zdi l1<=n->zdi l2<=n)/\l2.length=l1.length:=by
 refine ⟨?_,?_,λn hn=>?_,h.length_eq.symm⟩
 ·rw[zcR,zcR,Bool.eq_iff_iff,List.all_eq_true,List.all_eq_true];exact ⟨λk t ht=>k t (h.mem_iff.mp ht),λk t ht=>k t (h.mem_iff.mpr ht)⟩
 ·rw[zaF,zaF];exact (h.flatMap_right zac).symm
 ·rw[zaS] at hn ⊢;exact λt ht=>hn t (h.mem_iff.mpr ht)
theorem zd0{n:Nat}(ih:∀ t t',dep t<=n->Tw t t'->okT t'=okT t/\(zac t').Perm (zac t)/\dep t'<=dep t):∀{l l1:List Tr},Paired Tw l l1->zdi l<=n->zhB l1=zhB l/\(zad l1).Perm (zad l)/\zdi l1<=zdi l/\l1.length=l.length
 |_,_,.nil,_=>by simp[zad,zdi]
 |t::l,t'::l1,.cons h r,hd=>by simp only[zdi] at hd;obtain ⟨a1,a2,a3⟩:=ih t t' xwl h;obtain ⟨b1,b2,b3,b4⟩:=zd0 ih r xwl;simp only[zhB,zad,zdi,wan];exact ⟨by rw[a1,b1],a2.append b2,xwl,xwl⟩
theorem zgX(n:Nat):∀(t t':Tr),dep t<=n->Tw t t'->okT t'=okT t/\(zac t').Perm (zac t)/\dep t'<=dep t:=by
 induction n with
 |zero =>
  intro t t' hd h;cases t <;> simp[dep] at hd
 |succ n ih =>
  intro t t' hd h;cases h with
  |lf i=>exact ⟨rfl,.refl _,wal _⟩
  |any hp hq =>
   simp only[dep] at hd;obtain ⟨b1,b2,b3,b4⟩:=zd0 ih hp xwl;obtain ⟨c1,c2,c3,c4⟩:=zoZ hq;simp only[okT,zac,dep];refine ⟨by rw[c1,b1,c4,b4],c2.trans b2,?_⟩;have:=c3 _ b3;lia
  |row hp hq =>
   simp only[dep] at hd;obtain ⟨b1,b2,b3,b4⟩:=zd0 ih hp xwl;obtain ⟨c1,c2,c3,c4⟩:=zoZ (zha hq);simp only[okT,zac,dep];refine ⟨by rw[c1,b1,c4,b4],c2.trans b2,?_⟩;have:=c3 _ b3;lia
theorem zsA{α:Type}{ks:List Int}{l:List α}(h:ks.length=l.length):(byK ks l).Perm l:=by have:=(zct (ks.zip l)).map Prod.snd;rw[List.map_snd_zip xwl] at this;exact this
theorem zcb{α β:Type}{F:α->β->Prop}(f:α->β):∀{l:List α},(∀ a∈l,F a (f a))->Paired F l (l.map f)
 |[],_=>.nil
 |a::l,h=>.cons (h a xws) (zcb f λb hb=>h b (by simp[hb]))
theorem zdV:∀(n:Nat)(t:Tr),dep t<=n->Tw t (zay t)
 |n,.lf i,_=>by simp only[zay];exact .lf i
 |0,.nd r l,h=>by simp[dep] at h
 |n+1,.nd r l,h=>by
  simp only[dep] at h;have hp:Paired Tw l (l.map zay):=zcb zay λt ht=>zdV n t (zaS.mp (by lia:zdi l<=n) t ht);simp only[zay];rw[zdE];cases r with
  |false =>
   refine .any hp ?_;show (l.map zay).Perm (byK _ _);exact (zsA xws).symm
  |true =>
   refine .row hp ?_;unfold ztb;simp only[if_true];split
   ·exact .inr rfl
   ·exact .inl rfl
theorem ziL{f:Tr->Int}:∀{l:List Tr},(∀ t∈l,f t∈zac t)->(zad l).Nodup->(l.map f).Nodup
 |[],_,_=>by simp
 |t::r,hm,hn=>by
  simp only[zad] at hn;rw[List.nodup_append] at hn;rw[List.map_cons,List.nodup_cons];refine ⟨λz=>?_,ziL (λu hu=>hm u (by simp[hu])) hn.2.1⟩;obtain ⟨u,hu,e⟩:=List.mem_map.mp z;have h1:=hm t xws;have h2:f t∈zad r:=by rw[zaF,List.mem_flatMap];exact ⟨u,hu,by rw[<- e];exact hm u (by simp[hu])⟩
  exact hn.2.2 _ h1 _ h2 rfl
theorem zv9{l1 l2:List Tr}{f:Tr->Int}(h:l1.Perm l2)(hn:(l1.map f).Nodup):byK (l2.map f) l2=byK (l1.map f) l1:=by
 unfold byK;have hz:∀ l:List Tr,(l.map f).zip l=l.map λt=>(f t,t):=λl=>by
  induction l with
  |nil=>rfl
  |cons a r ih=>simp[ih]
 rw[hz,hz];have hp:(zgO (l2.map λt=>(f t,t))).Perm (zgO (l1.map λt=>(f t,t))):=(zct _).trans ((h.symm.map _).trans (zct _).symm);rw[zut hp ?_ (zga _) (zga _)];have q:=((zct (l2.map λt=>(f t,t))).map Prod.fst).trans ((h.symm.map (λt=>(f t,t))).map Prod.fst);rw[q.nodup_iff];rw[List.map_map];exact hn
theorem zhs{n:Nat}(ih:∀ t t',dep t<=n->Tw t t'->okT t=true->(zac t).Nodup->zay t'=zay t):∀{l l1:List Tr},Paired Tw l l1->zdi l<=n->zhB l=true->(zad l).Nodup->l1.map zay=l.map zay
 |_,_,.nil,_,_,_=>rfl
 |t::l,t'::l1,.cons h r,hd,ho,hn=>by simp only[zdi] at hd;simp only[zhB,wae] at ho;simp only[zad] at hn;rw[List.nodup_append] at hn;rw[List.map_cons,List.map_cons,ih t t' xwl h ho.1 hn.1,zhs ih r xwl ho.2 hn.2.1]
theorem zjA{n:Nat}{l:List Tr}(hd:zdi l<=n)(ho:zhB l=true):∀ t∈l.map zay,mn t∈zac t:=λu hu=>by obtain ⟨t,ht,rfl⟩:=List.mem_map.mp hu;have h1:=zaS.mp hd t ht;rw[zcR,List.all_eq_true] at ho;have h2:=zgX n t (zay t) h1 (zdV n t h1);exact zvN (zb5 n _ (waN h2.2.2 h1) (by rw[h2.1];exact ho t ht))
theorem zcW{n:Nat}{l:List Tr}(hd:zdi l<=n)(ho:zhB l=true)(hn:(zad l).Nodup):((l.map zay).map mn).Nodup:=by refine ziL (zjA hd ho) ?_;have:=(zd0 (zgX n) (zcb zay λt ht=>zdV n t (zaS.mp hd t ht)) hd).2.1;exact this.nodup_iff.mpr hn
theorem zv2{l:List Tr}(hl:2<=l.length)(hn:(l.map mn).Nodup):mn (l.headD (.lf 0))≠mn (l.getLastD (.lf 0)):=by
 cases l with
 |nil=>simp at hl
 |cons a r =>
  cases r with
  |nil=>simp at hl
  |cons b q =>
   rw[List.map_cons,List.nodup_cons] at hn;intro z;refine hn.1 ?_;have e:(a::b::q).getLastD (.lf 0)=(b::q).getLast xws:=by simp[List.getLastD]
   rw[e] at z;have z':mn a=mn ((b::q).getLast xws):=z;rw[z'];exact List.mem_map.mpr ⟨_,List.getLast_mem _,rfl⟩
theorem zrt{l:List Tr}(hl:2<=l.length)(hn:(l.map mn).Nodup):ztb true l.reverse=ztb true l:=by
 have ne:=zv2 hl hn;have h1:l.reverse.headD (.lf 0)=l.getLastD (.lf 0):=by simp[List.headD_eq_head?_getD,List.getLastD_eq_getLast?]
 have h2:l.reverse.getLastD (.lf 0)=l.headD (.lf 0):=by
  cases l with
  |nil=>rfl
  |cons a q=>simp
 unfold ztb;simp only[if_true,h1,h2];by_cases h:mn (l.headD (.lf 0)) > mn (l.getLastD (.lf 0))
 ·rw[if_pos h,if_neg xwl]
 ·rw[if_neg h,if_pos xwl,List.reverse_reverse]
theorem zld(n:Nat):∀(t t':Tr),dep t<=n->Tw t t'->okT t=true->(zac t).Nodup->zay t'=zay t:=by
 induction n with
 |zero =>
  intro t t' hd h;cases t <;> simp[dep] at hd
 |succ n ih =>
  intro t t' hd h ho hn;cases h with
  |lf i=>rfl
  |@any l l1 l2 hp hq =>
   simp only[dep] at hd;simp only[okT,wae] at ho;simp only[zac] at hn;have hd':zdi l<=n:=by lia
   have e:=zhs ih hp hd' ho.2 hn;simp only[zay,zdE];congr 1;show byK ((l2.map zay).map mn) (l2.map zay)=byK ((l.map zay).map mn) (l.map zay);have hpm:(l.map zay).Perm (l2.map zay):=by rw[<- e];exact hq.map _
   exact zv9 hpm (zcW hd' ho.2 hn)
  |@row l l1 l2 hp hq =>
   simp only[dep] at hd;simp only[okT,wae,war,if_true] at ho;simp only[zac] at hn;have hd':zdi l<=n:=by lia
   have e:=zhs ih hp hd' ho.2 hn;simp only[zay,zdE];congr 1;rcases hq with rfl|rfl
   ·rw[e]
   ·rw[List.map_reverse,e];exact zrt (by simp;lia) (zcW hd' ho.2 hn)
theorem zkt:∀{l:List Tr}{t:Tr},t∈l->(zad l).Nodup->(zac t).Nodup
 |[],_,h,_=>by cases h
 |u::l,t,h,hn=>by
  simp only[zad] at hn;rw[List.nodup_append] at hn;rcases wap.mp h with rfl|h
  ·exact hn.1
  ·exact zkt h hn.2.1
theorem znz{t:Tr}(h:dep t<=8)(hl:(zac t).length<64):zdj [.val (toD t)]=.ok (.lst ((zbd (zac t)).map .int),[.val .non]):=by
 let Z:Ev:=[some (.val (toD t))]
 refine zaj (Z':=Z) rfl ?_ rfl;have a0:zab 0 Z=.ok (toD t,Z):=rfl;exact zbe (zba (zkl (zeg a0 (zgC 8 t h xwl)) (zjt xwl)))
theorem zfH{t:Tr}(h:dep t<=8)(hl:(zac t).length<64)(hne:zac t≠[]):za8 [.val (toD t)]=.ok (.int (mn t),[.val .non]):=by
 refine zaj (Z':=[some (.val (toD t))]) rfl ?_ rfl;show zel [some (.val (toD t))]=_;have ec:=zeg (F:=zdj) (fa:=zab 0) (Z:=[some (.val (toD t))]) (Z':=[some (.val (toD t))]) rfl (znz h hl);unfold zel zbt dOp;rw[ec];have hne':zbd (zac t)≠[]:=λz=>hne (by have:=zaO (zac t);rw[z] at this;exact this.symm.eq_nil);cases e:zbd (zac t) with
 |nil=>exact absurd e hne'
 |cons a q =>
  simp only[R.bind_ok,dC,List.map_cons];have:gIx (.lst (.int a::q.map .int)) (.int 0)=.ok (.int a):=by unfold gIx;simp only[zff]
  rw[this];simp only[R.bind_ok];unfold mn;rw[e];rfl
theorem zmy{L:List Tr}(h:L≠[]):gIx (.lst (L.map toD)) (.int 0)=.ok (toD (L.headD (.lf 0))):=by
 cases L with
 |nil=>exact absurd rfl h
 |cons a q =>
  unfold gIx;simp only[List.map_cons,zff];rfl
theorem zhd{α:Type}{l:List α}(h:l≠[]):atI l (-1)=l.getLast? := by
 unfold atI ixN;have hl:0<l.length:=List.length_pos_iff.mpr h;rw[if_neg xwd,if_pos xwl];have e:((-1:Int)+(l.length:Nat)).toNat=l.length-1:=by lia
 rw[e,Option.bind_some,List.getLast?_eq_getElem?]
theorem zvj{L:List Tr}(h:L≠[]):gIx (.lst (L.map toD)) (.int (-1))=.ok (toD (L.getLastD (.lf 0))):=by
 unfold gIx;have:atI (L.map toD) (-1)=some (toD (L.getLastD (.lf 0))):=by
  rw[zhd (by simpa using h),List.getLast?_map,List.getLastD_eq_getLast?];cases e:L.getLast? with
  |none=>exact absurd (List.getLast?_eq_none_iff.mp e) h
  |some a=>rfl
 simp only[this]
theorem zrk{L:List Int}(h:L≠[]):gIx (.lst (L.map .int)) (.int 0)=.ok (.int (L.headD 0)):=by
 cases L with
 |nil=>exact absurd rfl h
 |cons a q =>
  unfold gIx;simp only[List.map_cons,zff];rfl
theorem zrs{L:List Int}(h:L≠[]):gIx (.lst (L.map .int)) (.int (-1))=.ok (.int (L.getLastD 0)):=by
 unfold gIx;have:atI (L.map Dt.int) (-1)=some (.int (L.getLastD 0)):=by
  rw[zhd (by simpa using h),List.getLast?_map,List.getLastD_eq_getLast?];cases e:L.getLast? with
  |none=>exact absurd (List.getLast?_eq_none_iff.mp e) h
  |some a=>rfl
 simp only[this]
theorem zkH:∀{l:List Int},l.Nodup->zhW l=true
 |[],_=>rfl
 |a::r,h=>by rw[List.nodup_cons] at h;unfold zhW;rw[zkH h.2,Bool.and_true];simpa using h.1
theorem zmV{α β:Type}(f:α->β)(p:Int×α):∀ l:List (Int×α),zog (p.1,f p.2) (l.map λq=>(q.1,f q.2))=(zog p l).map λq=>(q.1,f q.2)
 |[]=>rfl
 |q::r=>by
  simp only[List.map_cons,zog];split
  ·rfl
  ·simp only[List.map_cons,zmV f p r]
theorem zlv{α β:Type}(f:α->β):∀ l:List (Int×α),zgO (l.map λq=>(q.1,f q.2))=(zgO l).map λq=>(q.1,f q.2)
 |[]=>rfl
 |q::r=>by simp only[List.map_cons,zgO,zlv f r];exact zmV f q _
theorem zvq{α β:Type}(f:α->β)(ks:List Int)(l:List α):byK ks (l.map f)=(byK ks l).map f:=by
 unfold byK;have:ks.zip (l.map f)=(ks.zip l).map λq=>(q.1,f q.2):=by rw[List.zip_map_right];rfl
 rw[this,zlv,List.map_map,List.map_map];rfl
theorem zlb:∀{L:List Tr},(∀ t∈L,dep t<=8/\(zac t).length<64/\zac t≠[])->zen za8 (L.map toD)=some (L.map mn)
 |[],_=>rfl
 |t::r,h=>by have ht:=h t xws;have ih:zen za8 (r.map toD)=some (r.map mn):=zlb λu hu=>h u (wah _ hu);rw[List.map_cons,zen,zfH ht.1 ht.2.1 ht.2.2];simp only[ih];rfl
theorem zxm{D:List Dt}{r:Bool}{x:Dt}{Z:Ev}{i:Nat}(h:Z[i]? = some (some (.val (.tup [.str (wd r),x])))):dTB (dOp (gEq false) (dOp gIx (zab i) (dC (.int 0))) (dC (.str (Str.ofString "any")))) Z=.ok (!r,Z):=by
 have e:dOp gIx (zab i) (dC (.int 0)) Z=.ok (.str (wd r),Z):=by unfold dOp zab;rw[h];rfl
 unfold dTB;rw[dOp,e];simp only[R.bind_ok,dC];rw[zbF (by rw[okN];exact zkj r) (by rw[okN];exact zkI),eqS,ztB];rfl
theorem zs2{n:Nat}{r:Bool}{l:List Tr}(hd:zdi l<=n)(ho:okT (.nd r l)=true)(hn:(zad l).Nodup)(hl:(zad l).length<64) :
  (∀ t∈l.map zay,dep t<=n/\(zac t).length<64/\zac t≠[])/\((l.map zay).map mn).Nodup/\l.map zay≠[]/\2<=(l.map zay).length/\(l.map zay).length<64:=by
 simp only[okT,wae,war] at ho;have h2:2<=l.length:=by have:=ho.1;cases r <;> simp at this <;> lia
 refine ⟨λu hu=>?_,zcW hd ho.2 hn,?_,by simpa using h2,?_⟩
 ·obtain ⟨t,ht,rfl⟩:=List.mem_map.mp hu;have h1:=zaS.mp hd t ht;have ho':=ho.2;rw[zcR,List.all_eq_true] at ho';obtain ⟨q1,q2,q3⟩:=zgX n t (zay t) h1 (zdV n t h1);refine ⟨waN q3 h1,?_,zb5 n _ (waN q3 h1) (by rw[q1];exact ho' t ht)⟩;have:=zda ht;rw[q2.length_eq];lia
 ·intro z;rw[List.map_eq_nil_iff] at z;rw[z] at h2;simp at h2
 ·rw[List.length_map];have:l.length<=(zad l).length:=by
   have hok:=ho.2;have:∀(l:List Tr),zdi l<=n->zhB l=true->l.length<=(zad l).length:=by
    intro l
    induction l with
    |nil=>intros;simp
    |cons t q ih =>
     intro hd ho;simp only[zdi] at hd;simp only[zhB,wae] at ho;have h1:=List.length_pos_iff.mpr (zb5 n t xwl ho.1);have h2:=ih xwl ho.2;simp only[zad,wav,wan];lia
   exact this l hd hok
  lia
theorem zjD:∀(n:Nat)(t:Tr),n<=8->dep t<=n->okT t=true->(zac t).Nodup->(zac t).length<64->zbs n [.val (toD t)]=.ok (toD (zay t),[.val .non])
 |0,t,_,h,_,_,_=>by cases t <;> simp[dep] at h
 |n+1,.lf i,h8,h,ho,hn,hl=>by refine zaj (Z':=[some (.val (.int i)),none]) rfl ?_ rfl;rw[toD,zay];rfl
 |n+1,.nd r l,h8,h,ho,hn,hl=>by
  simp only[dep] at h;simp only[zac] at hl hn;have hd:zdi l<=n:=by lia
  obtain ⟨B1,B2,B3,B4,B5⟩:=zs2 hd ho hn hl;have ho2:∀ t∈l,okT t=true:=by simp only[okT,wae] at ho;have:=ho.2;rw[zcR,List.all_eq_true] at this;exact this
  have hn2:∀ t∈l,(zac t).Nodup:=λt ht=>zkt ht hn;have hD:toD (.nd r l)=.tup [.str (wd r),.tup (zlH l)]:=by rw[toD]
  have e0:dIf (dTB (zai zc6 (dR (zab 0) dR0))) (zbt (zab 0)) dNx [some (.val (toD (.nd r l))),none]=.ok (.nx,[some (.val (toD (.nd r l))),none]):=by have ec:=zeg (F:=zc6) (fa:=zab 0) (Z:=[some (.val (toD (.nd r l))),none]) (Z':=[some (.val (toD (.nd r l))),none]) rfl (zkO (.nd r l));unfold dIf dTB;rw[ec];rfl
  have e1:zbi 1 (dFz (zb9 (dIt (dOp gIx (zab 0) (dC (.int 1)))) (zb7 2) dTT (zai (zbs n) (dR (zab 2) dR0)) 1)) [some (.val (toD (.nd r l))),none]=.ok (.nx,[some (.val (toD (.nd r l))),some (.val (.lst ((l.map zay).map toD)))]):=by
   have:=ziA (Z0:=[some (.val (toD (.nd r l))),none]) (fi:=dIt (dOp gIx (zab 0) (dC (.int 1)))) (fe:=zai (zbs n) (dR (zab 2) dR0)) (l:=l) (u:=toD) (f:=λt=>toD (zay t)) (ds:=zlH l) (j:=2) (by rw[hD];rfl) (zbk l) (by simp only[wag] at B5;lia)
    (λt ht=>zeg (Z':=[some (.val (toD (.nd r l))),none]++[some (.val (toD t))]) rfl (zjD n t xwl (zaS.mp hd t ht) (ho2 t ht) (hn2 t ht) (by have:=zda ht;lia))) rfl
   unfold zbi dFz;rw[this];simp only[R.bind_ok];rw[List.map_map];rfl
  have e2:dIf (dTB (dOp (gEq false) (dOp gIx (zab 0) (dC (.int 0))) (dC (.str (Str.ofString "any"))))) (zbi 1 (dFz (zk9 za8 (zab 1)))) (dIf (dTB (dOp gGt (zai za8 (dR (dOp gIx (zab 1) (dC (.int 0))) dR0)) (zai za8 (dR (dOp gIx (zab 1) (zqZ (dC (.int 1)))) dR0)))) (zbi 1 (dFz (zgI (zab 1)))) dNx) [some (.val (toD (.nd r l))),some (.val (.lst ((l.map zay).map toD)))]=.ok (.nx,[some (.val (toD (.nd r l))),some (.val (.lst ((ztb r (l.map zay)).map toD)))]):=by
   unfold dIf;rw[zxm (D:=[]) (r:=r) (x:=.tup (zlH l)) (by rw[hD];rfl)];simp only[R.bind_ok];cases r with
   |false =>
    simp only[Bool.not_false,if_true];unfold zbi dFz zk9;show ((((match zen za8 ((l.map zay).map toD) with|some ks=>if (decide (((l.map zay).map toD).length<64) && zhW ks)=true then R.ok (byK ks ((l.map zay).map toD),_) else .no|none=>.no):R (List Dt×Ev)).bind _).bind _)=_;rw[zlb λt ht=>by have:=B1 t ht;exact ⟨xwl,this.2⟩]
    simp only;rw[zkH B2,if_pos (by simp only[Bool.and_true,decide_eq_true_eq,List.length_map] at B5 ⊢;exact B5)];rw[zvq];rfl
   |true =>
    rw[if_neg xwd];have c1:=zeg (F:=za8) (fa:=dOp gIx (zab 1) (dC (.int 0))) (Z:=[some (.val (toD (.nd true l))),some (.val (.lst ((l.map zay).map toD)))]) (Z':=[some (.val (toD (.nd true l))),some (.val (.lst ((l.map zay).map toD)))]) (d:=toD ((l.map zay).headD (.lf 0))) (by
      show ((gIx (.lst ((l.map zay).map toD)) (.int 0)).bind _)=_;rw[zmy B3];rfl) (by
      have hm:(l.map zay).headD (.lf 0)∈l.map zay:=by
       cases e:l.map zay with
       |nil=>exact absurd e B3
       |cons a q=>simp
      have:=B1 _ hm;exact zfH xwl this.2.1 this.2.2)
    have c2:=zeg (F:=za8) (fa:=dOp gIx (zab 1) (zqZ (dC (.int 1)))) (Z:=[some (.val (toD (.nd true l))),some (.val (.lst ((l.map zay).map toD)))]) (Z':=[some (.val (toD (.nd true l))),some (.val (.lst ((l.map zay).map toD)))]) (d:=toD ((l.map zay).getLastD (.lf 0))) (by
      show ((gIx (.lst ((l.map zay).map toD)) (.int (-1))).bind _)=_;rw[zvj B3];rfl) (by
      have hm:(l.map zay).getLastD (.lf 0)∈l.map zay:=by
       rw[List.getLastD_eq_getLast?];cases e:(l.map zay).getLast? with
       |none=>exact absurd (List.getLast?_eq_none_iff.mp e) B3
       |some a=>exact List.mem_of_getLast? e
      have:=B1 _ hm;exact zfH xwl this.2.1 this.2.2)
    have c3:dTB (dOp gGt (zai za8 (dR (dOp gIx (zab 1) (dC (.int 0))) dR0)) (zai za8 (dR (dOp gIx (zab 1) (zqZ (dC (.int 1)))) dR0))) [some (.val (toD (.nd true l))),some (.val (.lst ((l.map zay).map toD)))]=.ok (decide (mn ((l.map zay).getLastD (.lf 0))<mn ((l.map zay).headD (.lf 0))),[some (.val (toD (.nd true l))),some (.val (.lst ((l.map zay).map toD)))]):=by exact zaG (zau c1 c2 rfl)
    rw[c3];simp only[R.bind_ok];unfold ztb;rw[if_pos rfl];by_cases hgt:mn ((l.map zay).getLastD (.lf 0))<mn ((l.map zay).headD (.lf 0))
    ·rw[if_pos (decide_eq_true hgt),if_pos hgt];rw[List.map_reverse];rfl
    ·rw[if_neg (by simpa using hgt),if_neg hgt];rfl
  refine zaj (Z':=[some (.val (toD (.nd r l))),some (.val (.lst ((ztb r (l.map zay)).map toD)))]) rfl ?_ rfl;show zfI (zbs n) [some (.val (toD (.nd r l))),none]=_;unfold zfI za3;rw[e0];simp only[R.bind_ok];rw[e1];simp only[R.bind_ok];rw[e2];simp only[R.bind_ok];rw[zay,zdE,hD,toD];simp only[zbk];rfl
theorem zfx{F:Tr->Tr->Prop}{p bs:List Tr}(h:p.Perm bs):∀{q:List Tr},Paired F p q->∃ l,Paired F bs l/\q.Perm l:=by
 induction h with
 |nil=>intro q hq;cases hq;exact ⟨[],.nil,.refl _⟩
 |cons x _ ih =>
  intro q hq;cases hq with
  |cons h1 h2=>obtain ⟨l,a,b⟩:=ih h2;exact ⟨_::l,.cons h1 a,b.cons _⟩
 |swap x y l =>
  intro q hq;cases hq with
  |cons h1 h2=>cases h2 with
   |cons h3 h4=>exact ⟨_,.cons h3 (.cons h1 h4),.swap _ _ _⟩
 |trans _ _ ih1 ih2 =>
  intro q hq;obtain ⟨l,a,b⟩:=ih1 hq;obtain ⟨m,c,d⟩:=ih2 a;exact ⟨m,c,b.trans d⟩
theorem zaT{F:Tr->Tr->Prop}:∀{a b c d:List Tr},Paired F a b->Paired F c d->Paired F (a++c) (b++d)
 |_,_,_,_,.nil,h=>h
 |_,_,_,_,.cons x y,h=>.cons x (zaT y h)
theorem zcu{F:Tr->Tr->Prop}:∀{a b:List Tr},Paired F a b->Paired F a.reverse b.reverse
 |_,_,.nil=>.nil
 |_,_,.cons x y=>by rw[List.reverse_cons,List.reverse_cons];exact zaT (zcu y) (.cons x .nil)
theorem zl7{n:Nat}(IH:∀ a b,dep a<=n->Eqv a b->Tw a b):∀{p q:List Tr},(∀ t∈p,dep t<=n)->Paired Eqv p q->Paired Tw p q
 |_,_,_,.nil=>.nil
 |_,_,h,.cons x y=>.cons (IH _ _ (h _ wau) x) (zl7 IH (λt ht=>h t (wah _ ht)) y)
theorem zvO:∀(n:Nat)(a b:Tr),dep a<=n->Eqv a b->Tw a b
 |n,.lf g,_,_,.lf _=>.lf g
 |0,.nd r bs,_,h,_=>by simp[dep] at h
 |n+1,.nd r bs,_,h,.nd (cs:=cs) (p:=p) (q:=q) hp hq hpq=>by
  have hb:∀ t∈bs,dep t<=n:=zaS.mp (by simpa [dep] using h);have hpp:=za5 hp;have hw:=zl7 (n:=n) (zvO n) (λt ht=>hb t (hpp.mem_iff.mp ht)) hpq;cases r with
  |false =>
   obtain ⟨l,h1,h2⟩:=zfx hpp hw;exact .any h1 (h2.symm.trans (za5 hq))
  |true =>
   unfold arr at hp hq;rw[if_pos rfl] at hp hq;simp only[wap,wak,or_false] at hp hq;rcases hp with rfl|rfl
   ·rcases hq with rfl|rfl
    ·exact .row hw (.inl rfl)
    ·exact .row hw (.inr (by rw[List.reverse_reverse]))
   ·have hw':=zcu hw;rw[List.reverse_reverse] at hw';rcases hq with rfl|rfl
    ·exact .row hw' (.inr (by rw[List.reverse_reverse]))
    ·exact .row hw' (.inl (by rw[List.reverse_reverse]))
theorem zh9{F G:Tr->Tr->Prop}(h:∀ a b,F a b->G b a):∀{p q:List Tr},Paired F p q->Paired G q p
 |_,_,.nil=>.nil
 |_,_,.cons x y=>.cons (h _ _ x) (zh9 h y)
theorem zkW{x:List Int}:∀{p q:List Tr}{ys:List (List Int)},Paired zcF p q->Paired (λy t=>y∈zan t) ys p->Paired (λy t=>y∈zan t) ys q
 |_,_,_,.nil,.nil=>.nil
 |_,_,_,.cons h t,.cons a b=>.cons ((h _).mp a) (zkW (x:=x) t b)
theorem half{r:Bool}{l l2:List Tr}{x:List Int}(h:∀ p∈arr r l,∃ q∈arr r l2,Paired zcF p q)(hx:x∈zan (.nd r l)):x∈zan (.nd r l2):=by obtain ⟨p,hp,ys,h1,h2⟩:=zaH.mp hx;obtain ⟨q,hq,hpq⟩:=h p hp;exact zaH.mpr ⟨q,hq,ys,zkW (x:=x) hpq h1,h2⟩
theorem zqk{bs p:List Tr}:p∈arr false bs ↔ p.Perm bs:=by unfold arr;rw[if_neg xws];exact zcx _ _ _ rfl
theorem zm0{bs p:List Tr}:p∈arr true bs ↔ p=bs\/p=bs.reverse:=by unfold arr;rw[if_pos rfl];simp
theorem zf9{n:Nat}(IH:∀ a b,dep a<=n->Tw a b->zcF a b):∀{p q:List Tr},(∀ t∈p,dep t<=n)->Paired Tw p q->Paired zcF p q
 |_,_,_,.nil=>.nil
 |_,_,h,.cons x y=>.cons (IH _ _ (h _ wau) x) (zf9 IH (λt ht=>h t (wah _ ht)) y)
theorem zfT{r:Bool}{l l1 l2:List Tr}(hp:Paired zcF l l1)(h:if r then l2=l1\/l2=l1.reverse else l1.Perm l2):∀ p∈arr r l,∃ q∈arr r l2,Paired zcF p q:=λp hpa=>by
 cases r with
 |false =>
  obtain ⟨q,h1,h2⟩:=zfx (zqk.mp hpa).symm hp;exact ⟨q,zqk.mpr (h2.symm.trans h),h1⟩
 |true =>
  rcases zm0.mp hpa with rfl|rfl
  ·refine ⟨l1,zm0.mpr ?_,hp⟩;rcases h with rfl|rfl
   ·exact .inl rfl
   ·exact .inr (by rw[List.reverse_reverse])
  ·refine ⟨l1.reverse,zm0.mpr ?_,zcu hp⟩;rcases h with rfl|rfl
   ·exact .inr rfl
   ·exact .inl rfl
theorem zqz{a b:Tr}(h:zcF a b):zcF b a:=λx=>(h x).symm
theorem zqj{r:Bool}{l l1 l2:List Tr}(hp:Paired zcF l l1)(h:if r then l2=l1\/l2=l1.reverse else l1.Perm l2):zcF (.nd r l) (.nd r l2):=λx =>
 ⟨half (zfT hp h),half (r:=r) (l:=l2) (λp hpa=>by
  have hb:=zh9 (λ_ _=>zqz) hp;cases r with
  |false =>
   obtain ⟨m,h1,h2⟩:=zfx (show l1.Perm l2 from h) hb;exact zfT (r:=false) h1 h2.symm p hpa
  |true =>
   rcases h with rfl|rfl
   ·exact zfT (r:=true) hb (.inl rfl) p hpa
   ·exact zfT (r:=true) (zcu hb) (.inr (by rw[List.reverse_reverse])) p hpa)⟩
theorem zhu:∀(n:Nat)(a b:Tr),dep a<=n->Tw a b->zcF a b
 |n,.lf g,_,_,.lf _=>λ_=>Iff.rfl
 |0,.nd r bs,_,h,_=>by simp[dep] at h
 |n+1,.nd false bs,_,h,.any h1 h2=>zqj (r:=false) (zf9 (zhu n) (zaS.mp (by simpa [dep] using h)) h1) h2
 |n+1,.nd true bs,_,h,.row h1 h2=>zqj (r:=true) (zf9 (zhu n) (zaS.mp (by simpa [dep] using h)) h1) h2
theorem zo2{a b:Tr}(ha:zbI a)(hb:zbI b):zcF a b ↔ zay b=zay a:=by
 constructor
 ·intro h;exact zld _ a b (wal _) (zvO _ _ _ (wal _) (zsW _ a b (wal _) ha hb h)) ha.o ha.n
 ·intro h x;have h1:=zhu _ _ _ (wal _) (zdV _ a (wal _));have h2:=zhu _ _ _ (wal _) (zdV _ b (wal _));rw[h1 x,h2 x,h]
theorem znM{x y z:Dt}{bs:List B}:∀{Z:Ev}{k:Nat},zix [.d x,.d y,.d z] bs k Z = Z
 |[],_=>rfl
 |o::r,k=>by show (match zeB [.d x,.d y,.d z] k with|some j=>bs[j]?|none=>o)::zix [.d x,.d y,.d z] bs (k+1) r=_;rw[znM (Z:=r)];rfl
theorem zp9{F:FD}{fa fb fc:De}{Z Z1 Z2 Z3:Ev}{d e g y:Dt}{l:List B}(h:fa Z=.ok (d,Z1))(h2:fb Z1=.ok (e,Z2))(h3:fc Z2=.ok (g,Z3))(hF:F [.val d,.val e,.val g]=.ok (y,l)):zai F (dR fa (dR fb (dR fc dR0))) Z=.ok (y,Z3):=by unfold zai dR dR0;rw[h];simp only[R.bind_ok,h2,h3,zoy,zb1,if_true,zaD,hF];rw[znM]
theorem zky{F:FD}{fa:De}{Z Z':Ev}{d:Dt}{y:List Dt}{l:List B}(h:fa Z=.ok (d,Z'))(hF:F [.val d]=.ok (.lst y,l)):zbn F (dR fa dR0) Z=.ok (y,Z'):=by unfold zbn dR dR0;rw[h];simp only[R.bind_ok,zoy,zb1,if_true,zaD,hF];rw[zns]
theorem zpW:∀(n:Nat)(t:Tr),dep t<=n->okT t=true->dep t<=(zac t).length
 |0,t,h,_=>by cases t <;> simp[dep] at h
 |n+1,.lf g,_,_=>by simp[dep,zac]
 |n+1,.nd r l,h,ho=>by
  simp only[dep] at h ⊢;have hd:=zaS.mp (by omega:zdi l<=n);rw[okT,Bool.and_eq_true,decide_eq_true_eq,zcR,List.all_eq_true] at ho;have h2:2<=l.length:=by have:=ho.1;cases r <;> simp at this <;> omega
  show zdi l+1<=(zad l).length;refine Nat.succ_le_of_lt (Nat.lt_of_le_of_lt (zaS.mpr λt ht=>?_:zdi l<=(zad l).length-1) ?_)
  ·have e:=zpW n t (hd t ht) (ho.2 t ht);obtain ⟨A,B,rfl⟩:=List.append_of_mem ht;have:∃ u,u∈A++B:=by
    cases e:A++B with
    |nil=>simp at e;simp[e.1,e.2] at h2
    |cons u q=>exact ⟨u,xws⟩
   obtain ⟨u,hu⟩:=this;have hu':u∈A++t::B:=by rcases wax.mp hu with q|q <;> simp[q]
   have e1:=List.length_pos_iff.mpr (zb5 n u (hd u hu') (ho.2 u hu'));have e2:=zda hu;rw[zbh] at e2 ⊢;simp only[zad,wav] at e2 ⊢;omega
  ·cases l with
   |nil=>simp at h2
   |cons t q =>
    have:=List.length_pos_iff.mpr (zb5 n t (hd t xws) (ho.2 t xws));simp only[zad,wav];omega
structure Sm(t:Tr):Prop where
 ok:zbI t
 l:(zac t).length<=6
theorem Sm.d{t:Tr}(h:Sm t):dep t<=6:=waN (zpW _ t (wal _) h.ok.o) h.l
theorem Sm.ne{t:Tr}(h:Sm t):zac t≠[]:=zbH h.ok
variable{p:List Int}
theorem zcv{t:Tr}(S:Sm t):zbl [.val (toD t),.val (tz p)]=.ok (.int (sh p t:Nat),[.val .non,.val .non]):=by
 have hd:=S.d;have hl:=S.l;let G:=zbd (zac t);have hG:G.Perm (zac t):=zaO _;let M:=G.filter λg=>decide (g∈p);let Z0:Ev:=[some (.val (toD t)),some (.val (tz p)),none,none]
 let Z1:Ev:=[some (.val (toD t)),some (.val (tz p)),some (.val (.lst (G.map .int))),none]
 let Z2:Ev:=[some (.val (toD t)),some (.val (tz p)),some (.val (.lst (G.map .int))),some (.val (.int (M.length:Nat)))]
 refine zaj (Z':=Z2) rfl ?_ rfl;refine (zag (Z1:=Z1) ?_).trans ((zag (Z1:=Z2) ?_).trans ?_)
 ·exact zaM (Z1:=Z0) (zeg (Z':=Z0) (d:=toD t) rfl (znz xwo xwo)) (show 2<4 by decide)
 ·refine zaM (Z1:=Z1) (zdF (d:=.lst (M.map .int)) (zba ?_) (by simp[zc3,wag])) (show 3<4 by decide);refine zco (u:=Dt.int) (f:=Dt.int) (p:=λg=>decide (g∈p)) (l:=G) (ds:=G.map .int) rfl rfl rfl (by rw[hG.length_eq];omega) (λg hg=>?_) λg hg _=>rfl;refine zaG (zau (d:=.int g) (e:=tz p) rfl rfl ?_);rw[tz,(zh6 rfl zh2).1,zgr];rfl
 ·have e0:M.length=0 ↔ sh p t=0:=by rw[zmS,List.length_eq_zero_iff,List.filter_eq_nil_iff];exact ⟨λh g hg=>by simpa using h g (hG.mem_iff.mpr hg),λh g hg=>by simpa using h g (hG.mem_iff.mp hg)⟩
  have e2:M.length=G.length ↔ sh p t=2:=by rw[ztf S.ne,List.length_filter_eq_length_iff];exact ⟨λh g hg=>by simpa using h g (hG.mem_iff.mpr hg),λh g hg=>by simpa using h g (hG.mem_iff.mp hg)⟩
  have t0:dTB (dOp (gEq false) (zab 3) (dC (.int 0))) Z2=.ok (((M.length:Nat):Int) == 0,Z2):=zaG (zau (d:=.int (M.length:Nat)) (e:=.int 0) rfl rfl zrc);have t2:dTB (dOp (gEq false) (zab 3) (dFn zc3 (dA (zab 2) dA0))) Z2=.ok (((M.length:Nat):Int) == ((G.length:Nat):Int),Z2):=zaG (zau (d:=.int (M.length:Nat)) (e:=.int (G.length:Nat)) rfl (zdF (d:=.lst (G.map .int)) rfl (by simp[zc3])) zrc);rcases zjW (p:=p) t with e|e|e
  ·rw[e0.mpr e] at t0;refine (zbz (Z1:=Z2) (d:=.int 0) ?_).trans (by rw[e];rfl);exact (zd5 t0).trans rfl
  ·have n0:(((M.length:Nat):Int) == 0)=false:=by rw[beq_eq_false_iff_ne];intro z;have:=e0.mp xwo;omega
   have n2:(((M.length:Nat):Int) == ((G.length:Nat):Int))=false:=by rw[beq_eq_false_iff_ne];intro z;have:=e2.mp xwo;omega
   rw[n0] at t0;rw[n2] at t2;refine (zag (Z1:=Z2) ((zcm t0).trans rfl)).trans (zbe ?_);unfold zk7;rw[t2,e];rfl
  ·have n0:(((M.length:Nat):Int) == 0)=false:=by rw[beq_eq_false_iff_ne];intro z;have:=e0.mp xwo;omega
   have n2:(((M.length:Nat):Int) == ((G.length:Nat):Int))=true:=by rw[beq_iff_eq];have:=e2.mpr e;omega
   rw[n0] at t0;rw[n2] at t2;refine (zag (Z1:=Z2) ((zcm t0).trans rfl)).trans (zbe ?_);unfold zk7;rw[t2,e];rfl
theorem zjR{l:List Tr}{d:Dt}{k:Nat}(hs:∀ t∈l,Sm t)(hd:zh0 d=some (l.map toD))(hl:l.length<=1000):zax [.val d,.val (tz p),.val (.int (k:Nat))]=.ok (.lst ((ws p k l).map toD),[.val .non,.val .non,.val .non]):=by
 let Z:Ev:=[some (.val d),some (.val (tz p)),some (.val (.int (k:Nat)))]
 refine zaj (Z':=Z) rfl ?_ rfl;refine zbe (zba ?_);refine (zco (u:=toD) (f:=toD) (p:=λb=>sh p b == k) (l:=l) (ds:=l.map toD) (fi:=dIt (zab 0)) (Z0:=Z) ?_ rfl rfl xwo (λb hb=>?_) λb hb _=>rfl).trans rfl
 ·have e:zab 0 Z=.ok (d,Z):=rfl;unfold dIt;rw[e];simp only[R.bind_ok];cases d <;> simp[zh0] at hd
  all_goals rw[hd]
 ·refine zaG (zau (d:=.int (sh p b:Nat)) (e:=.int (k:Nat)) (zcN (d:=toD b) (e:=tz p) rfl rfl (zcv (hs b hb))) rfl ?_);rw[zrc];have:(((sh p b:Nat):Int) == ((k:Nat):Int))=(sh p b == k):=by rw[Bool.eq_iff_iff,beq_iff_eq,beq_iff_eq];omega
  rw[if_neg xwd,this]
theorem zgT{l:List Tr}(hl:l.length<=1000):zb6 [.val (.lst (l.map toD))]=.ok (.lst ((bun l).map toD),[.val .non]):=by
 let Z:Ev:=[some (.val (.lst (l.map toD)))]
 refine zaj (Z':=Z) rfl ?_ rfl;have t0:dTB (dOp gLt (dFn zc3 (dA (zab 0) dA0)) (dC (.int 2))) Z=.ok (decide (((l.length:Nat):Int)<2),Z):=zaG (zau (d:=.int (l.length:Nat)) (e:=.int 2) (zdF (d:=.lst (l.map toD)) rfl (by simp[zc3])) rfl rfl);by_cases h:l.length<2
 ·rw[decide_eq_true xwo] at t0;refine (zbz (Z1:=Z) (d:=.lst ((bun l).map toD)) ?_);refine (zd5 t0).trans (zdY ?_);rw[bun,if_pos h];rfl
 ·rw[decide_eq_false xwo] at t0;refine (zag (Z1:=Z) ((zcm t0).trans rfl)).trans (zdY ?_);rw[bun,if_neg h,List.map_cons,List.map_nil,toD,zbk];rfl
variable{p:List Int}
theorem zkQ{r:Bool}{bs:List Tr}(S:Sm (.nd r bs)):(∀ b∈bs,Sm b)/\bs.length<=6/\bs≠[]:=by
 obtain ⟨_,hk,hl⟩:=S.ok.kids;have h6:(zad bs).length<=6:=S.l;refine ⟨λb hb=>⟨hk b hb,waN (zda hb) h6⟩,?_,λz=>by rw[z] at hl;cases r <;> simp at hl⟩;have:∀ l:List Tr,(∀ b∈l,zbI b)->l.length<=(zad l).length:=λl=>by
  induction l with
  |nil=>intro _;simp
  |cons t q ih =>
   intro h;have h1:=List.length_pos_iff.mpr (zbH (h t xws));have h2:=ih λb hb=>h b (by simp[hb]);simp only[zad,wav,wan];omega
 exact waN (this bs hk) h6
noncomputable abbrev lo2:DS:=dIf (dTB (dOp gGt (zai zbl (dR (dOp gIx (zab 2) (dC (.int 0))) (dR (zab 1) dR0))) (zai zbl (dR (dOp gIx (zab 2) (zqZ (dC (.int 1)))) (dR (zab 1) dR0))))) (ze5 (zp2 (zab 2))) dNx
noncomputable abbrev zxH:DS:=za3 (zbi 3 (zai zax (dR (zab 2) (dR (zab 1) (dR (dC (.int 1)) dR0))))) (za3 (zbi 4 (dFz (zbn zb6 (dR (zai zax (dR (zab 2) (dR (zab 1) (dR (dC (.int 0)) dR0)))) dR0)))) (ze5 (zig (dFz (zig (zab 4) (zab 3))) (dFz (zbn zb6 (dR (zai zax (dR (zab 2) (dR (zab 1) (dR (dC (.int 2)) dR0)))) dR0))))))
theorem zsY:zeU=za3 (zbi 2 (dOp gIx (zab 0) (dC (.int 1)))) (za3 (dIf (dTB (dOp (gEq false) (dOp gIx (zab 0) (dC (.int 0))) (dC (.str (Str.ofString "any"))))) zxH dNx) (za3 lo2 (ze5 (ze3 ziq (dA (zab 2) dA0))))):=rfl
theorem zrf{L:List Tr}(h:L≠[]):gIx (.tup (L.map toD)) (.int 0)=.ok (toD (L.headD (.lf 0))):=by
 cases L with
 |nil=>exact absurd rfl h
 |cons a q =>
  unfold gIx;simp only[List.map_cons,zff];rfl
theorem zsz{L:List Tr}(h:L≠[]):gIx (.tup (L.map toD)) (.int (-1))=.ok (toD (L.getLastD (.lf 0))):=by
 unfold gIx;have:atI (L.map toD) (-1)=some (toD (L.getLastD (.lf 0))):=by
  rw[zhd (by simpa using h),List.getLast?_map,List.getLastD_eq_getLast?];cases e:L.getLast? with
  |none=>exact absurd (List.getLast?_eq_none_iff.mp e) h
  |some a=>rfl
 simp only[this]
theorem ztO{L:List Tr}(h:L≠[]):L.headD (.lf 0)∈L:=by
 cases L with
 |nil=>exact absurd rfl h
 |cons a q=>simp
theorem zuL{L:List Tr}(h:L≠[]):L.getLastD (.lf 0)∈L:=by rw[List.getLastD_eq_getLast?,List.getLast?_eq_some_getLast h];exact List.getLast_mem h
theorem zmf(l:List Tr):(bun l).length<=l.length:=by
 unfold bun;split
 ·exact wal _
 ·simp;omega
theorem ztS{r:Bool}{bs:List Tr}(S:Sm (.nd r bs)):zdf [.val (toD (.nd r bs)),.val (tz p)]=.ok (.lst ((zbr p r bs).map toD),[.val .non,.val .non]):=by
 obtain ⟨hk,hl,hne⟩:=zkQ S;let T:Option B:=some (.val (toD (.nd r bs)));let P:Option B:=some (.val (tz p));let K:Option B:=some (.val (.tup (bs.map toD)));let Z0:Ev:=[T,P,none,none,none]
 let Z1:Ev:=[T,P,K,none,none]
 have hT:zab 0 Z0=.ok (toD (.nd r bs),Z0):=rfl;have e1:zbi 2 (dOp gIx (zab 0) (dC (.int 1))) Z0=.ok (.nx,Z1):=by have:=zfa hT;rw[zbk] at this;exact zaM (Z1:=Z0) this (show 2<5 by decide)
 have hT1:zab 0 Z1=.ok (toD (.nd r bs),Z1):=rfl;have t0:=zaG (zjP hT1);have W:∀(k:Nat)(Z:Ev),zab 2 Z=.ok (.tup (bs.map toD),Z)->zab 1 Z=.ok (tz p,Z)->zai zax (dR (zab 2) (dR (zab 1) (dR (dC (.int (k:Nat))) dR0))) Z=.ok (.lst ((ws p k bs).map toD),Z):=λk Z h2 h1=>zp9 h2 h1 rfl (zjR hk rfl xwo);have wl:∀ k,(ws p k bs).length<=6:=λk=>waN (List.length_filter_le _ _) hl;cases r with
 |false =>
  let Z2:Ev:=[T,P,K,some (.val (.lst ((ws p 1 bs).map toD))),none]
  let Z3:Ev:=[T,P,K,some (.val (.lst ((ws p 1 bs).map toD))),some (.val (.lst ((bun (ws p 0 bs)).map toD)))]
  refine zaj (Z':=Z3) rfl ?_ rfl;rw[zsY];refine (zag e1).trans (zbz ((zd5 t0).trans ?_));refine (zag (Z1:=Z2) ?_).trans ((zag (Z1:=Z3) ?_).trans (zdY ?_))
  ·exact zaM (Z1:=Z1) (W 1 Z1 rfl rfl) (show 3<5 by decide)
  ·exact zaM (Z1:=Z2) (zba (zky (W 0 Z2 rfl rfl) (zgT (waN (wl 0) xwd)))) (show 4<5 by decide)
  ·have b0:=zmf (ws p 0 bs);have b2:=zmf (ws p 2 bs);have w0:=wl 0;have w1:=wl 1;have w2:=wl 2;have c1:zig (zab 4) (zab 3) Z3=.ok ((bun (ws p 0 bs)).map toD++(ws p 1 bs).map toD,Z3):=zkZ rfl rfl (by simp only[wag];omega);have:=zkZ (zba c1) (zba (zky (W 2 Z3 rfl rfl) (zgT (l:=ws p 2 bs) xwo))) (by simp only[wag,wav];omega);refine this.trans ?_;rw[zbr,if_neg xwd,List.map_append,List.map_append,List.append_assoc]
 |true =>
  refine zaj (Z':=Z1) rfl ?_ rfl;rw[zsY];refine (zag e1).trans ((zag (Z1:=Z1) ((zcm t0).trans rfl)).trans ?_);have g1:dTB (dOp gGt (zai zbl (dR (dOp gIx (zab 2) (dC (.int 0))) (dR (zab 1) dR0))) (zai zbl (dR (dOp gIx (zab 2) (zqZ (dC (.int 1)))) (dR (zab 1) dR0)))) Z1=.ok (decide (((sh p (bs.getLastD (.lf 0)):Nat):Int)<((sh p (bs.headD (.lf 0)):Nat):Int)),Z1):=by refine zaG (zau (Z1:=Z1) (zcN (Z':=Z1) (zau (Z1:=Z1) (d:=.tup (bs.map toD)) (e:=.int 0) rfl rfl (zrf hne)) rfl (zcv (hk _ (ztO hne)))) (zcN (Z':=Z1) (zau (Z1:=Z1) (d:=.tup (bs.map toD)) (e:=.int (-1)) rfl rfl (zsz hne)) rfl (zcv (hk _ (zuL hne)))) ?_);rfl
  by_cases hgt:sh p (bs.headD (.lf 0)) > sh p (bs.getLastD (.lf 0))
  ·rw[decide_eq_true xwo] at g1;refine zbz ((zd5 g1).trans (zdY ?_));have e:zab 2 Z1=.ok (.tup (bs.map toD),Z1):=rfl;unfold zp2;rw[e];simp only[R.bind_ok];rw[if_neg (by rw[List.length_map];exact λz=>hne (List.length_eq_zero_iff.mp z)),zbr,if_pos rfl,if_pos hgt,List.map_reverse]
  ·rw[decide_eq_false xwo] at g1;refine (zag (Z1:=Z1) ((zcm g1).trans rfl)).trans (zdY ?_);rw[zbr,if_pos rfl,if_neg hgt];rfl
variable{p:List Int}
section
variable{f:Tr->List Tr}
theorem zk6:∀{dn acc:List Tr}{b:Tr},zbc f p acc (dn++[b])=zbc f p acc dn++(if ((zbc f p acc dn).any λx=>sh p x == 2)=true then (f b).reverse else f b)
 |[],acc,b=>rfl
 |a::dn,acc,b=>by rw[List.cons_append,zbc,zbc];exact zk6
theorem zj5:∀{os acc:List Tr}{x:Tr},x∈zbc f p acc os->x∈acc\/∃ b∈os,x∈f b
 |[],acc,x,h=>.inl h
 |b::os,acc,x,h=>by
  rw[zbc] at h;rcases zj5 h with h|⟨c,hc,h⟩
  ·rcases wax.mp h with h|h
   ·exact .inl h
   ·refine .inr ⟨b,wau,?_⟩;split at h
    ·exact List.mem_reverse.mp h
    ·exact h
  ·exact .inr ⟨c,wah _ hc,h⟩
theorem zlJ{k:Nat}:∀{os acc:List Tr},(∀ b∈os,(f b).length<=k)->(zbc f p acc os).length<=acc.length+os.length * k
 |[],acc,_=>by simp[zbc]
 |b::os,acc,h=>by
  rw[zbc];refine waN (zlJ λc hc=>h c (wah _ hc)) ?_;have h1:=h b wau;have h2:(if (acc.any λx=>sh p x == 2)=true then (f b).reverse else f b).length=(f b).length:=by split <;> simp
  rw[List.length_append,h2,List.length_cons,Nat.succ_mul];omega
theorem zt6{acc:List Tr}:((acc.any λx=>sh p x == 2)=true) ↔ 0<(ws p 2 acc).length:=by
 rw[List.any_eq_true,List.length_pos_iff,ne_eq,List.filter_eq_nil_iff];constructor
 ·rintro ⟨x,hx,e⟩ h;exact h x hx e
 ·intro h;refine Classical.byContradiction λz=>h λx hx e=>z ⟨x,hx,e⟩
noncomputable abbrev zy3:De:=zrE 2 (zab 1) (dC (.int 2)) zax
noncomputable abbrev zv8(F:FD):DS:=za3 (zbi 4 (zai F (dR (zab 3) (dR (zab 1) dR0)))) (za3 (dIf (dTB (dOp gGt zy3 (dC (.int 0)))) (zbi 4 (dFz (zgI (zab 4)))) dNx) (dEx (zgH 2 (zab 4))))
theorem zr9(F:FD):ztc F=za3 (zck 2 (zdg dA0)) (za3 (zgE (dIt (zab 0)) (zb7 3) (zv8 F)) (zbt (zfl 2))):=rfl
theorem zkB{F:FD}{os:List Tr}{d:Dt}(hd:zh0 d=some (os.map toD))(hF:∀ b∈os,F [.val (toD b),.val (tz p)]=.ok (.lst ((f b).map toD),[.val .non,.val .non]))(hS:∀ b∈os,∀ x∈f b,Sm x)(hk:∀ b∈os,(f b).length<=6)(hl:os.length<=12) :
  ziE F [.val d,.val (tz p)]=.ok (.lst ((zbc f p [] os).map toD),[.val .non,.val .non]):=by
 let D:Option B:=some (.val d);let P:Option B:=some (.val (tz p));let I:List Tr->Ev->Prop:=λdn Z=>∃ o3 o4,Z=[D,P,some (.own ((zbc f p [] dn).map toD)),o3,o4]
 let Z0:Ev:=[D,P,some (.own []),none,none]
 have hi:dIt (zab 0) Z0=.ok (os.map toD,Z0):=by
  have e:zab 0 Z0=.ok (d,Z0):=rfl;unfold dIt;rw[e];simp only[R.bind_ok];cases d <;> simp[zh0] at hd
  all_goals rw[hd]
 obtain ⟨Z',⟨o3,o4,rfl⟩,hf⟩:=zca (u:=toD) (l:=os) (I:=I) (g:=zb7 3) (body:=zv8 F) hi rfl ⟨none,none,rfl⟩ λdn b zbV e Z hI=>by
  obtain ⟨o3,o4,rfl⟩:=hI;have hb:b∈os:=by rw[e];simp
  have hsub:∀ c∈dn,c∈os:=λc hc=>by rw[e];simp[hc]
  have acl:(zbc f p [] dn).length<=72:=by
   have:=zlJ (p:=p) (acc:=[]) (os:=dn) λc hc=>hk c (hsub c hc);have:dn.length<=os.length:=by rw[e];simp
   simp at *;omega
  have acs:∀ x∈zbc f p [] dn,Sm x:=λx hx=>by
   rcases zj5 hx with h|⟨c,hc,h⟩
   ·cases h
   ·exact hS c (hsub c hc) x h
  let A:=zbc f p [] dn;let Z1:Ev:=[D,P,some (.own (A.map toD)),some (.val (toD b)),o4]
  let M:=if (A.any λx=>sh p x == 2)=true then (f b).reverse else f b
  let Z2:Ev:=[D,P,some (.own (A.map toD)),some (.val (toD b)),some (.val (.lst ((f b).map toD)))]
  let Z3:Ev:=[D,P,some (.own (A.map toD)),some (.val (toD b)),some (.val (.lst (M.map toD)))]
  let Z4:Ev:=[D,P,some (.own (A.map toD++M.map toD)),some (.val (toD b)),some (.val (.lst (M.map toD)))]
  have Ml:M.length<=6:=by
   have:=hk b hb;show (if _ then _ else _:List Tr).length<=6;split
   ·rw[List.length_reverse];exact this
   ·exact this
  refine ⟨Z1,Z4,rfl,?_,⟨some (.val (toD b)),some (.val (.lst (M.map toD))),?_⟩⟩
  ·refine (zag (Z1:=Z2) ?_).trans ((zag (Z1:=Z3) ?_).trans ?_)
   ·exact zaM (Z1:=Z1) (zcN (Z':=Z1) (d:=toD b) (e:=tz p) rfl rfl (hF b hb)) (show 4<5 by decide)
   ·have hlen:zy3 Z2=.ok (.int ((ws p 2 A).length:Nat),Z2):=by have w:=zjR (p:=p) (k:=2) (d:=.lst (A.map toD)) acs rfl xwo;show (match zax [.val (.lst (A.map toD)),.val (tz p),.val (.int ((2:Nat):Int))] with|.ok (.lst ds,_)=>R.ok (Dt.int ds.length,Z2)|_=>.no)=_;rw[w];simp only[wag];rfl
    have tg:dTB (dOp gGt zy3 (dC (.int 0))) Z2=.ok (decide ((0:Int)<((ws p 2 A).length:Nat)),Z2):=zaG (zau (e:=.int 0) hlen rfl rfl);by_cases ha:(A.any λx=>sh p x == 2)=true
    ·have:=zt6.mp ha;rw[decide_eq_true xwo] at tg;refine (zd5 tg).trans ((zaM (Z1:=Z2) (d:=.lst (((f b).map toD).reverse)) rfl (show 4<5 by decide)).trans ?_);have eM:M=(f b).reverse:=if_pos ha;show R.ok (Fl.nx,[D,P,some (.own (A.map toD)),some (.val (toD b)),some (.val (.lst (((f b).map toD).reverse)))])=.ok (.nx,[D,P,some (.own (A.map toD)),some (.val (toD b)),some (.val (.lst (M.map toD)))]);rw[eM,List.map_reverse]
    ·have:¬ 0<(ws p 2 A).length:=λz=>ha (zt6.mpr z);rw[decide_eq_false xwo] at tg;refine (zcm tg).trans ?_;have eM:M=f b:=if_neg ha;show R.ok (Fl.nx,Z2)=.ok (.nx,[D,P,some (.own (A.map toD)),some (.val (toD b)),some (.val (.lst (M.map toD)))]);rw[eM]
   ·exact zeo (zph (Z1:=Z3) (l0:=A.map toD) (ds:=A.map toD) (l:=M.map toD) (d:=.lst (M.map toD)) rfl rfl rfl rfl (by have:A.length<=72:=acl;simp only[wag];omega))
  ·show [D,P,some (.own (A.map toD++M.map toD)),some (.val (toD b)),some (.val (.lst (M.map toD)))]=[D,P,some (.own ((zbc f p [] (dn++[b])).map toD)),some (.val (toD b)),some (.val (.lst (M.map toD)))]
   rw[zk6,List.map_append]
 refine zaj (Z':=[D,P,some (.val (.lst ((zbc f p [] os).map toD))),o3,o4]) rfl ?_ rfl;rw[zr9];refine (zag (Z1:=Z0) rfl).trans ((zag hf).trans (zbe ?_));rfl
end
variable{p:List Int}
theorem zqt{l:List Tr}(h:∀ x∈l,zbI x)(h6:(zad l).length<=6):(∀ x∈l,Sm x)/\l.length<=6:=by
 refine ⟨λb hb=>⟨h b hb,waN (zda hb) h6⟩,?_⟩;have:∀ l:List Tr,(∀ b∈l,zbI b)->l.length<=(zad l).length:=λl=>by
  induction l with
  |nil=>intro _;simp
  |cons t q ih =>
   intro h;have h1:=List.length_pos_iff.mpr (zbH (h t xws));have h2:=ih λb hb=>h b (by simp[hb]);simp only[zad,wav,wan];omega
 exact waN (this l h) h6
theorem zgw{n:Nat}{t:Tr}(S:Sm t)(h:sh p t=1->dep t<=n):(∀ x∈zcj n p t,Sm x)/\(zcj n p t).length<=6:=by have L:=zib n t h S.ok;exact zqt L.ok (by rw[L.lv.length_eq];exact S.l)
theorem zmM:∀(n:Nat)(t:Tr),Sm t->(sh p t=1->dep t<=n)->zdy (n+1) [.val (toD t),.val (tz p)]=.ok (.lst ((zcj n p t).map toD),[.val .non,.val .non]):=by
 have body:∀(F:FD)(t:Tr),Sm t->dTB (dOp (gEq true) (zai zbl (dR (zab 0) (dR (zab 1) dR0))) (dC (.int 1))) [some (.val (toD t)),some (.val (tz p))]=.ok (!(((sh p t:Nat):Int) == 1),[some (.val (toD t)),some (.val (tz p))]):=λF t S=>by refine zaG (zau (Z1:=[some (.val (toD t)),some (.val (tz p))]) (e:=.int 1) (zcN (d:=toD t) (e:=tz p) rfl rfl (zcv S)) rfl ?_);rw[zrc];rfl
 have one:∀(F:FD)(t:Tr),Sm t->sh p t≠1->za1 false [false,false] 0 (zj0 F) [.val (toD t),.val (tz p)]=.ok (.lst ([t].map toD),[.val .non,.val .non]):=λF t S hs=>by refine zaj (Z':=[some (.val (toD t)),some (.val (tz p))]) rfl ?_ rfl;have b:=body F t S;rw[show (((sh p t:Nat):Int) == 1)=false by rw[beq_eq_false_iff_ne];omega] at b;exact zbz ((zd5 b).trans rfl)
 intro n
 induction n with
 |zero =>
  intro t S h;have hs:sh p t≠1:=λz=>by have:=h z;cases t <;> simp[dep] at this
  rw[zdx hs];exact one _ t S hs
 |succ n ih =>
  intro t S h;by_cases hs:sh p t=1
  ·cases t with
   |lf g=>exact absurd hs zrL
   |nd r bs =>
    have hd:=h hs;simp only[dep] at hd;have hd':=zaS.mp (by omega:zdi bs<=n);obtain ⟨_,hk,_⟩:=S.ok.kids;obtain ⟨o1,o2⟩:=zqt (l:=zbr p r bs) (λx hx=>(zhf hk S.ok.n hx).1) (by rw[(zta (p:=p) (r:=r) (bs:=bs)).length_eq];exact S.l);have hx1:∀ x∈zbr p r bs,sh p x=1->dep x<=n:=λx hx z=>by
     rcases (zhf hk S.ok.n hx).2 with q|q
     ·exact absurd z q
     ·exact hd' x q
    rw[zcj,if_pos hs];show za1 false [false,false] 0 (zj0 (zdy (n+1))) _=.ok (.lst ((zbc (zcj n p) p [] (zbr p r bs)).map toD),_);let Z:Ev:=[some (.val (toD (.nd r bs))),some (.val (tz p))]
    refine zaj (Z':=Z) rfl ?_ rfl;have b:=body (zdy (n+1)) (.nd r bs) S;rw[show (((sh p (.nd r bs):Nat):Int) == 1)=true by rw[beq_iff_eq];omega] at b;refine (zag (Z1:=Z) ((zcm b).trans rfl)).trans (zbe ?_);refine zcN (l:=[.val .non,.val .non]) (Z':=Z) (d:=.lst ((zbr p r bs).map toD)) (e:=tz p) (zba (zng (d:=toD (.nd r bs)) (e:=tz p) rfl rfl (ztS S))) rfl ?_;exact zkB rfl (λx hx=>ih x (o1 x hx) (hx1 x hx)) (λx hx=>(zgw (o1 x hx) (hx1 x hx)).1) (λx hx=>(zgw (o1 x hx) (hx1 x hx)).2) xwo
  ·rw[zdx hs];exact one _ t S hs
variable{p:List Int}
noncomputable def zg4(p:List Int):Nat->List Tr->List Int
 |_,[]=>[]
 |k,x::l=>if sh p x=2 then (k:Int)::zg4 p (k+1) l else zg4 p (k+1) l
noncomputable def enF:Nat->List Tr->List Dt
 |_,[]=>[]
 |k,x::l=>.tup [.int (k:Nat),toD x]::enF (k+1) l
theorem zvH:∀(l:List Tr)(k:Nat),((List.range' k l.length).zip (l.map toD)).map (λz=>Dt.tup [.int (z.1:Nat),z.2])=enF k l
 |[],_=>rfl
 |x::l,k=>by rw[List.length_cons,List.range'_succ,List.map_cons,List.zip_cons_cons,List.map_cons,zvH l (k+1)];rfl
theorem ztd:∀(l:List Tr)(k:Nat),(enF k l).length=l.length
 |[],_=>rfl
 |x::l,k=>by rw[enF,List.length_cons,ztd l,List.length_cons]
theorem zr5(l:List Tr):znZ (l.map toD)=enF 0 l:=by unfold znZ;rw[List.length_map,List.range_eq_range',zvH]
theorem zgY:∀{A:List Tr}{l:List Tr}{k:Nat},(∀ x∈A,sh p x=0)->zg4 p k (A++l)=zg4 p (k+A.length) l
 |[],l,k,_=>rfl
 |a::A,l,k,h=>by rw[List.cons_append,zg4,if_neg (by rw[h a List.mem_cons_self];decide),zgY λx hx=>h x (wah _ hx),wan];congr 1;omega
theorem zpm:∀{A l:List Tr}{k:Nat},zg4 p k (A++l)=zg4 p k A++zg4 p (k+A.length) l
 |[],l,k=>rfl
 |a::A,l,k=>by rw[List.cons_append,zg4,zg4,zpm,List.length_cons,show k+1+A.length=k+(A.length+1) by omega];split <;> rfl
theorem zmB:∀{A:List Tr}{k:Nat},(zg4 p k A).length=(ws p 2 A).length
 |[],_=>rfl
 |a::A,k=>by
  rw[zg4,zf0];split
  ·rw[List.length_cons,zmB];simp
  ·rw[zmB];rfl
theorem zqs{pc:List Tr}(hp:∀ x∈pc,sh p x=0\/sh p x=2)(hn:¬ ∀ x∈pc,sh p x=0) :
  zg4 p 0 pc≠[]/\(NAN p pc ↔ (zg4 p 0 pc).getLastD 0-(zg4 p 0 pc).headD 0=((zg4 p 0 pc).length:Int)-1):=by
 obtain ⟨A,b,B,rfl,hA,hb⟩:=zc7 hn;have hb2:sh p b=2:=by
  rcases hp b xws with e|e
  ·exact absurd e hb
  ·exact e
 rw[zgY hA,Nat.zero_add];have hpre:NAN p (A++b::B) ↔ NAN p (b::B):=zjc zwp hA λz=>hb (z b xws);rw[hpre];by_cases hB:∀ x∈B,sh p x=0
 ·have e:zg4 p A.length (b::B)=[(A.length:Int)]:=by rw[zg4,if_pos hb2];have:=zgY (l:=[]) (k:=A.length+1) hB;rw[List.append_nil] at this;rw[this];rfl
  rw[e];refine ⟨xws,⟨λ_=>by simp,λ_=>⟨[],[b],B,xws,xws,λx hx=>by rw[List.mem_singleton.mp hx];exact hb2,hB⟩⟩⟩
 ·obtain ⟨M,c,Zq,rfl,hZ,hc⟩:=zmU hB;have hc2:sh p c=2:=by
   rcases hp c xws with e|e
   ·exact absurd e hc
   ·exact e
  have e:zg4 p A.length (b::(M++c::Zq))=(A.length:Int)::(zg4 p (A.length+1) M++[((A.length+1+M.length:Nat):Int)]):=by rw[zg4,if_pos hb2,zpm,zg4,if_pos hc2];have:=zgY (l:=[]) (k:=A.length+1+M.length+1) hZ;rw[List.append_nil] at this;rw[this];rfl
  rw[e];have hlast:((A.length:Int)::(zg4 p (A.length+1) M++[((A.length+1+M.length:Nat):Int)])).getLastD 0=((A.length+1+M.length:Nat):Int):=by rw[List.getLastD_eq_getLast?,<- List.cons_append,List.getLast?_append];rfl
  rw[hlast];refine ⟨xws,?_⟩;have hM:NAN p (b::(M++c::Zq)) ↔ ∀ x∈M,sh p x=2:=by rw[show b::(M++c::Zq)=[b]++(M++c::Zq) from rfl,NAN,zke (λz=>hb (z b xws)) (λz=>hc (z c xws)),show (M++c::Zq).reverse=Zq.reverse++([c]++M.reverse) by simp,ziI zwp (zbE.mpr hZ) (λz=>hc (z c xws)),zbE];exact ⟨λh=>h.2.2,λh=>⟨zpL λx hx=>by rw[List.mem_singleton.mp hx];exact hb2,zpL λx hx=>by rw[List.mem_singleton.mp hx];exact hc2,h⟩⟩
  rw[hM];simp only[List.headD_cons,wan,wav,List.length_nil,zmB];have hle:(ws p 2 M).length<=M.length:=List.length_filter_le _ _;constructor
  ·intro h;rw[zgc h];omega
  ·intro h;have e2:ws p 2 M=M:=List.filter_sublist.eq_of_length (show (ws p 2 M).length=M.length by omega);intro x hx;rw[<- e2] at hx;exact (zcC.mp hx).2
theorem zno{a b c d:Option B}{ft:DT}:∀{l:List Tr}{k:Nat}{o o2:Option B},(∀ x∈l,∀ o,ft [a,b,c,d,o,some (.val (toD x))]=.ok (decide (sh p x=2),[a,b,c,d,o,some (.val (toD x))])) ->
  ∃ o' o2',zcl (zgo 4 5) ft (zab 4) (enF k l) [a,b,c,d,o,o2]=.ok ((zg4 p k l).map .int,[a,b,c,d,o',o2'])
 |[],k,o,o2,_=>⟨o,o2,rfl⟩
 |x::l,k,o,o2,h=>by
  obtain ⟨o',o2',e⟩:=zno (l:=l) (k:=k+1) (o:=some (.val (.int (k:Nat)))) (o2:=some (.val (toD x))) λy hy=>h y (wah _ hy);refine ⟨o',o2',?_⟩;have hx:=h x wau (some (.val (.int (k:Nat))));rw[enF,zcl];have hg:zgo 4 5 (.tup [.int (k:Nat),toD x]) [a,b,c,d,o,o2]=.ok [a,b,c,d,some (.val (.int (k:Nat))),some (.val (toD x))]:=rfl;rw[hg];simp only[R.bind_ok,hx];by_cases q:sh p x=2
  ·have hv:zab 4 [a,b,c,d,some (.val (.int (k:Nat))),some (.val (toD x))]=.ok (.int (k:Nat),[a,b,c,d,some (.val (.int (k:Nat))),some (.val (toD x))]):=rfl;simp only[q,decide_true,if_true,hv,R.bind_ok,e];rw[zg4,if_pos q];rfl
  ·simp only[q,decide_false,Bool.false_eq_true,if_false,e];rw[zg4,if_neg q]
variable{p:List Int}
noncomputable abbrev pcs(p:List Int)(os:List Tr):List Tr:=zbc (zcj 7 p) p [] os
theorem zxf{os:List Tr}(hs:∀ x∈os,Sm x):∀ x∈pcs p os,Sm x:=λx hx=>by
 rcases zj5 hx with h|⟨b,hb,h⟩
 ·cases h
 ·exact (zgw (hs b hb) λ_=>waN (hs b hb).d xwd).1 x h
theorem zqY{os:List Tr}(hs:∀ x∈os,Sm x)(hl:os.length<=12):(pcs p os).length<=72:=by have:=zlJ (p:=p) (f:=zcj 7 p) (k:=6) (acc:=[]) (os:=os) λb hb=>(zgw (hs b hb) λ_=>waN (hs b hb).d xwd).2;show (zbc (zcj 7 p) p [] os).length<=72;simp at this;omega
noncomputable abbrev zy0:DN:=zb9 (zoe (zab 2)) (zgo 4 5) (dTB (dOp (gEq false) (zai zbl (dR (zab 5) (dR (zab 1) dR0))) (dC (.int 2)))) (zab 4) 2
noncomputable abbrev zrx:DT:=dTB (dOp (gEq false) (dOp zk4 (dOp gIx (zab 3) (zqZ (dC (.int 1)))) (dOp gIx (zab 3) (dC (.int 0)))) (dOp zk4 (dFn zc3 (dA (zab 3) dA0)) (dC (.int 1))))
theorem zuf:ziU=za3 (zbi 2 (zai (ziE (zdy 8)) (dR (zab 0) (dR (zab 1) dR0)))) (za3 (zbi 3 (dFz zy0)) (zbt (zk7 zrx (zab 2) (dC .non)))):=rfl
open Classical in
theorem zn6{os:List Tr}{d:Dt}(hd:zh0 d=some (os.map toD))(hs:∀ x∈os,Sm x)(hl:os.length<=12)(hp:∀ x∈pcs p os,sh p x=0\/sh p x=2)(hn:¬ ∀ x∈pcs p os,sh p x=0) :
  zcT [.val d,.val (tz p)]=.ok (if NAN p (pcs p os) then .lst ((pcs p os).map toD) else .non,[.val .non,.val .non]):=by
 have hsm:=zxf (p:=p) hs;have hlen:=zqY (p:=p) hs hl;obtain ⟨hne,hiff⟩:=zqs hp hn;have e1:ziE (zdy 8) [.val d,.val (tz p)]=.ok (.lst ((pcs p os).map toD),[.val .non,.val .non]):=zkB hd (λb hb=>zmM 7 b (hs b hb) λ_=>waN (hs b hb).d xwd) (λb hb=>(zgw (hs b hb) λ_=>waN (hs b hb).d xwd).1) (λb hb=>(zgw (hs b hb) λ_=>waN (hs b hb).d xwd).2) hl;generalize pcs p os=pc at *;let D:Option B:=some (.val d);let P:Option B:=some (.val (tz p));let C:Option B:=some (.val (.lst (pc.map toD)));let L:=zg4 p 0 pc;let Z0:Ev:=[D,P,none,none]
 let Z1:Ev:=[D,P,C,none]
 let Z2:Ev:=[D,P,C,some (.val (.lst (L.map .int)))]
 refine zaj (Z':=Z2) rfl ?_ rfl;rw[zuf];refine (zag (Z1:=Z1) ?_).trans ((zag (Z1:=Z2) ?_).trans (zbe ?_))
 ·exact zaM (Z1:=Z0) (zcN (Z':=Z0) (d:=d) (e:=tz p) rfl rfl e1) (show 2<4 by decide)
 ·have hc:zy0 Z1=.ok (L.map .int,Z1):=by
   have he:zoe (zab 2) Z1=.ok (enF 0 pc,Z1):=by have e:zab 2 Z1=.ok (.lst (pc.map toD),Z1):=rfl;unfold zoe;rw[e];simp only[R.bind_ok];rw[zr5]
   obtain ⟨o',o2',e⟩:=zno (p:=p) (a:=D) (b:=P) (c:=C) (d:=none) (ft:=dTB (dOp (gEq false) (zai zbl (dR (zab 5) (dR (zab 1) dR0))) (dC (.int 2)))) (l:=pc) (k:=0) (o:=none) (o2:=none) λx hx o=>by
    refine zaG (zau (d:=.int (sh p x:Nat)) (e:=.int 2) (zcN (d:=toD x) (e:=tz p) rfl rfl (zcv (hsm x hx))) rfl ?_);rw[zrc];have:((((sh p x:Nat):Int) == 2):Bool)=decide (sh p x=2):=by rw[Bool.eq_iff_iff,beq_iff_eq,decide_eq_true_eq];omega
    rw[if_neg xwd,this]
   unfold zy0 zb9;rw[he];simp only[R.bind_ok];rw[if_pos (by unfold zhl;rw[decide_eq_true_eq,ztd];omega)];show (match zcl _ _ _ _ [D,P,C,none,none,none] with|.ok z=>R.ok (z.1,z.2.take 4)|_=>.no)=_;rw[e];rfl
  exact zaM (Z1:=Z1) (zba hc) (show 3<4 by decide)
 ·have ht:zrx Z2=.ok (L.getLastD 0-L.headD 0 == (L.length:Int)-1,Z2):=by refine zaG (zau (Z1:=Z2) (d:=.int (L.getLastD 0-L.headD 0)) (e:=.int ((L.length:Int)-1)) (zau (Z1:=Z2) (d:=.int (L.getLastD 0)) (e:=.int (L.headD 0)) (zau (Z1:=Z2) (d:=.lst (L.map .int)) (e:=.int (-1)) rfl rfl (zrs hne)) (zau (Z1:=Z2) (d:=.lst (L.map .int)) (e:=.int 0) rfl rfl (zrk hne)) rfl) (zau (Z1:=Z2) (d:=.int (L.length:Nat)) (e:=.int 1) (zdF (d:=.lst (L.map .int)) rfl (by simp[zc3])) rfl rfl) zrc)
  unfold zk7;rw[ht];simp only[R.bind_ok];by_cases h:NAN p pc
  ·rw[if_pos h,if_pos (beq_iff_eq.mpr (hiff.mp h))];rfl
  ·rw[if_neg h,if_neg (λz=>h (hiff.mpr (beq_iff_eq.mp z)))];rfl
variable{p:List Int}
noncomputable def toO:Option Tr->Dt
 |none=>.non
 |some t=>toD t
theorem zni{os pc:List Tr}(T:zgy p os pc)(hn:¬ ∀ x∈os,sh p x=0):¬ ∀ x∈pc,sh p x=0:=by refine zgV (t:=.nd true os) T.lv λz=>hn λx hx=>?_;rw[zmS] at z ⊢;intro g hg;exact z g (zaN.mpr ⟨x,hx,hg⟩)
theorem zym{os:List Tr}(h:(ws p 0 os).length+1<=os.length):¬ ∀ x∈os,sh p x=0:=λz=>by rw[zgc z] at h;omega
open Classical in
theorem zpa{bs:List Tr}(S:Sm (.nd true bs))(h2:(ws p 0 bs).length+2<=bs.length) :
  zcP [.val (.tup (bs.map toD)),.val (tz p)]=.ok (toO (if NAN p (pcs p bs) then some (.nd true (pcs p bs)) else none),[.val .non,.val .non]):=by
 obtain ⟨hk,hl,hne⟩:=zkQ S;have L:LOK p (zcj 7 p) bs:=⟨λx hx=>zib 7 x (λ_=>waN (hk x hx).d xwd) (hk x hx).ok,λx _ q=>zdx q,λx hx=>(hk x hx).ok⟩
 have T:=zjI L h2;have E:=zn6 (p:=p) (os:=bs) (d:=.tup (bs.map toD)) rfl hk xwo T.pure (zni T (zym xwo));let K:Option B:=some (.val (.tup (bs.map toD)));let P:Option B:=some (.val (tz p));let x:Dt:=if NAN p (pcs p bs) then .lst ((pcs p bs).map toD) else .non
 let Z1:Ev:=[K,P,some (.val x)]
 refine zaj (Z':=Z1) rfl ?_ rfl;refine (zag (Z1:=Z1) (zaM (Z1:=[K,P,none]) (zcN (Z':=[K,P,none]) (d:=.tup (bs.map toD)) (e:=tz p) rfl rfl E) (show 2<3 by decide))).trans (zbe ?_);by_cases h:NAN p (pcs p bs)
 ·have hx:x=.lst ((pcs p bs).map toD):=if_pos h;have e1:Z1=[K,P,some (.val (.lst ((pcs p bs).map toD)))]:=by rw[<- hx]
  rw[e1,if_pos h];show R.ok (Dt.tup [.str (Str.ofString "row"),.tup ((pcs p bs).map toD)],_)=_;rw[toO,toD,zbk];rfl
 ·have hx:x=.non:=if_neg h;have e1:Z1=[K,P,some (.val .non)]:=by rw[<- hx]
  rw[e1,if_neg h];rfl
variable{p:List Int}
theorem zw5{bs:List Tr}:(zad (zeu p bs)).length<=(zad bs).length:=by
 rw[zeu,zbh,zbh,zh8,<- zbh,<- zbh];have h:((ws p 1 bs).take 1++(ws p 2 bs++(ws p 1 bs).drop 1)).Perm (ws p 1 bs++ws p 2 bs):=by refine (List.Perm.append_left _ List.perm_append_comm).trans ?_;rw[<- List.append_assoc,List.take_append_drop]
 rw[(zbp h).length_eq];have:=(zbp (zc9 (p:=p) bs)).length_eq;rw[zbh,List.length_append] at this;omega
theorem zy2{l:List Tr}:zih (l.map toD) none (some 1)=(l.take 1).map toD:=by have:=zth (l.map toD) 1;rw[List.map_take];exact this
theorem zys{l:List Tr}:zih (l.map toD) (some 1) none=(l.drop 1).map toD:=by have:=zkf (l.map toD) 1;rw[List.map_drop];exact this
noncomputable abbrev wsC(k:Int):De:=zai zax (dR (zab 0) (dR (zab 1) (dR (dC (.int k)) dR0)))
noncomputable abbrev zp4:De:=dFz (zig (dFz (zig (dFz (zk8 (zab 2) dO0 (dO1 (dC (.int 1))))) (zab 3))) (dFz (zk8 (zab 2) (dO1 (dC (.int 1))) dO0)))
noncomputable abbrev zwt:De:=zk7 (dTB (dOp (gEq false) (dFn zc3 (dA (zab 4) dA0)) (dC (.int 1)))) (dOp gIx (zab 4) (dC (.int 0))) (zfp (dA (dC (.str (Str.ofString "row"))) (dA (dFn zdd (dA (zab 4) dA0)) dA0)))
noncomputable abbrev zwf:De:=dOp gIx (dFz (zbn zb6 (dR (dFz (zig (wsC 0) (dFz (zdg (dA (zab 5) dA0))))) dR0))) (dC (.int 0))
theorem zmN:zfS=za3 (zbi 2 (wsC 1)) (za3 (zbi 3 (dFz (zbn zb6 (dR (wsC 2) dR0)))) (za3 (zbi 4 (zai zcT (dR zp4 (dR (zab 1) dR0)))) (za3 (dIf (zu6 true (zab 4)) (zbt (dC .non)) dNx) (za3 (zbi 5 zwt) (zbt zwf))))):=rfl
open Classical in
theorem zq7{bs:List Tr}(S:Sm (.nd false bs))(h2:(ws p 0 bs).length+2<=bs.length) :
  zcO [.val (.tup (bs.map toD)),.val (tz p)]=.ok (toO (if NAN p (pcs p (zeu p bs)) then some ((bun (ws p 0 bs++[ziV (pcs p (zeu p bs))])).headD (.lf 0)) else none),[.val .non,.val .non]):=by
 obtain ⟨hk,hl,hne⟩:=zkQ S;have h6:(zad bs).length<=6:=S.l;obtain ⟨T,_⟩:=zlw (p:=p) (n:=7) S.ok (λb hb=>waN (hk b hb).d xwd) h2;obtain ⟨o1,o2⟩:=zqt (l:=zeu p bs) (λx hx=>(zlX (λb hb=>(hk b hb).ok) S.ok.n hx).1) (waN zw5 h6);have hnn:¬ ∀ x∈pcs p (zeu p bs),sh p x=0:=by
  refine zni T λz=>?_;have hp:=zc9 (p:=p) bs;have hlen:=hp.length_eq;rw[List.length_append,List.length_append] at hlen;have q1:∀ x∈ws p 1 bs,x∈zeu p bs:=λx hx=>by
   rw[<- List.take_append_drop 1 (ws p 1 bs)] at hx;unfold zeu;rcases wax.mp hx with h|h
   ·exact waR _ h
   ·exact waz _ (waz _ h)
  have e1:ws p 1 bs=[]:=by
   cases e:ws p 1 bs with
   |nil=>rfl
   |cons a q =>
    have ha:a∈ws p 1 bs:=by rw[e];simp
    have:=z a (q1 a ha);rw[(zcC.mp ha).2] at this;cases this
  rw[e1,List.length_nil] at hlen;have hb2:=zmT (p:=p) (l:=ws p 2 bs) (zhZ λb hb=>(hk b hb).ok) (.inr rfl) λy hy=>(zcC.mp hy).2;cases e:bun (ws p 2 bs) with
  |nil =>
   unfold bun at e;split at e
   ·rw[e,List.length_nil] at hlen;omega
   ·cases e
  |cons a q =>
   have ha:a∈bun (ws p 2 bs):=by rw[e];simp
   have:=z a (by unfold zeu;exact waz _ (waR _ ha));rw[hb2 a ha] at this;cases this
 have E:=zn6 (p:=p) (os:=zeu p bs) (d:=.lst ((zeu p bs).map toD)) rfl o1 xwo T.pure hnn;let K:Option B:=some (.val (.tup (bs.map toD)));let P:Option B:=some (.val (tz p));let T1:Option B:=some (.val (.lst ((ws p 1 bs).map toD)));let C:Option B:=some (.val (.lst ((bun (ws p 2 bs)).map toD)));let x:Dt:=if NAN p (pcs p (zeu p bs)) then .lst ((pcs p (zeu p bs)).map toD) else .non
 let Z0:Ev:=[K,P,none,none,none,none]
 let Z1:Ev:=[K,P,T1,none,none,none]
 let Z2:Ev:=[K,P,T1,C,none,none]
 let Z3:Ev:=[K,P,T1,C,some (.val x),none]
 have W:∀(k:Nat)(Z:Ev),zab 0 Z=.ok (.tup (bs.map toD),Z)->zab 1 Z=.ok (tz p,Z)->zai zax (dR (zab 0) (dR (zab 1) (dR (dC (.int (k:Nat))) dR0))) Z=.ok (.lst ((ws p k bs).map toD),Z):=λk Z h2 h1=>zp9 h2 h1 rfl (zjR hk rfl xwo);have wl:∀ k,(ws p k bs).length<=6:=λk=>waN (List.length_filter_le _ _) hl;have w0:=wl 0;have w1:=wl 1;have w2:=wl 2;have b2:=zmf (ws p 2 bs);have hcat:zp4 Z2=.ok (.lst ((zeu p bs).map toD),Z2):=by
  have c1:zk8 (zab 2) dO0 (dO1 (dC (.int 1))) Z2=.ok (((ws p 1 bs).take 1).map toD,Z2):=by rw[<- zy2];exact zm2 (x:=(ws p 1 bs).map toD) rfl rfl rfl
  have c2:zk8 (zab 2) (dO1 (dC (.int 1))) dO0 Z2=.ok (((ws p 1 bs).drop 1).map toD,Z2):=by rw[<- zys];exact zm2 (x:=(ws p 1 bs).map toD) rfl rfl rfl
  have c3:=zkZ (zba c1) (show zab 3 Z2=.ok (.lst ((bun (ws p 2 bs)).map toD),Z2) from rfl) (by simp only[wag,List.length_take];omega);have c4:=zkZ (zba c3) (zba c2) (by simp only[wag,wav,List.length_take,List.length_drop];omega);refine (zba c4).trans ?_;rw[zeu,List.map_append,List.map_append,List.append_assoc]
 have s1:zbi 2 (wsC 1) Z0=.ok (.nx,Z1):=zaM (Z1:=Z0) (W 1 Z0 rfl rfl) (show 2<6 by decide);have s2:zbi 3 (dFz (zbn zb6 (dR (wsC 2) dR0))) Z1=.ok (.nx,Z2):=zaM (Z1:=Z1) (zba (zky (W 2 Z1 rfl rfl) (zgT xwo))) (show 3<6 by decide);have s3:zbi 4 (zai zcT (dR zp4 (dR (zab 1) dR0))) Z2=.ok (.nx,Z3):=zaM (Z1:=Z2) (zcN hcat (e:=tz p) rfl E) (show 4<6 by decide);by_cases h:NAN p (pcs p (zeu p bs))
 ·have hx:x=.lst ((pcs p (zeu p bs)).map toD):=if_pos h;have e1:Z3=[K,P,T1,C,some (.val (.lst ((pcs p (zeu p bs)).map toD))),none]:=by rw[<- hx]
  rw[if_pos h];have hpl:=zqY (p:=p) o1 xwo;generalize pcs p (zeu p bs)=pc at *;let Z4:Ev:=[K,P,T1,C,some (.val (.lst (pc.map toD))),some (.val (toD (ziV pc)))]
  refine zaj (Z':=Z4) rfl ?_ rfl;rw[zmN];refine (zag s1).trans ((zag s2).trans ((zag s3).trans ?_));rw[e1];refine (zag (Z1:=[K,P,T1,C,some (.val (.lst (pc.map toD))),none]) rfl).trans ((zag (Z1:=Z4) ?_).trans (zbe ?_))
  ·refine zaM (Z1:=[K,P,T1,C,some (.val (.lst (pc.map toD))),none]) (d:=toD (ziV pc)) ?_ (show 5<6 by decide);have t1:dTB (dOp (gEq false) (dFn zc3 (dA (zab 4) dA0)) (dC (.int 1))) [K,P,T1,C,some (.val (.lst (pc.map toD))),none]=.ok (((pc.length:Nat):Int) == 1,[K,P,T1,C,some (.val (.lst (pc.map toD))),none]):=zaG (zau (d:=.int (pc.length:Nat)) (e:=.int 1) (zdF (d:=.lst (pc.map toD)) rfl (by simp[zc3])) rfl zrc);unfold zwt zk7;rw[t1];simp only[R.bind_ok];by_cases h1:pc.length=1
   ·rw[if_pos (by rw[beq_iff_eq];omega),ziV,if_pos h1];exact zau (d:=.lst (pc.map toD)) (e:=.int 0) rfl rfl (zmy (by intro z;rw[z] at h1;cases h1))
   ·rw[if_neg (by rw[beq_iff_eq];omega),ziV,if_neg h1,toD,zbk];rfl
  ·have c0:=zkZ (Z1:=Z4) (W 0 Z4 rfl rfl) (show dFz (zdg (dA (zab 5) dA0)) Z4=.ok (.lst [toD (ziV pc)],Z4) from rfl) (by simp only[wag,wan,List.length_nil];omega);have e2:(ws p 0 bs).map toD++[toD (ziV pc)]=(ws p 0 bs++[ziV pc]).map toD:=by rw[List.map_append];rfl
   rw[e2] at c0;exact zau (Z1:=Z4) (e:=.int 0) (zba (zky (zba c0) (zgT (by simp only[wav,wan,List.length_nil];omega)))) rfl (zmy (by
    unfold bun;split
    ·simp
    ·simp))
 ·have hx:x=.non:=if_neg h;have e1:Z3=[K,P,T1,C,some (.val .non),none]:=by rw[<- hx]
  rw[if_neg h];refine zaj (Z':=[K,P,T1,C,some (.val .non),none]) rfl ?_ rfl;rw[zmN];refine (zag s1).trans ((zag s2).trans ((zag s3).trans ?_));rw[e1];rfl
variable{p:List Int}
theorem zwS:∀ o:Option Tr,eqD (toO o) .non=o.isNone
 |none=>by rw[toO,eqD];rfl
 |some (.lf g)=>by rw[toO,toD];simp[eqD]
 |some (.nd r l)=>by rw[toO,toD];simp[eqD]
theorem zwr(l:List (Option Tr)):inD .non (l.map toO)=l.any Option.isNone:=by unfold inD;rw[List.any_map];congr 1;funext o;exact zwS o
theorem znJ:∀{l:List (Option Tr)},l.any Option.isNone=true->zlI l=none
 |none::l,_=>rfl
 |some a::l,h=>by have:=znJ (l:=l) (by simpa using h);show (zlI l).map _=none;rw[this];rfl
theorem zp1:∀{l:List (Option Tr)},l.any Option.isNone=false->∃ ts:List Tr,zlI l=some ts/\l=ts.map some
 |[],_=>⟨[],rfl,rfl⟩
 |none::l,h=>by simp at h
 |some a::l,h=>by obtain ⟨ts,h1,h2⟩:=zp1 (l:=l) (by simpa using h);refine ⟨a::ts,?_,by rw[h2];rfl⟩;show (zlI l).map _=_;rw[h1];rfl
noncomputable abbrev zua(F:FD):DS:=dIf (dTB (dOp (gEq false) (zai zbl (dR (zab 3) (dR (zab 1) dR0))) (dC (.int 0)))) (dEx (zcQ 2 (zab 3))) (dEx (zcQ 2 (zai F (dR (zab 3) (dR (zab 1) dR0)))))
noncomputable abbrev zxF:De:=zk7 (dTB (zoH false 2 (dC .non))) (dC .non) (zfp (dA (dOp gIx (zab 0) (dC (.int 0))) (dA (dFn zdd (dA (zfl 2) dA0)) dA0)))
theorem zup(F:FD):zcI F=za3 (zck 2 (zdg dA0)) (za3 (zgE (dIt (dOp gIx (zab 0) (dC (.int 1)))) (zb7 3) (zua F)) (zbt zxF)):=rfl
theorem zrw{F:FD}{f:Tr->Option Tr}{r:Bool}{bs:List Tr}(S:Sm (.nd r bs))(hF:∀ b∈bs,sh p b≠0->F [.val (toD b),.val (tz p)]=.ok (toO (f b),[.val .non,.val .non]))(hok:∀ b∈bs,sh p b≠0->okN 60 (toO (f b))=true) :
  zbO F [.val (toD (.nd r bs)),.val (tz p)]=.ok (toO ((zlI (zhg f p bs)).map (.nd r)),[.val .non,.val .non]):=by
 obtain ⟨hk,hl,hne⟩:=zkQ S;let T:Option B:=some (.val (toD (.nd r bs)));let P:Option B:=some (.val (tz p));let I:List Tr->Ev->Prop:=λdn Z=>∃ o3,Z=[T,P,some (.own ((zhg f p dn).map toO)),o3]
 let Z0:Ev:=[T,P,some (.own []),none]
 obtain ⟨Z',⟨o3,rfl⟩,hf⟩:=zca (u:=toD) (l:=bs) (I:=I) (g:=zb7 3) (body:=zua F) (ztm (Z:=Z0) rfl) rfl ⟨none,rfl⟩ λdn b zbV e Z hI=>by
  obtain ⟨o3,rfl⟩:=hI;have hb:b∈bs:=by rw[e];simp
  have hdl:dn.length<=6:=by rw[e] at hl;simp at hl;omega
  let A:=(zhg f p dn).map toO;have hA:A.length<=6:=by show ((zhg f p dn).map toO).length<=6;rw[List.length_map,zhg,List.length_map];exact hdl
  let Z1:Ev:=[T,P,some (.own A),some (.val (toD b))]
  have t0:dTB (dOp (gEq false) (zai zbl (dR (zab 3) (dR (zab 1) dR0))) (dC (.int 0))) Z1=.ok (((sh p b:Nat):Int) == 0,Z1):=zaG (zau (d:=.int (sh p b:Nat)) (e:=.int 0) (zcN (d:=toD b) (e:=tz p) rfl rfl (zcv (hk b hb))) rfl zrc);have key:zua F Z1=.ok (.nx,[T,P,some (.own (A++[toO (if sh p b=0 then some b else f b)])),some (.val (toD b))]):=by
   by_cases h:sh p b=0
   ·rw[show (((sh p b:Nat):Int) == 0)=true by rw[beq_iff_eq];omega] at t0;refine (zd5 t0).trans ?_;rw[if_pos h];exact zeo (zqa (Z1:=Z1) (l0:=A) (ds:=A) (d:=toD b) rfl rfl rfl xwo)
   ·rw[show (((sh p b:Nat):Int) == 0)=false by rw[beq_eq_false_iff_ne];omega] at t0;refine (zcm t0).trans ?_;rw[if_neg h];exact zeo (zqa (Z1:=Z1) (l0:=A) (ds:=A) (d:=toO (f b)) rfl (zcN (d:=toD b) (e:=tz p) rfl rfl (hF b hb h)) rfl xwo)
  refine ⟨Z1,_,rfl,key,⟨some (.val (toD b)),?_⟩⟩;show _=[T,P,some (.own ((zhg f p (dn++[b])).map toO)),some (.val (toD b))]
  rw[zhg,List.map_append,List.map_append];rfl
 have hin:dTB (zoH false 2 (dC .non)) [T,P,some (.own ((zhg f p bs).map toO)),o3]=.ok ((zhg f p bs).any Option.isNone,[T,P,some (.own ((zhg f p bs).map toO)),o3]):=by
  refine zaG ?_;have g:=(zh6 (neg:=false) (x:=.non) (ds:=(zhg f p bs).map toO) rfl λd hd=>by
   obtain ⟨o,ho,rfl⟩:=List.mem_map.mp hd;obtain ⟨b,hb,rfl⟩:=List.mem_map.mp ho;by_cases h:sh p b=0
   ·rw[if_pos h];exact znn (zyd (waN (hk b hb).d xwd)) xwd
   ·rw[if_neg h];exact hok b hb h).2
  show ((gIn false .non (.lst ((zhg f p bs).map toO))).bind λz=>R.ok (z,_))=_;rw[g,zwr];rfl
 have head:∀{Z':Ev}{d:Dt},zxF [T,P,some (.own ((zhg f p bs).map toO)),o3]=.ok (d,Z')->zcI F [T,P,none,none]=.ok (.rt d,Z'):=λh=>by rw[zup];exact (zag (Z1:=Z0) rfl).trans ((zag hf).trans (zbe h))
 cases hany:(zhg f p bs).any Option.isNone with
 |true =>
  rw[znJ hany];refine zaj (Z':=[T,P,some (.own ((zhg f p bs).map toO)),o3]) rfl (head ?_) rfl;unfold zxF zk7;rw[hin,hany];rfl
 |false =>
  obtain ⟨ts,h1,h2⟩:=zp1 hany;rw[h1];refine zaj (Z':=[T,P,some (.val (.lst ((zhg f p bs).map toO))),o3]) rfl (head ?_) rfl;unfold zxF zk7;rw[hin,hany];simp only[R.bind_ok,Bool.false_eq_true,if_false];have e:Dt.tup [.str (wd r),.tup ((zhg f p bs).map toO)]=toO ((some ts).map (.nd r)):=by rw[h2,Option.map_some,toO,toD,zbk,List.map_map];rfl
  exact congrArg (λd=>(R.ok (d,[T,P,some (.val (.lst ((zhg f p bs).map toO))),o3]):R (Dt×Ev))) e
variable{p:List Int}
theorem znd{n:Nat}{t t':Tr}(S:Sm t)(h8:n<=8)(hd:dep t<=n)(h0:sh p t≠0)(e:zcJ n p t=some t'):Sm t':=by obtain ⟨h1,h2,_⟩:=(zju n t h8 hd S.ok h0).yes t' e;exact ⟨h1,by rw[h2.length_eq];exact S.l⟩
noncomputable abbrev kid:De:=dOp gIx (zab 0) (dC (.int 1))
noncomputable abbrev tiIf:DT:=dTB (dOp (gEq false) (dFn zc3 (dA (zab 2) dA0)) (dOp zk4 (dFn zc3 (dA kid dA0)) (dC (.int 1))))
theorem ztE(F:FD):zh1 F=za3 (dIf (dTB (dOp (gEq false) (zai zbl (dR (zab 0) (dR (zab 1) dR0))) (dC (.int 2)))) (zbt (zab 0)) dNx) (za3 (zbi 2 (zai zax (dR kid (dR (zab 1) (dR (dC (.int 0)) dR0))))) (za3 (dIf tiIf (zbt (zai (zbO F) (dR (zab 0) (dR (zab 1) dR0)))) dNx) (za3 (dIf (dTB (dOp (gEq false) (dOp gIx (zab 0) (dC (.int 0))) (dC (.str (Str.ofString "any"))))) (zbt (zai zcO (dR kid (dR (zab 1) dR0)))) dNx) (zbt (zai zcP (dR kid (dR (zab 1) dR0))))))):=rfl
theorem zq3:∀(n:Nat)(t:Tr),n<=8->Sm t->dep t<=n->sh p t≠0->zeN n [.val (toD t),.val (tz p)]=.ok (toO (zcJ n p t),[.val .non,.val .non])
 |0,t,_,_,h,_=>by cases t <;> simp[dep] at h
 |n+1,t,h8,S,h,h0=>by
  let P:Option B:=some (.val (tz p));let Z0:Ev:=[some (.val (toD t)),P,none]
  have t2:dTB (dOp (gEq false) (zai zbl (dR (zab 0) (dR (zab 1) dR0))) (dC (.int 2))) Z0=.ok (((sh p t:Nat):Int) == 2,Z0):=zaG (zau (d:=.int (sh p t:Nat)) (e:=.int 2) (zcN (d:=toD t) (e:=tz p) rfl rfl (zcv S)) rfl zrc);show za1 false [false,false] 1 (zh1 (zeN n)) _=_;by_cases hs:sh p t=2
  ·rw[show (((sh p t:Nat):Int) == 2)=true by rw[beq_iff_eq];omega] at t2;rw[zcJ,if_pos hs];refine zaj (Z':=Z0) rfl ?_ rfl;rw[ztE];exact zbz ((zd5 t2).trans rfl)
  ·rw[show (((sh p t:Nat):Int) == 2)=false by rw[beq_eq_false_iff_ne];omega] at t2;rw[zcJ,if_neg hs];have h1:sh p t=1:=by
    rcases zjW (p:=p) t with e|e|e
    ·exact absurd e h0
    ·exact e
    ·exact absurd e hs
   cases t with
   |lf g=>exact absurd h1 zrL
   |nd r bs =>
    simp only[dep] at h;have hd:=zaS.mp (by omega:zdi bs<=n);obtain ⟨hk,hl,hne⟩:=zkQ S;have hnn:¬ ∀ x∈bs,sh p x=0:=zgV (t:=.nd r bs) (.refl _) h0;let Z1:Ev:=[some (.val (toD (.nd r bs))),P,some (.val (.lst ((ws p 0 bs).map toD)))]
    have k0:kid Z0=.ok (.tup (bs.map toD),Z0):=by have:=zfa (r:=r) (bs:=bs) (Z:=Z0) rfl;rw[zbk] at this;exact this
    have k1:kid Z1=.ok (.tup (bs.map toD),Z1):=by have:=zfa (r:=r) (bs:=bs) (Z:=Z1) rfl;rw[zbk] at this;exact this
    have s1:zbi 2 (zai zax (dR kid (dR (zab 1) (dR (dC (.int 0)) dR0)))) Z0=.ok (.nx,Z1):=zaM (Z1:=Z0) (zp9 (e:=tz p) (g:=.int ((0:Nat):Int)) k0 rfl rfl (zjR hk rfl xwo)) (show 2<3 by decide);have t3:tiIf Z1=.ok ((((ws p 0 bs).length:Nat):Int) == (bs.length:Nat)-1,Z1):=zaG (zau (Z1:=Z1) (d:=.int ((ws p 0 bs).length:Nat)) (e:=.int ((bs.length:Nat)-1)) (zdF (d:=.lst ((ws p 0 bs).map toD)) rfl (by simp[zc3])) (zau (Z1:=Z1) (d:=.int (bs.length:Nat)) (e:=.int 1) (zdF k1 (by simp[zc3])) rfl rfl) zrc);have t4:=zaG (zjP (r:=r) (bs:=bs) (Z:=Z1) rfl);show _=R.ok (toO (zwH (zcJ n p) p r bs),_);refine zaj (Z':=Z1) rfl ?_ rfl;rw[ztE];refine (zag (Z1:=Z0) ((zcm t2).trans rfl)).trans ((zag s1).trans ?_);unfold zwH;by_cases hw:(ws p 0 bs).length+1=bs.length
    ·rw[if_pos hw];rw[show ((((ws p 0 bs).length:Nat):Int) == (bs.length:Nat)-1)=true by rw[beq_iff_eq];omega] at t3;refine zbz ((zd5 t3).trans (zbe ?_));refine zcN (l:=[.val .non,.val .non]) (d:=toD (.nd r bs)) (e:=tz p) rfl rfl (zrw S (λb hb hb0=>zq3 n b xwo (hk b hb) (hd b hb) hb0) λb hb hb0=>?_);cases e:zcJ n p b with
     |none=>rfl
     |some t'=>exact znn (zyd (waN (znd (hk b hb) xwo (hd b hb) hb0 e).d xwd)) xwd
    ·rw[if_neg hw];have h2:(ws p 0 bs).length+2<=bs.length:=by
      have hle:(ws p 0 bs).length<=bs.length:=List.length_filter_le _ _;have:(ws p 0 bs).length≠bs.length:=λz=>hnn λx hx=>by have e2:ws p 0 bs=bs:=List.filter_sublist.eq_of_length z;rw[<- e2] at hx;exact (zcC.mp hx).2
      omega
     rw[show ((((ws p 0 bs).length:Nat):Int) == (bs.length:Nat)-1)=false by rw[beq_eq_false_iff_ne];omega] at t3;refine (zag (Z1:=Z1) ((zcm t3).trans rfl)).trans ?_;cases r with
     |true =>
      rw[if_pos rfl];exact (zag (Z1:=Z1) ((zcm t4).trans rfl)).trans (zbe (zcN (l:=[.val .non,.val .non]) k1 (e:=tz p) rfl (zpa S h2)))
     |false =>
      rw[if_neg xwd];exact zbz ((zd5 t4).trans (zbe (zcN (l:=[.val .non,.val .non]) k1 (e:=tz p) rfl (zq7 S h2))))
theorem zij{n:Nat}{t:Tr}(h1:1<=n)(h7:n<=7)(S:Sm t)(h0:sh p t≠0):zf7 [.val (.int (n:Nat)),.val (toD t),.val (tz p)]=.ok (toO ((zcJ 8 p t).map zay),[.val .non,.val .non,.val .non]):=by
 have hd8:dep t<=8:=waN S.d xwd;let Z0:Ev:=[some (.val (.int (n:Nat))),some (.val (toD t)),some (.val (tz p)),none]
 let Z1:Ev:=[some (.val (.int (n:Nat))),some (.val (toD t)),some (.val (tz p)),some (.val (toO (zcJ 8 p t)))]
 refine zaj (Z':=Z1) rfl ?_ rfl;refine (zag (Z1:=Z0) (zeo (zeg (d:=.int (n:Nat)) rfl (zjF xwo xwo)))).trans ((zag (Z1:=Z1) (zaM (Z1:=Z0) (zcN (d:=toD t) (e:=tz p) rfl rfl (zq3 8 t (wal _) S hd8 h0)) (show 3<4 by decide))).trans (zbe ?_));cases e:zcJ 8 p t with
 |none =>
  have e1:Z1=[some (.val (.int (n:Nat))),some (.val (toD t)),some (.val (tz p)),some (.val .non)]:=by show ([some (.val (.int (n:Nat))),some (.val (toD t)),some (.val (tz p)),some (.val (toO (zcJ 8 p t)))]:Ev)=_;rw[e];rfl
  rw[e1];rfl
 |some t' =>
  have S':=znd S (wal _) hd8 h0 e;have e1:Z1=[some (.val (.int (n:Nat))),some (.val (toD t)),some (.val (tz p)),some (.val (toD t'))]:=by show ([some (.val (.int (n:Nat))),some (.val (toD t)),some (.val (tz p)),some (.val (toO (zcJ 8 p t)))]:Ev)=_;rw[e];rfl
  rw[e1];have hn:zsE (toD t')=false:=by cases t' <;> rfl
  unfold zk7 zu6;show ((R.ok ((true == zsE (toD t')),_):R (Bool×Ev)).bind _)=_;rw[hn];exact zeg (F:=zbs 8) (fa:=zab 3) (Z:=[some (.val (.int (n:Nat))),some (.val (toD t)),some (.val (tz p)),some (.val (toD t'))]) (Z':=[some (.val (.int (n:Nat))),some (.val (toD t)),some (.val (tz p)),some (.val (toD t'))]) (d:=toD t') rfl (zjD 8 t' (wal _) (waN S'.d xwd) S'.ok.o S'.ok.n (by have:=S'.l;omega))
end LQ
end
section
namespace Lw
open PySem PySem.Spec L2 PV
theorem zuv{α:Type}{l:List α}{f m:Nat}(h:f<=l.length):zih l (some (f:Int)) (some ((f:Int)+m))=(l.drop f).take m:=by
 unfold zih;rw[show (f:Int)+m=((f+m:Nat):Int) from rfl,HT.sIx_nat,HT.sIx_nat,Nat.min_eq_left h];by_cases z:f+m<=l.length
 ·rw[Nat.min_eq_left z,show f+m-f=m by omega]
 ·rw[Nat.min_eq_right xwo,List.take_of_length_le xws,List.take_of_length_le (by simp;omega)]
theorem ziR:∀ a b:List Bool,zgD (a.map .bl) (b.map .bl)=(a == b)
 |[],[]=>by rw[List.map_nil,zgD];rfl
 |[],b::r=>by rw[List.map_nil,List.map_cons,zgD];rfl;all_goals (intros;simp at *)
 |a::r,[]=>by rw[List.map_nil,List.map_cons,zgD];rfl;all_goals (intros;simp at *)
 |a::r,b::q=>by rw[List.map_cons,List.map_cons,zgD,eqD,ziR r q];rfl
theorem zl4(l:List Bool)(n:Nat):okN (n+1) (.lst (l.map .bl))=true:=by simp[okN]
noncomputable def zuq(x:List Dt)(k:Int)(Z:Ev):R (List Dt×Ev):=if zdB k=true/\x.length * k.toNat<=16777216 then .ok ((List.replicate k.toNat x).flatten,Z) else .no
theorem zwq{fa fb:De}{Z Z1 Z2:Ev}{x:List Dt}{k:Int}(h0:fa Z=.ok (.lst x,Z1))(h:fb Z1=.ok (.int k,Z2)):zwF fa fb Z=zuq x k Z2:=by unfold zwF zuq;rw[h0];simp only[R.bind_ok];rw[h];rfl
theorem zrF{x:List Dt}{k:Int}{Z:Ev}(hc:zdB k=true/\x.length * k.toNat<=16777216):zuq x k Z=.ok ((List.replicate k.toNat x).flatten,Z):=if_pos hc
theorem zqy{m:Nat}(hm:m<=1000):zdB (m:Int)=true:=by unfold zdB;rw[Bool.and_eq_true,decide_eq_true_eq,decide_eq_true_eq];omega
noncomputable def Pty(n:Nat)(p:List Int):Prop:=p≠[]/\p.Pairwise (· < ·)/\∀ x∈p,0<=x/\x<n
end Lw
end
section
namespace LQ
open PySem PySem.Spec L2 PV Lw
variable{p:List Int}
theorem zsG:∀{row:List Int},(∃ g∈row,g∈p)->∃ A g B,row=A++g::B/\No p A/\g∈p
 |[],h=>by obtain ⟨g,hg,_⟩:=h;cases hg
 |x::r,h=>by
  by_cases hx:x∈p
  ·exact ⟨[],x,r,rfl,(λy hy=>by cases hy),hx⟩
  ·obtain ⟨A,g,B,rfl,h1,h2⟩:=zsG (row:=r) (by
    obtain ⟨g,hg,hp⟩:=h;rcases wap.mp hg with rfl|hg
    ·exact absurd hp hx
    ·exact ⟨g,hg,hp⟩)
   exact ⟨x::A,g,B,rfl,λy hy=>by
    rcases wap.mp hy with rfl|hy
    ·exact hx
    ·exact h1 y hy,h2⟩
theorem zvx{A B:List Int}{g:Int}(hr:(A++g::B).Nodup)(hpn:p.Nodup)(hp:∀ x∈p,x∈A++g::B)(hA:No p A)(hg:g∈p) :
  ((g::B).take p.length).map (λx=>decide (x∈p))=List.replicate p.length true ↔ Ct p (A++g::B):=by
 have hn:=(List.nodup_append.mp hr).2.1;have hpB:∀ x∈p,x∈g::B:=λx hx=>by
  rcases wax.mp (hp x hx) with h|h
  ·exact absurd hx (hA x h)
  ·exact h
 rw[Ct,zjc ztn hA λz=>z g xws hg];constructor
 ·intro h;have hlen:((g::B).take p.length).length=p.length:=by have:=congrArg List.length h;simpa using this
  have hall:∀ x∈(g::B).take p.length,x∈p:=λx hx=>by
   have:decide (x∈p)∈List.replicate p.length true:=by rw[<- h];exact List.mem_map.mpr ⟨x,hx,rfl⟩
   simpa using (List.mem_replicate.mp this).2
  have hn1:((g::B).take p.length).Nodup:=hn.sublist (List.take_sublist _ _);have hperm:=zfd _ p hn1 hall xwo;refine ⟨[],(g::B).take p.length,(g::B).drop p.length,xws,xws,hall,λx hx hxp=>?_⟩;have h1:x∈(g::B).take p.length:=hperm.mem_iff.mpr hxp;rw[<- List.take_append_drop p.length (g::B)] at hn;exact (List.nodup_append.mp hn).2.2 x h1 x hx rfl
 ·rintro ⟨u,v,w,e,hu,hv,hw⟩;have hu0:u=[]:=by
   cases u with
   |nil=>rfl
   |cons a u =>
    have:a=g:=by simp at e;exact e.1.symm
    exact absurd hg (this ▸ hu a xws)
  subst hu0;rw[List.nil_append] at e;have hvn:v.Nodup:=by rw[e] at hn;exact (List.nodup_append.mp hn).1
  have hpv:∀ x∈p,x∈v:=λx hx=>by
   have:=hpB x hx;rw[e] at this;rcases wax.mp this with h|h
   ·exact h
   ·exact absurd hx (hw x h)
  have hl:v.length=p.length:=by have h1:=zhF hvn hv;have h2:=zhF hpn hpv;omega
  rw[e,<- hl,List.take_left];refine List.eq_replicate_iff.mpr ⟨xws,λb hb=>?_⟩;obtain ⟨x,hx,rfl⟩:=List.mem_map.mp hb;exact wat (hv x hx)
theorem zlm:∀{A B:List Bool},(∀ b∈A,b=false)->zrb (.bl true) ((A++true::B).map .bl)=some A.length
 |[],B,_=>by rw[List.nil_append,List.map_cons,zrb,eqD];rfl
 |a::A,B,h=>by have:a=false:=h a xws;subst this;rw[List.cons_append,List.map_cons,zrb,eqD,if_neg xws,zlm λb hb=>h b (by simp[hb])];rfl
theorem zs7{fa:De}{Z Z2:Ev}{m:Nat}(h:fa Z=.ok (.int m,Z2))(hm:m<=1000):zwF (dFz (zdg (dA (dC (.bl true)) dA0))) fa Z=.ok ((List.replicate m true).map .bl,Z2):=by
 have this:∀ k:Nat,(List.replicate k [Dt.bl true]).flatten=(List.replicate k true).map .bl:=by
  intro k
  induction k with
  |zero=>rfl
  |succ k ih=>rw[List.replicate_succ,List.flatten_cons,ih,List.replicate_succ];rfl
 have hc:[Dt.bl true].length * (m:Int).toNat<=16777216:=by rw[Int.toNat_natCast];simp only[wan,List.length_nil];omega
 rw[zwq (Z1:=Z) rfl h,zrF ⟨zqy hm,hc⟩,Int.toNat_natCast,this]
open Classical in
theorem zoq{row:List Int}(hr:row.Nodup)(hpn:p.Nodup)(hp:∀ x∈p,x∈row)(hne:p≠[])(hl:p.length<=1000)(hl2:row.length<=1000):zdW [.val (tz row),.val (tz p)]=.ok (.bl (decide (Ct p row)),[.val .non,.val .non]):=by
 obtain ⟨A,g,B,e,hA,hg⟩:=zsG (p:=p) (row:=row) (by
  cases p with
  |nil=>exact absurd rfl hne
  |cons a q=>exact ⟨a,hp a xws,xws⟩)
 let ms:List Bool:=row.map λx=>decide (x∈p);have hms:ms=(A.map λx=>decide (x∈p))++true::(B.map λx=>decide (x∈p)):=by show row.map _=_;rw[e,List.map_append,List.map_cons,decide_eq_true hg]
 let Z0:Ev:=[some (.val (tz row)),some (.val (tz p)),none,none]
 let Z1:Ev:=[some (.val (tz row)),some (.val (tz p)),some (.val (.lst (ms.map .bl))),none]
 let Z2:Ev:=[some (.val (tz row)),some (.val (tz p)),some (.val (.lst (ms.map .bl))),some (.val (.int (A.length:Nat)))]
 have hc:zb9 (dIt (zab 0)) (zb7 4) dTT (dOp (gIn false) (zab 4) (zab 1)) 1 Z0=.ok (ms.map .bl,Z0):=by
  refine (ziA (Z0:=Z0) (fi:=dIt (zab 0)) (l:=row) (u:=Dt.int) (f:=λg=>.bl (decide (g∈p))) (ds:=row.map .int) rfl rfl hl2 (λg hg=>?_) rfl).trans ?_
  ·refine zau (d:=.int g) (e:=tz p) rfl rfl ?_;rw[tz,(zh6 rfl zh2).1,zgr];rfl
  ·show R.ok (_,Z0)=R.ok ((row.map λx=>decide (x∈p)).map Dt.bl,Z0);rw[List.map_map];rfl
 have e2:zbi 3 (zxB (zab 2) (dC (.bl true))) Z1=.ok (.nx,Z2):=by
  refine zaM (i:=3) (Z1:=Z1) ?_ (show 3<4 by decide);have i:=zlm (A:=A.map λx=>decide (x∈p)) (B:=B.map λx=>decide (x∈p)) λb hb=>by obtain ⟨x,hx,rfl⟩:=List.mem_map.mp hb;exact waw (hA x hx)
  rw[<- hms,List.length_map] at i;unfold zxB;simp only[zab,Z1,List.getElem?_cons_succ,List.getElem?_cons_zero,R.bind_ok,dC];rw[if_pos (by simp[okN]),i]
 refine zaj (Z':=Z2) rfl ?_ rfl;refine (zag (Z1:=Z1) (zaM (Z1:=Z0) (zba hc) (show 2<4 by decide))).trans ((zag e2).trans ?_);have elen:dFn zc3 (dA (zab 1) dA0) Z2=.ok (.int (p.length:Nat),Z2):=zdF (d:=tz p) rfl (by simp[tz,zc3]);have hAl:A.length<=ms.length:=by rw[hms];simp
 have ecut:zk8 (zab 2) (dO1 (zab 3)) (dO1 (dOp zeK (zab 3) (dFn zc3 (dA (zab 1) dA0)))) Z2=.ok (((ms.drop A.length).take p.length).map .bl,Z2):=by refine (zm2 (x:=ms.map .bl) (lo:=some (A.length:Int)) rfl rfl (zry (zau (d:=.int (A.length:Nat)) (e:=.int (p.length:Nat)) rfl elen rfl))).trans ?_;rw[zuv (by simpa using hAl),List.map_take,List.map_drop]
 refine zbe (zau (zba ecut) (zba (zs7 elen hl)) ?_);rw[zbF (zl4 _ _) (zl4 _ _),eqD,ziR];simp only[Bool.false_eq_true,if_false];have hd:ms.drop A.length=(g::B).map λx=>decide (x∈p):=by show (row.map _).drop A.length=_;rw[e,<- List.map_drop,List.drop_left]
 have S:=zvx (p:=p) (A:=A) (g:=g) (B:=B) (e ▸ hr) hpn (e ▸ hp) hA hg;rw[<- e] at S;rw[hd,<- List.map_take];congr 2;rw[Bool.eq_iff_iff,beq_iff_eq,decide_eq_true_eq];exact S
variable{p:List Int}{n:Nat}{t:Tr}
noncomputable def sub(a:Int):Nat->List (List Int)
 |0=>[]
 |k+1=>[a]::((sub (a+1) k).map (a::·)++sub (a+1) k)
theorem zmJ:∀(k:Nat)(a:Int),∀ p∈sub a k,p≠[]/\p.Pairwise (· < ·)/\∀ x∈p,a<=x/\x<a+k
 |0,a,p,h=>by simp[sub] at h
 |k+1,a,p,h=>by
  simp only[sub,wap,wax,List.mem_map] at h;rcases h with rfl|⟨q,hq,rfl⟩|h
  ·simp;lia
  ·obtain ⟨h1,h2,h3⟩:=zmJ k _ q hq;refine ⟨xws,List.pairwise_cons.mpr ⟨λx hx=>by have:=h3 x hx;lia,h2⟩,λx hx=>?_⟩;rcases wap.mp hx with rfl|hx
   ·lia
   ·have:=h3 x hx;lia
  ·obtain ⟨h1,h2,h3⟩:=zmJ k _ p h;exact ⟨h1,h2,λx hx=>by have:=h3 x hx;lia⟩
theorem zmC{n:Nat}{p:List Int}(h:p∈sub 0 n):Pty n p:=by obtain ⟨h1,h2,h3⟩:=zmJ n 0 p h;exact ⟨h1,h2,λx hx=>by have:=h3 x hx;lia⟩
theorem zoT:∀{ds:List Dt}{l:List Int},zii ds=some l->ds=l.map .int
 |[],l,h=>by simp[zii] at h;subst h;rfl
 |d::r,l,h=>by
  unfold zii at h;split at h
  ·rename_i e;cases e
  ·rename_i b r' e;cases e;cases e2:zii r with
   |none=>rw[e2] at h;cases h
   |some m=>rw[e2] at h;cases h;rw[zoT e2];rfl
  ·cases h
theorem zq8:∀{ds:List Dt}{ls:List (List Int)},zso ds=some ls->ds=lp ls
 |[],ls,h=>by simp[zso] at h;subst h;rfl
 |d::r,ls,h=>by
  unfold zso at h;split at h
  ·rename_i e;cases e
  ·rename_i x r' e;cases e;split at h
   ·rename_i a l ls' e1 e2;cases h;rw[zoT e1,zq8 e2];rfl
   ·cases h
  ·cases h
noncomputable def chk(F:FD)(n:Nat):Bool:=match F [.val (.int (n:Nat))] with
 |.ok (.lst l,[.val .non])=>zso l == some (sub 0 n)
 |_=>false
theorem zty{F:FD}{n:Nat}(h:chk F n=true):F [.val (.int (n:Nat))]=.ok (.lst (lp (sub 0 n)),[.val .non]):=by
 unfold chk at h;split at h
 ·rename_i l e;rw[e,zq8 (beq_iff_eq.mp h)]
 ·cases h
theorem zxN:∀ n∈[1,2,3,4,5,6],chk zcL n=true:=by decide +kernel
theorem zyk:∀ n∈[1,2,3,4,5,6],chk zaU n=true:=by decide +kernel
theorem zyf{n:Nat}(h1:1<=n)(h6:n<=6):n∈[1,2,3,4,5,6]:=by simp only[wap,wak,or_false];lia
theorem zmb{n:Nat}(h1:1<=n)(h6:n<=6):(sub 0 n).length<=63:=(by decide +kernel:∀ n∈[1,2,3,4,5,6],(sub 0 n).length<=63) n (zyf h1 h6)
theorem zxP(a b:Bool):(wd a == wd b)=(a == b):=by cases a <;> cases b <;> decide +kernel
theorem zmW{n:Nat}(IH:∀ a b,dep a<=n->(eqD (toD a) (toD b)=true ↔ a=b)):∀(l m:List Tr),(∀ t∈l,dep t<=n)->(zgD (l.map toD) (m.map toD)=true ↔ l=m)
 |[],[],_=>by simp[zgD]
 |[],_::_,_=>by simp[zgD]
 |_::_,[],_=>by simp[zgD]
 |a::l,b::m,h=>by rw[List.map_cons,List.map_cons,zgD,Bool.and_eq_true,IH a b (h a List.mem_cons_self),zmW IH l m λt ht=>h t (List.mem_cons_of_mem _ ht)];simp
theorem ztu:∀(n:Nat)(a b:Tr),dep a<=n->(eqD (toD a) (toD b)=true ↔ a=b)
 |_,.lf i,.lf j,_=>by simp[toD,eqD]
 |_,.lf i,.nd r l,_=>by simp[toD,eqD]
 |_,.nd r l,.lf j,_=>by simp[toD,eqD]
 |0,.nd r l,_,h=>by simp[dep] at h
 |n+1,.nd r l,.nd q m,h=>by have hb:∀ t∈l,dep t<=n:=zaS.mp (by simpa [dep] using h);have ih:=zmW (ztu n) l m hb;simp only[toD,zbk,eqD,zgD,Bool.and_true,wae,Tr.nd.injEq];rw[ih,zxP,beq_iff_eq]
variable{p:List Int}{n:Nat}{t:Tr}
theorem zwk(l:List (List Int)):okN 60 (.lst (lp l))=true:=by rw[okN,List.all_eq_true];intro d hd;obtain ⟨q,_,rfl⟩:=List.mem_map.mp hd;unfold tz;rw[okN,List.all_eq_true];intro d hd;obtain ⟨i,_,rfl⟩:=List.mem_map.mp hd;rfl
structure Dr(n:Nat)(t:Tr):Prop where
 n1:1<=n
 n6:n<=6
 s:Sm t
 l:(zac t).Perm (zbb n)
theorem zl5(h:Pty n p):p.Nodup:=h.2.1.imp λq=>Int.ne_of_lt q
theorem zqi(D:Dr n t)(h:Pty n p):p.length<=1000:=by have:p.length<=(zbb n).length:=(zl5 h).length_le_of_subset λx hx=>zdC.mpr (h.2.2 x hx);rw[zbC] at this;have:=D.n6;omega
theorem zto(D:Dr n t)(h:Pty n p):sh p t≠0:=λz=>by obtain ⟨h1,h2,h3⟩:=h;obtain ⟨x,q,rfl⟩:=waI h1;exact (zmS.mp z) x (D.l.mem_iff.mpr (zdC.mpr (h3 x xws))) xws
theorem znN{u:Tr}(D:Dr n t)(O:zbI u)(hl:(zac u).Perm (zac t)):Dr n (zay u)/\zay (zay u)=zay u/\∀ x,x∈zan (zay u) ↔ x∈zan u:=by have w:=zdV _ u (wal _);obtain ⟨f1,f2,f3⟩:=zgX _ u _ (wal _) w;refine ⟨⟨D.n1,D.n6,⟨⟨by rw[f1];exact O.o,f2.nodup_iff.mpr O.n⟩,?_⟩,f2.trans (hl.trans D.l)⟩,zld _ u _ (wal _) w O.o O.n,λx=>(zhu _ u _ (wal _) w x).symm⟩;rw[f2.length_eq,hl.length_eq];exact D.s.l
noncomputable def rws(n:Nat)(t:Tr):List (List Int):=(zbZ n n).filter λr=>decide (r∈zan t)
theorem zmu(D:Dr n t){r:List Int}:r∈rws n t ↔ r∈zan t:=by unfold rws;rw[List.mem_filter,decide_eq_true_eq,zhn];exact ⟨λh=>h.2,λh=>⟨(zav h).trans D.l,h⟩⟩
theorem ztW(D:Dr n t):(rws n t).length<=1000:=by have h1:(rws n t).length<=(zbZ n n).length:=List.length_filter_le _ _;have:=zjl n D.n6 n (wal _);omega
theorem zsc(D:Dr n t):zbw [.val (toD t),.val (.lst (lp (zbZ n n)))]=.ok (.lst (lp (rws n t)),[.val .non,.val .non]) :=
 zvg (waN D.s.d xwd) D.s.ok.o D.s.ok.n D.s.l (by have:=zjl n D.n6 n (wal _);omega) λr hr=>(zhn.mp hr).trans D.l.symm
noncomputable def Hd(p:List Int)(t:Tr):Prop:=∀ r∈zan t,Ct p r
theorem zuC{u:Tr}(D:Dr n u):okN 60 (toD u)=true:=znn (zyd (waN D.s.d xwd)) xwd
theorem zok(D:Dr n t):zeF [.val (.int (n:Nat)),.val (toD t)]=.ok (toD (zay t),[.val .non,.val .non]):=by
 have hl:=D.s.l;have h1:=D.n1;have h6:=D.n6;let Z0:Ev:=[some (.val (.int (n:Nat))),some (.val (toD t))]
 refine zaj (Z':=Z0) rfl ?_ rfl;exact (zag (Z1:=Z0) (zeo (zeg (d:=.int (n:Nat)) rfl (zjF xwl xwl)))).trans (zbe (zeg (d:=toD t) rfl (zjD 8 t (wal _) (waN D.s.d xwd) D.s.ok.o D.s.ok.n xwl)))
open Classical in
theorem zor(D:Dr n t)(h:Pty n p):zg1 [.val (.int (n:Nat)),.val (toD t),.val (tz p)]=.ok (.bl (decide (Hd p t)),[.val .non,.val .non,.val .non]):=by
 let Z:Ev:=[some (.val (.int (n:Nat))),some (.val (toD t)),some (.val (tz p))]
 have T:=zju 8 t (wal _) (waN D.s.d xwd) D.s.ok (zto D h);obtain ⟨DL,_,_⟩:=znN D D.s.ok (.refl _);refine zaj (Z':=Z) rfl (zbe (zau (Z1:=Z) (zp9 (Z1:=Z) (Z2:=Z) (Z3:=Z) (d:=.int (n:Nat)) (e:=toD t) (g:=tz p) rfl rfl rfl (zij D.n1 (waN D.n6 xwd) D.s (zto D h))) (zcN (Z':=Z) (Z'':=Z) (d:=.int (n:Nat)) (e:=toD t) rfl rfl (zok D)) ?_)) rfl;cases e:zcJ 8 p t with
 |none =>
  have hn:¬ Hd p t:=λz=>by obtain ⟨r,hr⟩:=List.exists_mem_of_length_pos (zjL _ t (wal _));exact T.no e r hr (z r hr)
  rw[decide_eq_false hn];show gEq false .non (toD (zay t))=_;rw[zbF rfl (zuC DL)];cases zay t <;> simp[toD,eqD]
 |some u =>
  obtain ⟨O,hl,hr⟩:=T.yes u e;obtain ⟨DU,_,_⟩:=znN D O hl;show gEq false (toD (zay u)) (toD (zay t))=_;rw[zbF (zuC DU) (zuC DL)];simp only[Bool.false_eq_true,if_false];refine congrArg (λb=>R.ok (Dt.bl b)) ?_;rw[Bool.eq_iff_iff,decide_eq_true_eq,ztu 6 _ _ DU.s.d,<- zo2 D.s.ok O];exact ⟨λz r q=>((hr r).mp ((z r).mp q)).2,λz r=>⟨λq=>(hr r).mpr ⟨q,z r q⟩,λq=>((hr r).mp q).1⟩⟩
open Classical in
noncomputable def hdL(n:Nat)(t:Tr)(l:List (List Int)):List (List Int):=l.filter λp=>decide (Hd p t)
theorem zu4(D:Dr n t):(hdL n t (sub 0 n)).length<=63:=waN (List.length_filter_le _ _) (zmb D.n1 D.n6)
theorem znS(D:Dr n t):zbN [.val (.int (n:Nat)),.val (toD t)]=.ok (.lst (lp (hdL n t (sub 0 n))),[.val .non,.val .non]):=by
 have h1:=D.n1;have h6:=D.n6;have hs:=zmb h1 h6;let Z:Ev:=[some (.val (.int (n:Nat))),some (.val (toD t))]
 have ea:=zky (F:=zcL) (fa:=zab 0) (Z:=Z) (Z':=Z) (d:=.int (n:Nat)) rfl (zty (zxN n (zyf h1 h6)));refine zaj (Z':=Z) rfl ?_ rfl;refine (zag (Z1:=Z) (zeo (zeg (d:=.int (n:Nat)) rfl (zjF xwl xwl)))).trans (zdY ?_);exact zco (u:=tz) (f:=tz) (p:=λq=>@decide (Hd q t) (Classical.propDecidable _)) (l:=sub 0 n) (ds:=lp (sub 0 n)) (Z0:=Z) (by unfold dIt;rw[zba ea];rfl) rfl rfl xwl (λq hq=>zaG (zp9 (d:=.int (n:Nat)) (e:=toD t) (g:=tz q) rfl rfl rfl (zor D (zmC hq)))) λq hq _=>rfl
theorem ztJ{fa:De}{Z Z1:Ev}{n:Nat}(h:fa Z=.ok (.int n,Z1))(hn:n<=1000):zmL fa Z=.ok ((zbb n).map .int,Z1):=by
 have hc:(0:Int)<=n/\(n:Int)<=16777216:=by lia
 unfold zmL;rw[h];show (if 0<=(n:Int)/\(n:Int)<=16777216 then R.ok (zdK 0 (n:Int).toNat,Z1) else .no)=_;rw[if_pos hc,Int.toNat_natCast,zne]
noncomputable abbrev cA:DN:=zb9 (dIt (zab 5)) (zb7 10) (zhX (dTB (zai zdW (dR (zab 10) (dR (zab 7) dR0))))) (zab 10) 1
noncomputable abbrev tA:DS:=dIf (dTB (dOp (gEq false) (dFz cA) (dFz (zdg dA0)))) (dEx (zcQ 6 (zab 7))) dNx
noncomputable abbrev tB:DS:=za3 (zck 9 (zbn zbN (dR (zab 3) (dR (zab 4) dR0)))) (za3 (dIf (zhX (dTB (zjf 9 (zfl 6) (za0 16)))) (zbt (dC (.bl false))) dNx) (dEx (zcQ 9 (zfp dA0))))
noncomputable abbrev outer:DS:=za3 (zck 2 (zbn zc5 (dR (zab 0) (dR (zab 1) dR0)))) (za3 (zbi 3 (dOp zeK (dC (.int 1)) (zai zaw (dRO 2 (dR (dC (.int 6)) dR0))))) (za3 (zbi 4 (zai (zaW 8) (dRO 2 (dR (dFz (zmL (zab 3))) dR0)))) (za3 (zbi 5 (dFz (zbn zbw (dR (zab 4) (dR (zai zcA (dR (zab 3) dR0)) dR0))))) (za3 (zck 6 (zdg dA0)) (za3 (zgE (dIt (zai zaU (dR (zab 3) dR0))) (zb7 7) tA) (zgE (zdM (dC (.int 2))) (zb7 8) tB))))))
theorem zuw:ztI=za3 (zgE (zdM (dFn zki (dA (dC (.int 1)) (dA (dFn zjs (dA (dFn zc3 (dA (zab 0) dA0)) (dA (dC (.int 3)) dA0))) dA0)))) (zb7 1) outer) (zbt (dC (.bl true))):=rfl
section
variable{p:List Int}{n:Nat}{t:Tr}{S K ST o6 o7 o8 o9:Option B}
open Classical in
theorem zvu{dn:List (List Int)}(D:Dr n t)(h:Pty n p)(hl:dn.length<=63)(Z:Ev)(e:Z=[S,K,ST,some (.val (.int n)),some (.val (toD t)),some (.val (.lst (lp (rws n t)))),some (.own (lp (hdL n t dn))),some (.val (tz p)),o8,o9]) :
  tA Z=.ok (.nx,[S,K,ST,some (.val (.int n)),some (.val (toD t)),some (.val (.lst (lp (rws n t)))),some (.own (lp (hdL n t (dn++[p])))),some (.val (tz p)),o8,o9]):=by
 have h6:=D.n6;have hrl:=ztW D;have ec:cA Z=.ok (((rws n t).filter λr=>!decide (Ct p r)).map tz,Z):=by
  refine zco (u:=tz) (f:=tz) (p:=λr=>!decide (Ct p r)) (l:=rws n t) (ds:=lp (rws n t)) (Z0:=Z) (by rw[e];rfl) rfl (by rw[e];rfl) xwl (λr hr=>?_) λr hr _=>by rw[e];rfl
  have hp:=(zav ((zmu D).mp hr)).trans D.l;have hl:r.length<=1000:=by rw[hp.length_eq,zbC];lia
  refine zhi (zaG (zcN (d:=tz r) (e:=tz p) (by rw[e];rfl) (by rw[e];rfl) (zoq (hp.nodup_iff.mpr (zdv n)) (zl5 h) (λx hx=>hp.mem_iff.mpr (zdC.mpr (h.2.2 x hx))) h.1 (zqi D h) hl)))
 have ht:dTB (dOp (gEq false) (dFz cA) (dFz (zdg dA0))) Z=.ok (decide (Hd p t),Z):=by
  refine zaG (zau (Z1:=Z) (e:=.lst []) (zba ec) rfl ?_);show gEq false (.lst (lp ((rws n t).filter λr=>!decide (Ct p r)))) (.lst [])=_;rw[zbF (zwk _) rfl];by_cases q:Hd p t
  ·have:((rws n t).filter λr=>!decide (Ct p r))=[]:=List.filter_eq_nil_iff.mpr λr hr=>by have:=q r ((zmu D).mp hr);simp[this]
   rw[this,decide_eq_true q];show R.ok (Dt.bl (eqD (.lst []) (.lst [])))=_;rw[zhC]
  ·obtain ⟨r,hr,hc⟩ : ∃ r∈zan t,¬ Ct p r:=by refine Classical.byContradiction λz=>q λr hr=>Classical.byContradiction λhc=>z ⟨r,hr,hc⟩
   obtain ⟨a,l,el⟩:=waI (List.ne_nil_of_mem (List.mem_filter.mpr ⟨(zmu D).mpr hr,by simp[hc]⟩ : r∈(rws n t).filter λr=>!decide (Ct p r)));rw[el,decide_eq_false q];show R.ok (Dt.bl (eqD (.lst (tz a::lp l)) (.lst [])))=_;rw[zg9]
 by_cases q:Hd p t
 ·rw[decide_eq_true q] at ht;have e2:hdL n t (dn++[p])=hdL n t dn++[p]:=by unfold hdL;rw[List.filter_append];simp[q]
  rw[show tA Z=_ from zd5 ht,e2];subst e;have hz:(lp (hdL n t dn)).length<16777216:=by rw[zn4];have:(hdL n t dn).length<=dn.length:=List.length_filter_le _ _;lia
  refine zeo (d:=.non) ?_;unfold zcQ;simp only[List.getElem?_cons_succ,List.getElem?_cons_zero,zab,R.bind_ok];rw[if_pos hz];unfold lp;rw[List.map_append];rfl
 ·rw[decide_eq_false q] at ht;have e2:hdL n t (dn++[p])=hdL n t dn:=by unfold hdL;rw[List.filter_append];simp[q]
  rw[show tA Z=_ from zcm ht,e2,e];rfl
theorem zul(D:Dr n t){b6:B}(h:b6=.own (lp (hdL n t (sub 0 n)))\/b6=.val (.lst (lp (hdL n t (sub 0 n))))):∃ b9,tB [S,K,ST,some (.val (.int n)),some (.val (toD t)),o6,some b6,o7,o8,o9]=.ok (.nx,[S,K,ST,some (.val (.int n)),some (.val (toD t)),o6,some (.val (.lst (lp (hdL n t (sub 0 n))))),o7,o8,b9]):=by
 have hl:=zu4 D;let L:=lp (hdL n t (sub 0 n));let Z0:Ev:=[S,K,ST,some (.val (.int n)),some (.val (toD t)),o6,some b6,o7,o8,o9]
 let Z1:Ev:=[S,K,ST,some (.val (.int n)),some (.val (toD t)),o6,some b6,o7,o8,some (.own L)]
 let Z2:Ev:=[S,K,ST,some (.val (.int n)),some (.val (toD t)),o6,some (.val (.lst L)),o7,o8,some (.own L)]
 have x1:zck 9 (zbn zbN (dR (zab 3) (dR (zab 4) dR0))) Z0=.ok (.nx,Z1):=zmR (Z1:=Z0) (zng (Z':=Z0) (Z'':=Z0) (d:=.int n) (e:=toD t) rfl rfl (znS D)) (show 9<10 by decide);have hu:zfl 6 Z1=.ok (.lst L,Z2):=by rcases h with rfl|rfl <;> rfl
 have hF:=ztM (k:=13) (hdL n t (sub 0 n)) xwl λq hq=>zqi D (zmC (List.mem_filter.mp hq).1);have hle:zjf 9 (zfl 6) (za0 16) Z1=.ok (.bl true,Z2):=by unfold zjf;show ((zfl 6 Z1).bind _)=_;rw[hu];show (match za0 16 [.val (.lst L),.val (.lst L)] with|.ok (.bl c,_)=>R.ok (Dt.bl c,Z2)|_=>.no)=_;rw[hF]
 have hz:L.length<16777216:=by show (lp _).length<_;rw[zn4];lia
 refine ⟨some (.own (L++[.tup []])),?_⟩;refine (zag x1).trans ((zag (Z1:=Z2) ((zcm (zhi (zaG hle))).trans rfl)).trans (zeo (d:=.non) ?_));show (if L.length<16777216 then R.ok (Dt.non,[S,K,ST,some (.val (.int n)),some (.val (toD t)),o6,some (.val (.lst L)),o7,o8,some (.own (L++[.tup []]))]) else .no)=_;rw[if_pos hz]
end
theorem zo7{ns:List Int}{k:Nat}{o2 o3 o4 o5 o6 o7 o8 o9:Option B}:∃ b2 b3 b4 b5 b6 b7 b8 b9,outer [some (.val (.scr ns)),some (.val (.int k)),o2,o3,o4,o5,o6,o7,o8,o9]=.ok (.nx,[some (.val (.scr ns)),some (.val (.int k)),b2,b3,b4,b5,b6,b7,b8,b9]):=by
 let S:Option B:=some (.val (.scr ns));let K:Option B:=some (.val (.int k));obtain ⟨st,hs,e1⟩:=zov (ns:=ns) (k:=k);have x1:zck 2 (zbn zc5 (dR (zab 0) (dR (zab 1) dR0))) [S,K,o2,o3,o4,o5,o6,o7,o8,o9]=.ok (.nx,[S,K,some (.own st),o3,o4,o5,o6,o7,o8,o9]) :=
  zmR (zng (Z':=[S,K,o2,o3,o4,o5,o6,o7,o8,o9]) (Z'':=[S,K,o2,o3,o4,o5,o6,o7,o8,o9]) rfl rfl e1) xws
 obtain ⟨v,st1,e2,hs1,v0,v1⟩:=zeI (m:=6) hs xwd xwd;obtain ⟨N,hN⟩ : ∃ N:Nat,(N:Int)=1+v:=⟨(1+v).toNat,xwl⟩
 have n1:1<=N:=by lia
 have n6:N<=6:=by lia
 let NV:Option B:=some (.val (.int N));have x2:zbi 3 (dOp zeK (dC (.int 1)) (zai zaw (dRO 2 (dR (dC (.int 6)) dR0)))) [S,K,some (.own st),o3,o4,o5,o6,o7,o8,o9]=.ok (.nx,[S,K,some (.own st1),NV,o4,o5,o6,o7,o8,o9]):=by refine zaM (zau rfl (zlC (Z:=[S,K,some (.own st),o3,o4,o5,o6,o7,o8,o9]) rfl rfl e2) (z:=.int N) ?_) xws;rw[hN];rfl
 have hgl:(zbb N).length=N:=zbC N;obtain ⟨t,st3,hs3,⟨ho,hpm,hd⟩,e4⟩:=zkS 8 (zbb N) st1 xwl xwd xwl xwl hs1;have D:Dr N t:=⟨n1,n6,⟨⟨ho,hpm.nodup_iff.mpr (zdv N)⟩,by rw[hpm.length_eq];lia⟩,hpm⟩
 let TV:Option B:=some (.val (toD t));let RV:Option B:=some (.val (.lst (lp (rws N t))));let ST:Option B:=some (.own st3);have x3:zbi 4 (zai (zaW 8) (dRO 2 (dR (dFz (zmL (zab 3))) dR0))) [S,K,some (.own st1),NV,o4,o5,o6,o7,o8,o9]=.ok (.nx,[S,K,ST,NV,TV,o5,o6,o7,o8,o9]) :=
  zaM (zlC (Z:=[S,K,some (.own st1),NV,o4,o5,o6,o7,o8,o9]) rfl (zba (ztJ rfl xwl)) e4) xws
 let Z4:Ev:=[S,K,ST,NV,TV,o5,o6,o7,o8,o9]
 let Z5:Ev:=[S,K,ST,NV,TV,RV,o6,o7,o8,o9]
 have x4:zbi 5 (dFz (zbn zbw (dR (zab 4) (dR (zai zcA (dR (zab 3) dR0)) dR0)))) Z4=.ok (.nx,Z5) :=
  zaM (Z1:=Z4) (zba (zng (Z':=Z4) (Z'':=Z4) (d:=toD t) rfl (zeg (Z':=Z4) (d:=.int N) rfl (zo1 n6)) (zsc D))) (show 5<10 by decide)
 let Z6:Ev:=[S,K,ST,NV,TV,RV,some (.own []),o7,o8,o9]
 have x5:zck 6 (zdg dA0) Z5=.ok (.nx,Z6):=rfl;have hsl:=zmb n1 n6;obtain ⟨Z7,⟨b7,rfl⟩,x7⟩:=zca (u:=tz) (l:=sub 0 N) (ds:=lp (sub 0 N)) (g:=zb7 7) (body:=tA) (fi:=dIt (zai zaU (dR (zab 3) dR0))) (Z:=Z6) (Z0:=Z6) (I:=λdn Z=>∃ b7,Z=[S,K,ST,NV,TV,RV,some (.own (lp (hdL N t dn))),b7,o8,o9])
  (by unfold dIt;rw[zeg (F:=zaU) (fa:=zab 3) (Z:=Z6) (Z':=Z6) (d:=.int (N:Nat)) rfl (zty (zyk N (zyf n1 n6)))];rfl) rfl ⟨o7,rfl⟩
  (λdn c zbV e Z ⟨b7,hρ⟩=>by subst hρ;exact ⟨_,_,rfl,zvu D (zmC (by rw[e];simp)) (by have:=congrArg List.length e;simp at this;lia) _ rfl,_,rfl⟩)
 obtain ⟨Z8,⟨c6,hc6,c8,c9,rfl⟩,x8⟩:=zca (u:=λi:Nat=>Dt.int i) (l:=List.range 2) (g:=zb7 8) (body:=tB) (fi:=zdM (dC (.int 2))) (Z:=[S,K,ST,NV,TV,RV,some (.own (lp (hdL N t (sub 0 N)))),b7,o8,o9]) (I:=λdn Z=>∃ b6,(b6=.own (lp (hdL N t (sub 0 N)))\/b6=.val (.lst (lp (hdL N t (sub 0 N)))))/\∃ b8 b9,Z=[S,K,ST,NV,TV,RV,some b6,b7,b8,b9]) (znt (m:=2) (Z1:=[S,K,ST,NV,TV,RV,some (.own (lp (hdL N t (sub 0 N)))),b7,o8,o9]) rfl xwd) rfl ⟨_,.inl rfl,o8,o9,rfl⟩
  (λdn c zbV e Z ⟨b6,h6,b8,b9,hρ⟩=>by subst hρ;obtain ⟨d9,e9⟩:=zul (S:=S) (K:=K) (ST:=ST) (o6:=RV) (o7:=b7) (o8:=some (.val (.int (c:Nat)))) (o9:=b9) D h6;exact ⟨_,_,rfl,e9,_,.inr rfl,_,d9,rfl⟩)
 refine ⟨ST,NV,TV,RV,some c6,b7,c8,c9,?_⟩;unfold outer;rw[zag x1,zag x2,zag x3,zag x4,zag x5,zag x7];exact x8
theorem law_true(ns:List Int):zo4 [.val (.scr ns)]=.ok (.bl true,[.val .non]):=by
 let Z0:Ev:=[some (.val (.scr ns)),none,none,none,none,none,none,none,none,none]
 obtain ⟨j,hj,ej⟩ : ∃ j:Nat,j<=1000/\dFn zki (dA (dC (.int 1)) (dA (dFn zjs (dA (dFn zc3 (dA (zab 0) dA0)) (dA (dC (.int 3)) dA0))) dA0)) Z0=.ok (.int (j:Nat),Z0):=by
  have h0:dFn zki (dA (dC (.int 1)) (dA (dFn zjs (dA (dFn zc3 (dA (zab 0) dA0)) (dA (dC (.int 3)) dA0))) dA0)) Z0=.ok (.int (if (if (3:Int)<ns.length then (3:Int) else ns.length) > 1 then (if (3:Int)<ns.length then (3:Int) else ns.length) else 1),Z0):=rfl;obtain ⟨j,h1,h2⟩ : ∃ j:Nat,(j:Int)=(if (if (3:Int)<ns.length then (3:Int) else ns.length) > 1 then (if (3:Int)<ns.length then (3:Int) else ns.length) else 1)/\j<=1000:=by refine ⟨(if (if (3:Int)<ns.length then (3:Int) else ns.length) > 1 then (if (3:Int)<ns.length then (3:Int) else ns.length) else 1).toNat,?_,?_⟩ <;> split <;> split <;> lia
  refine ⟨j,h2,?_⟩;rw[h0,h1]
 obtain ⟨Z',⟨a1,a2,a3,a4,a5,a6,a7,a8,a9,rfl⟩,e⟩:=zca (u:=λi:Nat=>Dt.int i) (l:=List.range j) (g:=zb7 1) (body:=outer) (Z:=Z0)
  (I:=λ_ Z=>∃ a1 a2 a3 a4 a5 a6 a7 a8 a9,Z=[some (.val (.scr ns)),a1,a2,a3,a4,a5,a6,a7,a8,a9]) (znt ej hj) rfl ⟨none,none,none,none,none,none,none,none,none,rfl⟩
  (λdn k zbV _ Z ⟨a1,a2,a3,a4,a5,a6,a7,a8,a9,hρ⟩=>by subst hρ;obtain ⟨b2,b3,b4,b5,b6,b7,b8,b9,e⟩:=zo7 (ns:=ns) (k:=k) (o2:=a2) (o3:=a3) (o4:=a4) (o5:=a5) (o6:=a6) (o7:=a7) (o8:=a8) (o9:=a9);exact ⟨[some (.val (.scr ns)),some (.val (.int k)),a2,a3,a4,a5,a6,a7,a8,a9],_,rfl,e,_,_,_,_,_,_,_,_,_,rfl⟩)
 refine zaj (Z':=[some (.val (.scr ns)),a1,a2,a3,a4,a5,a6,a7,a8,a9]) rfl ?_ rfl;show ztI Z0=_;rw[zuw,zag e];rfl
end LQ
end
section
namespace Lw
open PySem PySem.Spec L2 PV
section
variable{K:W.Frag}{h:Heap}{mg:Str->Option Value}(X:K.In h)(G:h.Ns mainGlobals mg)
include X G in
theorem fe{x:String}{i:Nat}{f:Addr}{od an:Option Addr}{sl:Array (Option Value)}{oc kV dc pm cd ct:Value}(a:W.nsIn K mainGlobals (Str.ofString x)=some (some (.ref f)))(l:K.lookup f=some ⟨oc,od,.func (W.fnOf (Str.ofString x) (Str.ofString x) (zfG (top i)) (zdS (top i)) (zak (top i)) .none kV dc pm an cd ct),sl⟩)(c:W.codeIn K cd (Str.ofString x)=true)(k:W.keepIn K (.ref f)=true):Uf K mg x i:=⟨_,_,zsT (st:=top i) l c k,W.mg_of X G a⟩
include X G in
theorem ct{x:Str}{i:Int}{t:Tok}(m:W.nsIn K mainGlobals x=some (some (.int i t))):∃ t,mg x=some (.int i t):=⟨_,W.mg_of X G m⟩
include X G in
theorem fin{l:W.OpenLaw}{w:World}{fa g:Addr}(hfa:mg "law"=some (.ref fa)){oe ao:Option Addr}{sm:Array (Option Value)}{o2 k2 d2 p2 cM c2:Value}(T:Tx K mg)
  (b:W.nsIn K mainGlobals (Str.ofString "law")=some (some (.ref g))) (lb:K.lookup g=some ⟨o2,oe,.func (W.fnOf (Str.ofString "law") (Str.ofString "law") (zfG (top 47)) (zdS (top 47)) (zak (top 47)) .none k2 d2 p2 ao cM c2),sm⟩) (cb:W.codeIn K cM (Str.ofString "law")=true) (kb:W.keepIn K (.ref g)=true) :
  ∃ fd:FuncData,(∀(s:Shared)(v:Value),BindsTo s fd ⟨[v],[]⟩ [("script",v)])/\∀ base:Heap,K.In base->base.Ns mainGlobals mg->zgt l.prog w K mg base CX0 114 fa fd ["script"] (zqR false K (λ_=>.none) [false] zo4):=by
 have e:=hfa.symm.trans (W.mg_of X G b);cases e;exact ⟨W.fnOf "law" "law" (zfG (top 47)) (zdS (top 47)) (zak (top 47)) .none k2 d2 p2 ao cM c2,λs v=>.of_eq rfl,λbase _ _=>zyj T (zsT (st:=top 47) lb cb kb)⟩
end
theorem zus{K:W.Frag}{H:Hp}{a:Addr}{ns:List Int}(hS:SqL K H a (ns.map V.int)):zqR false K (λ_=>.none) [false] zo4 [.ref a] H (λv _=>v=.bl true) λ_ _ _=>False:=by
 refine ⟨H,λ_=>none,[.val (.scr ns)],rfl,rfl,⟨zd8.refl _,λb e=>absurd rfl e,λb e=>absurd rfl e,rfl,λj b v e1 e2=>?_⟩,?_⟩
 ·cases j with
  |zero=>simp at e1 e2;subst e1;subst e2;show Rep K H (.scr ns) (.ref a);unfold Rep;exact ⟨a,rfl,hS⟩
  |succ j=>simp at e1
 ·rw[LQ.law_true ns];intro v G1 H1 w1 _ _ q;exact zet (K:=K) (G:=G1) q
theorem walk{l:W.OpenLaw}{q:Program}{loose:List Str}{XP:(Str->Option Value)->Heap->Prop}{YP:World->Heap->Prop}{d:DefRec}{K:Params->W.Frag}(hn:l.most=some 63)(hdf:d.params.defaults=[])
  (hY:∀(w:World)(h:Heap),YP w h->(K w.params).In h)
  (F:∀(w:World)(mg:Str->Option Value)(fa:Addr)(h:Heap),(K w.params).In h->h.Ns mainGlobals mg->mg d.name=some (.ref fa) ->
   ∃ fd:FuncData,(∀(s:Shared)(u:Value),BindsTo s fd ⟨[u],[]⟩ [("script",u)])/\∀ base:Heap,(K w.params).In base->base.Ns mainGlobals mg->zgt l.prog w (K w.params) mg base CX0 114 fa fd ["script"] (zqR false (K w.params) (λ_=>.none) [false] zo4)) :
  W.WalkO q loose XP YP l.row.toRowW d [] (λf vs=>PySem.call f vs) :=
 L2.walk_of (n:=63) (k:=114) (x:="script") (CX:=λ_=>CX0) (sp:=λw=>zqR false (K w.params) (λ_=>.none) [false] zo4) hn xwd hdf ⟨rfl,xwd,xwd⟩ hY F (λ_ _ _ _ _ _ hS=>zus hS) λ_ _ _ _ _ z=>z
end Lw
def PySem.W.Fast.tw1223686992072740637:=0
def PySem.W.Fast.tw802281680475088255:=0
def PySem.W.Fast.tw10912539891617934648:=0
def PySem.W.Fast.tw10088933041665365431:=0
def PySem.W.Fast.tw16472190296832879291:=0
def PySem.W.Fast.tw15835049305525265886:=0
def PySem.W.Fast.tw1373117313138052928:=0
def PySem.W.Fast.tw2956500175536936824:=0
def PySem.W.Fast.tw17519271659092709110:=0
def PySem.W.Fast.tw8119200563098349154:=0
def PySem.W.Fast.tw9536134880175206225:=0
def PySem.W.Fast.tw3234088796951022555:=0
def PySem.W.Fast.tw1128595095646580896:=0
def PySem.W.Fast.tw6133283392111605317:=0
def PySem.W.Fast.tw15571451300549486962:=0
def PySem.W.Fast.tw8854651435941174614:=0
def PySem.W.Fast.tw12187751254005513965:=0
def PySem.W.Fast.tw12975148824057526817:=0
def PySem.W.Fast.tw7318443666647731287:=0
def PySem.W.Fast.tw14734449193267407373:=0
def PySem.W.Fast.tw13463094641930487395:=0
def PySem.W.Fast.tw10416522054914472711:=0
def PySem.W.Fast.tw15327964527200372828:=0
def PySem.W.Fast.tw6677571667942326635:=0
def PySem.W.Fast.tw7231224291637284494:=0
def PySem.W.Fast.tw3261782739140337583:=0
def PySem.W.Fast.tw9064304769527166864:=0
def PySem.W.Fast.tw10009671391398228640:=0
def PySem.W.Fast.tw1421836527531016781:=0
def PySem.W.Fast.tw1783850289178332027:=0
def PySem.W.Fast.tw12274922198587596453:=0
def PySem.W.Fast.tw14084085517257165555:=0
def PySem.W.Fast.tw1123359422624266230:=0
def PySem.W.Fast.tw430978185378841019:=0
def PySem.W.Fast.tw5164045934619655615:=0
def PySem.W.Fast.tw14698325618655758927:=0
def PySem.W.Fast.tw6540138571003023961:=0
def PySem.W.Fast.tw10403407607234283164:=0
def PySem.W.Fast.tw12295025085773543259:=0
def PySem.W.Fast.tw10215095546160468348:=0
def PySem.W.Fast.tw1599719039180656790:=0
def PySem.W.Fast.tw3536077473907658106:=0
def PySem.W.Fast.tw7247146017919213090:=0
def PySem.W.Fast.tw5519171562172675785:=0
def PySem.W.Fast.tw373194561676541870:=0
def PySem.W.Fast.tw11364711958311399231:=0
open PySem PySem.W PyProof.Rows
set_option maxRecDepth 100000 in
set_option maxHeartbeats 0 in
theorem PySem.Challenge.cw_standtogether_k13_all_parties_held_holds : PySem.Challenge.rw_standtogether_k13_all_parties_held.Holds := by
  w_on; o_law; k_head; (case hw => w_witness2)
  k_fill
  refine Lw.walk (l := PySem.Challenge.rw_standtogether_k13_all_parties_held) rfl rfl (fun w h Y => PySem.W.kIn_of Y) ?F
  case F =>
    intro w mg fa h KX G hmg
    refine' Lw.fin KX G hmg ⟨Lw.fe KX G ?_ ?_ ?_ ?_,Lw.fe KX G ?_ ?_ ?_ ?_,Lw.fe KX G ?_ ?_ ?_ ?_,Lw.fe KX G ?_ ?_ ?_ ?_,Lw.fe KX G ?_ ?_ ?_ ?_,Lw.fe KX G ?_ ?_ ?_ ?_,Lw.fe KX G ?_ ?_ ?_ ?_,Lw.fe KX G ?_ ?_ ?_ ?_,
     Lw.fe KX G ?_ ?_ ?_ ?_,Lw.fe KX G ?_ ?_ ?_ ?_,Lw.fe KX G ?_ ?_ ?_ ?_,Lw.fe KX G ?_ ?_ ?_ ?_,Lw.fe KX G ?_ ?_ ?_ ?_,Lw.fe KX G ?_ ?_ ?_ ?_,Lw.fe KX G ?_ ?_ ?_ ?_,Lw.fe KX G ?_ ?_ ?_ ?_,
     Lw.fe KX G ?_ ?_ ?_ ?_,Lw.fe KX G ?_ ?_ ?_ ?_,Lw.fe KX G ?_ ?_ ?_ ?_,Lw.fe KX G ?_ ?_ ?_ ?_,Lw.fe KX G ?_ ?_ ?_ ?_,Lw.fe KX G ?_ ?_ ?_ ?_,Lw.fe KX G ?_ ?_ ?_ ?_,Lw.fe KX G ?_ ?_ ?_ ?_,
     Lw.fe KX G ?_ ?_ ?_ ?_,Lw.fe KX G ?_ ?_ ?_ ?_,Lw.fe KX G ?_ ?_ ?_ ?_,Lw.fe KX G ?_ ?_ ?_ ?_,Lw.fe KX G ?_ ?_ ?_ ?_,Lw.fe KX G ?_ ?_ ?_ ?_,Lw.fe KX G ?_ ?_ ?_ ?_,Lw.fe KX G ?_ ?_ ?_ ?_,
     Lw.fe KX G ?_ ?_ ?_ ?_,Lw.fe KX G ?_ ?_ ?_ ?_,Lw.fe KX G ?_ ?_ ?_ ?_,Lw.fe KX G ?_ ?_ ?_ ?_,PySem.W.mg_none_of KX G ?_,PySem.W.mg_none_of KX G ?_,PySem.W.mg_none_of KX G ?_,PySem.W.mg_none_of KX G ?_,
     PySem.W.mg_none_of KX G ?_,PySem.W.mg_none_of KX G ?_,PySem.W.mg_none_of KX G ?_,PySem.W.mg_none_of KX G ?_,PySem.W.mg_none_of KX G ?_,PySem.W.mg_none_of KX G ?_,PySem.W.mg_none_of KX G ?_,PySem.W.mg_none_of KX G ?_,
     PySem.W.mg_none_of KX G ?_,PySem.W.mg_none_of KX G ?_,Lw.ct KX G ?_,Lw.ct KX G ?_,Lw.ct KX G ?_,Lw.ct KX G ?_⟩ ?_ ?_ ?_ ?_
    all_goals try first | k_is | kernel_rfl
end
