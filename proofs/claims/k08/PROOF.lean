import PyProof.Rows.All
import Wide.All
import OpenK.AllK
import Wide.FinOn
import Lean
import PyProof.EqAt
import PyProof.EqKinds
import PyProof.TupleCall
import PySem.Challenge.RW_standtogether_k08_trees_tightened
set_option Elab.async false
set_option linter.all false
set_option maxRecDepth 100000
set_option maxHeartbeats 4000000
section
open PySem PySem.Spec PyProof.Rows
theorem xwo{p:Prop}(h:p:=by omega):p:=h
theorem xwl{p:Prop}(h:p:=by lia):p:=h
theorem xws{p:Prop}(h:p:=by simp):p:=h
theorem xwk{p:Prop}(h:p:=by kernel_rfl):p:=h
theorem xwd{p:Prop}(h:p:=by decide):p:=h
theorem xwD{p:Prop}(h:p:=by decide +kernel):p:=h
theorem xwO{p:Prop}(h:p:=by first|exact Or.inl rfl|exact Or.inr rfl):p:=h
theorem xwV{p:Prop}(h:p:=by first|exact Or.inl rfl|exact Or.inr (Or.inl rfl)|exact Or.inr (Or.inr rfl)):p:=h
theorem xwA{p:Prop}(h:p:=by first|exact .inl rfl|exact .inr rfl|assumption):p:=h
theorem xwN{i:Nat}{l:List Nat}(h:l.contains i=false):i∉l:=λm=>by rw[List.contains_iff_mem.mpr m] at h;cases h
def waa:=@Heap.get?_push_of_some
def wab:=@wpAny_bind
def wac:=@List.getElem?_eq_getElem
def wad:=@wpAny_pure
def wae:=@Bool.and_eq_true
def waf:=@List.size_toArray
def wag:=@List.length_map
def wah:=@List.mem_cons_of_mem
def wai:=@Heap.lt_size
def waj:=@Heap.get?_push_size
def wak:=@List.not_mem_nil
def wal:=@Nat.le_refl
def wam:=@List.getElem?_eq_some_iff
def wan:=@List.length_cons
def wap:=@List.mem_cons
def war:=@decide_eq_true_eq
def was:=@Nat.lt_of_lt_of_le
def wat:=@decide_eq_true
def wau:=@List.mem_cons_self
def wav:=@List.length_append
def waw:=@decide_eq_false
def wax:=@List.mem_append
def way:=@List.getElem?_set_self
def waz:=@List.mem_append_right
def waA:=@Option.some.inj
def waH:=@List.mem_of_getElem?
def waI:=@List.exists_cons_of_ne_nil
def waL:=@Nat.lt_irrefl
def waM:=@Nat.ne_of_lt
def waN:=@Nat.le_trans
def waO:=@False.elim
def waR:=@List.mem_append_left
def waT:=@Nat.le_add_right
end
section
namespace L2
open PySem PySem.Spec PyProof.Rows
abbrev Key:=Sum Int Str
def zxi:Key->Value->Bool
 |.inl k,v=>Value.isInt k v
 |.inr x,v=>Value.isStrOf x v
def keyH(w:World):Key->Int
 |.inl k=>hashInt k
 |.inr x=>hashStr w x
theorem zb2:∀{k:Key}{v:Value},zxi k v=true->(∃ i t,k=Sum.inl i/\v=Value.int i t)\/(∃ x t,k=Sum.inr x/\v=Value.str x t)
 |.inl i,v,h=>by obtain ⟨t,e⟩:=Value.isInt_shape (k:=i) (v:=v) h;exact .inl ⟨i,t,rfl,e⟩
 |.inr x,v,h=>by obtain ⟨t,e⟩:=Value.isStrOf_shape (x:=x) (v:=v) h;exact .inr ⟨x,t,rfl,e⟩
theorem zwf(a b:Int):decide ((Sum.inl a:Key)=Sum.inl b)=(a == b):=by
 by_cases e:a=b
 ·subst e;simp
 ·have h:¬ (Sum.inl a:Key)=Sum.inl b:=λq=>e (Sum.inl.inj q);rw[decide_eq_false h];exact (beq_eq_false_iff_ne.mpr e).symm
theorem zwL(a b:Str):decide ((Sum.inr a:Key)=Sum.inr b)=decide (a=b):=by
 by_cases e:a=b
 ·subst e;simp
 ·have h:¬ (Sum.inr a:Key)=Sum.inr b:=λq=>e (Sum.inr.inj q);rw[decide_eq_false h,decide_eq_false e]
theorem zxu(a:Int)(b:Str):decide ((Sum.inl a:Key)=Sum.inr b)=false:=waw (λq=>nomatch q)
theorem zws(a:Str)(b:Int):decide ((Sum.inr a:Key)=Sum.inl b)=false:=waw (λq=>nomatch q)
def zry(prog:Program)(w:World):PySem.KeyKind prog w Key where
 is:=zxi
 hash:=keyH w
 inj:=λv a b ha hb=>by
  rcases zb2 ha with ⟨i,t,rfl,rfl⟩|⟨x,t,rfl,rfl⟩
  ·rcases zb2 hb with ⟨j,u,rfl,e⟩|⟨y,u,rfl,e⟩
   ·injection e with e1 _;rw[e1]
   ·exact nomatch e
  ·rcases zb2 hb with ⟨j,u,rfl,e⟩|⟨y,u,rfl,e⟩
   ·exact nomatch e
   ·injection e with e1 _;rw[e1]
 byValue:=λk v h=>by rcases zb2 h with ⟨i,t,rfl,rfl⟩|⟨x,t,rfl,rfl⟩ <;> rfl
 pyHash:=λhv h=>by
  rcases zb2 hv with ⟨i,t,rfl,rfl⟩|⟨x,t,rfl,rfl⟩
  ·exact wpAny_pyHash_int h
  ·exact wpAny_pyHash_str h
 eqBool:=λhu hv h=>by
  rcases zb2 hu with ⟨i,t,rfl,rfl⟩|⟨x,t,rfl,rfl⟩
  ·rcases zb2 hv with ⟨j,u,rfl,rfl⟩|⟨y,u,rfl,rfl⟩
   ·rw[zwf] at h;exact wpAny_eqBool_int h
   ·rw[zxu] at h;exact SeqAt.EqAt.int_str i t y u _ _ _ _ h
  ·rcases zb2 hv with ⟨j,u,rfl,rfl⟩|⟨y,u,rfl,rfl⟩
   ·rw[zws] at h;exact SeqAt.EqAt.str_int x t j u _ _ _ _ h
   ·rw[zwL] at h;exact wpAny_eqBool_str h
 «strs» := λk x t v h=>by
  rcases zb2 h with ⟨i,u,rfl,e⟩|⟨y,u,rfl,e⟩
  ·exact nomatch e
  ·injection e with e1 _;subst e1;cases v <;> rfl
end L2
namespace L2
open PySem PySem.Spec PyProof.Rows
inductive V where
 |non|bl (b:Bool)|int (i:Int)|str (x:Str)|byt (b:Array UInt8)|flt (b:UInt64)|ref (a:Addr)|ty (n:String)
 deriving DecidableEq
def zcs:V->Value->Prop
 |.non,u=>u=Value.none
 |.bl b,u=>u=Value.bool b
 |.int i,u=>∃ t,u=Value.int i t
 |.str x,u=>∃ t,u=Value.str x t
 |.byt b,u=>∃ t,u=Value.bytes b t
 |.flt b,u=>∃ t,u=Value.float b t
 |.ref a,u=>u=Value.ref a
 |.ty n,u=>u=Value.type n
abbrev zbf:List V->List Value->Prop:=Paired zcs
theorem zbf.length{xs:List V}{us:List Value}(r:zbf xs us):xs.length=us.length:=Paired.length r
theorem zbf.get:∀{xs:List V}{us:List Value}{i:Nat}{x:V},zbf xs us->xs[i]? = some x->∃ u,us[i]? = some u/\zcs x u
 |_,_,_,_,.nil,e=>by simp at e
 |_,_,0,_,.cons r _,e=>by simp at e;subst e;exact ⟨_,rfl,r⟩
 |_,_,i+1,x,.cons _ t,e=>by obtain ⟨u,h1,h2⟩:=zbf.get (i:=i) (x:=x) t (by simpa using e);exact ⟨u,by simpa using h1,h2⟩
theorem zbf.set{x:V}{u:Value}(r:zcs x u):∀{xs:List V}{us:List Value}(i:Nat),zbf xs us->zbf (xs.set i x) (us.set i u)
 |_,_,_,.nil=>.nil
 |_,_,0,.cons _ t=>.cons r t
 |_,_,i+1,.cons q t=>.cons q (zbf.set r i t)
theorem zbf.append:∀{xs ys:List V}{us ws:List Value},zbf xs us->zbf ys ws->zbf (xs++ys) (us++ws)
 |_,_,_,_,.nil,s=>s
 |_,_,_,_,.cons r t,s=>.cons r (zbf.append t s)
theorem zbf.take:∀{xs:List V}{us:List Value}(n:Nat),zbf xs us->zbf (xs.take n) (us.take n)
 |_,_,0,_=>.nil
 |_,_,_+1,.nil=>.nil
 |_,_,n+1,.cons r t=>.cons r (zbf.take n t)
theorem zbf.drop:∀{xs:List V}{us:List Value}(n:Nat),zbf xs us->zbf (xs.drop n) (us.drop n)
 |_,_,0,r=>r
 |_,_,_+1,.nil=>.nil
 |_,_,n+1,.cons _ t=>zbf.drop n t
def RelO:Option V->Option Value->Prop
 |some v,some u=>zcs v u
 |none,none=>True
 |_,_=>False
def KV{κ:Type}:List (κ×V)->List (κ×Value)->Prop:=Paired λ(p:κ×V) (q:κ×Value)=>p.1=q.1/\zcs p.2 q.2
def kV:Key->V
 |.inl i=>.int i
 |.inr x=>.str x
inductive HO where
  |lst (xs:List V)
  |tup (xs:List V)
  |dK (kvs:List (Key×V))|dT (kvs:List (List Key×V))
  |set (S:Int->Bool) (n:Nat)
  |ins (C dx:Addr) (fs:List (Str×V))
  |own (x:Addr)
  |xd (fs:List (Str×V))
  |met (f x:Addr)
  |rng (lo hi:Int)
  |frz (o:Obj) (u:HO)
  |tbl (ps:Array Value)
  |ext (φ : Heap->Prop)
abbrev Hp:=Addr->Option HO
def upd(H:Hp)(a:Addr)(o:HO):Hp:=λb=>if b=a then some o else H b
theorem zat{H:Hp}{a:Addr}{o:HO}:upd H a o a=some o:=by unfold upd;rw[if_pos rfl]
theorem zau{H:Hp}{a b:Addr}{o:HO}(h:b≠a):upd H a o b=H b:=by unfold upd;rw[if_neg h]
theorem zav{H:Hp}{a b:Addr}{o:HO}(h:H a=some o)(h':H b=none):a≠b:=by intro e;subst e;rw[h] at h';cases h'
section
variable(P:Program)(w:World)
def zdP(H:Hp)(h:Heap)(a:Addr):HO->Prop
 |.lst xs=>xs.length<=sizeLine/\∃(its:List Value)(n:Nat),zbf xs its/\h.get? a=some { cls:=.type "list",data:=.seq its.toArray n }
 |.tup xs=>xs.length<=sizeLine/\∃ its:List Value,zbf xs its/\∃ n,h.get? a=some { cls:=.type "tuple",data:=.seq its.toArray n }
 |.dK kvs=>kvs.length<=sizeLine/\(a == sysModules)=false/\∃ vs,KV kvs vs/\h.DictOf (zry P w) a vs
 |.dT kvs=>kvs.length<=sizeLine/\(a == sysModules)=false/\∃ xs:List (List Key×Addr×Value),
   Paired (λ(p:List Key×V) (q:List Key×Addr×Value)=>p.1=q.1/\H q.2.1=some (.tup (p.1.map kV))/\zcs p.2 q.2.2) kvs xs /\
   ∃ o es ep,h.get? a=some o/\o.ExactDict/\o.data=.dict es ep/\es.toList=xs.map (entryOfKey (tupleKind (zry P w)))/\(xs.map (·.1)).Nodup
 |.set S n=>h.SetOf (intKind P w) a S n
 |.ins C dx fs=>H dx=some (.own a)/\fs.length<=1000/\dx≠a/\h.get? a=some (W.instObj C dx) /\
   ∃ mA,h.Ns1 dx mA/\(∀ f,RelO (fs.lookup f) (mA f))/\PySem.Within mA (fs.map (·.1))
 |.own _=>∃ o,h.get? a=some o
 |.xd fs=>∃ mA,h.Ns1 a mA/\∀ f,RelO (fs.lookup f) (mA f)
 |.rng lo hi=>∃ t u v,h.get? a=some { cls:=.type "range",data:=.fields #[.int lo t,.int hi u,.int 1 v] }
 |.frz o u=>h.get? a=some o/\zdP H h a u
 |.tbl ps=>h.get? a=some { cls:=.none,data:=.fields ps }
 |.met f x=>h.get? a=some (W.methodObj (.ref f) (.ref x))
 |.ext φ => φ h/\(∃ o,h.get? a=some o)/\∀ h1 h2:Heap,φ h1->(∀ o,h1.get? a=some o->h2.get? a=some o)->φ h2
def HOk(H:Hp)(h:Heap):Prop:=∀ a o,H a=some o->zdP P w H h a o
end
section
variable{P:Program}{w:World}{H H':Hp}{h h':Heap}{a:Addr}{o:HO}
theorem zdP.lt(x:zdP P w H h a o):a<h.objs.size:=by
 cases o with
 |lst xs=>obtain ⟨_,_,_,_,e⟩:=x;exact wai e
 |tup xs=>obtain ⟨_,_,_,_,e⟩:=x;exact wai e
 |dK kvs=>obtain ⟨_,_,_,_,o,_,_,e,_⟩:=x;exact wai e
 |dT kvs=>obtain ⟨_,_,_,_,o,_,_,e,_⟩:=x;exact wai e
 |set S n=>obtain ⟨o,_,_,_,e,_⟩:=x;exact wai e
 |ins C dx fs=>obtain ⟨_,_,_,e,_⟩:=x;exact wai e
 |own y=>obtain ⟨_,e⟩:=x;exact wai e
 |xd fs=>obtain ⟨_,⟨_,_,_,e,_⟩,_⟩:=x;exact wai e
 |rng lo hi=>obtain ⟨_,_,_,e⟩:=x;exact wai e
 |frz ob u=>obtain ⟨e,_⟩:=x;exact wai e
 |tbl ps=>exact wai (show h.get? a=some _ from x)
 |met f y=>exact wai (show h.get? a=some _ from x)
 |ext φ => obtain ⟨_,⟨_,e⟩,_⟩:=x;exact wai e
theorem Paired.mapP{α β:Type}{F G:α->β->Prop}:∀{l₁:List α}{l₂:List β},Paired F l₁ l₂->(∀ a b,F a b->G a b)->Paired G l₁ l₂
 |_,_,.nil,_=>.nil
 |_,_,.cons r t,f=>.cons (f _ _ r) (Paired.mapP t f)
theorem zdP.stay(x:zdP P w H h a o)(k:∀ b u,(b=a\/H b=some (.own a))->h.get? b=some u->h'.get? b=some u)
  (ho:∀ b,H b=some (.own a)->H' b=some (.own a)) (ht:∀ b xs,H b=some (.tup xs)->H' b=some (.tup xs)):zdP P w H' h' a o:=by
 induction o with
 |lst xs=>obtain ⟨z,its,n,r,e⟩:=x;exact ⟨z,its,n,r,k _ _ (.inl rfl) e⟩
 |tup xs=>obtain ⟨z,its,r,n,e⟩:=x;exact ⟨z,its,r,n,k _ _ (.inl rfl) e⟩
 |dK kvs=>obtain ⟨z,y,vs,r,ob,es,ep,e,c⟩:=x;exact ⟨z,y,vs,r,ob,es,ep,k _ _ (.inl rfl) e,c⟩
 |dT kvs =>
  obtain ⟨z,y,xs,r,ob,es,ep,e,c⟩:=x;exact ⟨z,y,xs,Paired.mapP r λp q z=>⟨z.1,ht _ _ z.2.1,z.2.2⟩,ob,es,ep,k _ _ (.inl rfl) e,c⟩
 |set S n=>obtain ⟨ob,es,ep,t,e,c⟩:=x;exact ⟨ob,es,ep,t,k _ _ (.inl rfl) e,c⟩
 |ins C dx fs =>
  obtain ⟨d,z,ne,e,mA,⟨od,es,ep,e2,c⟩,r⟩:=x;exact ⟨ho _ d,z,ne,k _ _ (.inl rfl) e,mA,⟨od,es,ep,k _ _ (.inr d) e2,c⟩,r⟩
 |own y=>obtain ⟨ob,e⟩:=x;exact ⟨ob,k _ _ (.inl rfl) e⟩
 |xd fs=>obtain ⟨mA,⟨od,es,ep,e,c⟩,r⟩:=x;exact ⟨mA,⟨od,es,ep,k _ _ (.inl rfl) e,c⟩,r⟩
 |rng lo hi=>obtain ⟨t,u,v,e⟩:=x;exact ⟨t,u,v,k _ _ (.inl rfl) e⟩
 |frz ob u ih=>obtain ⟨e,q⟩:=x;exact ⟨k _ _ (.inl rfl) e,ih q⟩
 |tbl ps =>
  have e:h.get? a=some { cls:=.none,data:=.fields ps }:=x;show h'.get? a=some { cls:=.none,data:=.fields ps };exact k a _ (.inl rfl) e
 |met f y =>
  have e:h.get? a=some (W.methodObj (.ref f) (.ref y)):=x;show h'.get? a=some (W.methodObj (.ref f) (.ref y));exact k a _ (.inl rfl) e
 |ext φ => obtain ⟨p,⟨o,e⟩,st⟩:=x;exact ⟨st _ _ p λo q=>k _ _ (.inl rfl) q,⟨o,k _ _ (.inl rfl) e⟩,st⟩
theorem HOk.lt(x:HOk P w H h)(e:H a=some o):a<h.objs.size:=(x a o e).lt
theorem HOk.fresh(x:HOk P w H h)(e:h.objs.size<=a):H a=none:=by
 cases q:H a with
 |none=>rfl
 |some u=>exact absurd (was (x.lt q) e) (waL _)
theorem HOk.kept(x:HOk P w H h)(k:∀ b u,h.get? b=some u->h'.get? b=some u):HOk P w H h':=λa o e =>
 (x a o e).stay (λb u _ q=>k b u q) (λ_ q=>q) λ_ _ q=>q
theorem HOk.laid(x:HOk P w H h)(k:∀ b u,h.get? b=some u->h'.get? b=some u)(hp:h.objs.size<=a)(new:zdP P w (upd H a o) h' a o):HOk P w (upd H a o) h':=λb u e=>by
 have hn:=x.fresh hp;by_cases hb:b=a
 ·subst hb;rw[zat] at e;cases e;exact new
 ·rw[zau hb] at e;exact (x b u e).stay (λc v _ q=>k c v q) (λc q=>by rw[zau (zav q hn)];exact q) λc xs q=>by rw[zau (zav q hn)];exact q
end
def Rd(H:Hp)(a:Addr)(u:HO):Prop:=H a=some u\/∃ o,H a=some (.frz o u)
theorem Rd.of{H:Hp}{a:Addr}{u:HO}(h:H a=some u):Rd H a u:=.inl h
theorem Rd.ok{P:Program}{w:World}{H:Hp}{h:Heap}{a:Addr}{u:HO}(r:Rd H a u)(x:HOk P w H h):zdP P w H h a u:=by
 rcases r with r|⟨o,r⟩
 ·exact x a u r
 ·obtain ⟨_,q⟩:=x a _ r;exact q
def Mut:Option HO->Prop
 |some (.lst _)=>True
 |some (.dK _)=>True
 |some (.dT _)=>True
 |some (.set _ _)=>True
 |some (.ins _ _ _)=>True
 |some (.ext _)=>True
 |_=>False
section
variable{P:Program}{w:World}{H:Hp}{h h':Heap}{x e:Addr}{o':HO}
theorem HOk.write(ok:HOk P w H h)(mu:Mut (H x))(he:e=x\/H e=some (.own x))(k:∀ b u,b≠e->h.get? b=some u->h'.get? b=some u)(heo:∃ u,h'.get? e=some u)
  (new:zdP P w (upd H x o') h' x o'):HOk P w (upd H x o') h':=λb u q=>by
 have nown:∀ c y,H c=some (.own y)->c≠x:=λc y r z=>by subst z;rw[r] at mu;exact mu
 have ntup:∀ c xs,H c=some (.tup xs)->c≠x:=λc xs r z=>by subst z;rw[r] at mu;exact mu
 by_cases hb:b=x
 ·subst hb;rw[zat] at q;cases q;exact new
 ·rw[zau hb] at q;by_cases hbe:b=e
  ·have q':H b=some (.own x):=by
    rcases he with z|z
    ·exact absurd (hbe.trans z) hb
    ·rw[hbe];exact z
   rw[q] at q';cases q';obtain ⟨v,hv⟩:=heo;exact ⟨v,by rw[hbe];exact hv⟩
  ·refine (ok b u q).stay (λc v hc r=>k c v ?_ r) (λc r=>by rw[zau (nown c b r)];exact r) λc xs r=>by rw[zau (ntup c xs r)];exact r
   rcases hc with rfl|hc
   ·exact hbe
   ·rintro rfl;rcases he with z|z
    ·exact nown c b hc z
    ·rw[hc] at z;cases z;exact hb rfl
end
structure Un(fs ex:List Addr)(H H':Hp)(h h':Heap):Prop where
 keep:∀ b o,h.get? b=some o->H b=none->b∉fs->b∉ex->h'.get? b=some o
 slot:∀ b o,h.get? b=some o->H b=none->b∈fs->b∉ex->∃ sl,h'.get? b=some { o with slots:=sl }
 free:∀ b o,h.get? b=some o->H b=none->b∉ex->H' b=none
 there:∀ b o,h.get? b=some o->b∉ex->∃ o',h'.get? b=some o'
 tups:∀ b xs,H b=some (.tup xs)->H' b=some (.tup xs)
 frzs:∀ b o u,H b=some (.frz o u)->H' b=some (.frz o u)
 tbls:∀ b ps,H b=some (.tbl ps)->∃ more,H' b=some (.tbl (ps++more))
section
variable{fs fs' ex ex':List Addr}{H H1 H2:Hp}{h h1 h2 h':Heap}{a x e:Addr}{o:HO}
theorem Un.any(u:Un fs ex H H1 h h1){b:Addr}{ob:Obj}(q:h.get? b=some ob)(n:H b=none)(hx:b∉ex):∃ sl,h1.get? b=some { ob with slots:=sl }:=by
 by_cases hb:b∈fs
 ·exact u.slot b ob q n hb hx
 ·exact ⟨ob.slots,u.keep b ob q n hb hx⟩
theorem Un.trans(a:Un fs ex H H1 h h1)(b:Un fs ex H1 H2 h1 h2):Un fs ex H H2 h h2 where
 keep:=λc ob q n hc hx=>b.keep c ob (a.keep c ob q n hc hx) (a.free c ob q n hx) hc hx
 slot:=λc ob q n hc hx=>by obtain ⟨sl,e1⟩:=a.slot c ob q n hc hx;obtain ⟨sl',e2⟩:=b.slot c _ e1 (a.free c ob q n hx) hc hx;exact ⟨sl',e2⟩
 free:=λc ob q n hx=>by obtain ⟨o',e1⟩:=a.there c ob q hx;exact b.free c o' e1 (a.free c ob q n hx) hx
 there:=λc ob q hx=>by obtain ⟨o',e1⟩:=a.there c ob q hx;exact b.there c o' e1 hx
 tups:=λc xs q=>b.tups c xs (a.tups c xs q)
 frzs:=λc ob xs q=>b.frzs c ob xs (a.frzs c ob xs q)
 tbls:=λc ps q=>by obtain ⟨m1,e1⟩:=a.tbls c ps q;obtain ⟨m2,e2⟩:=b.tbls c _ e1;exact ⟨m1++m2,by rw[e2,Array.append_assoc]⟩
theorem Un.kept(k:∀ b u,h.get? b=some u->h'.get? b=some u):Un fs ex H H h h' :=
 ⟨λb ob q _ _ _=>k b ob q,λb ob q _ _ _=>⟨ob.slots,k b ob q⟩,λ_ _ _ n _=>n,λb ob q _=>⟨ob,k b ob q⟩,λ_ _ q=>q,λ_ _ _ q=>q,λ_ ps q=>⟨#[],by rw[q];simp⟩⟩
theorem Un.refl:Un fs ex H H h h:=Un.kept λ_ _ q=>q
theorem Un.laid(k:∀ b u,h.get? b=some u->h'.get? b=some u)(hp:h.objs.size<=a)(hn:H a=none):Un fs ex H (upd H a o) h h' where
 keep:=λb u q _ _ _=>k b u q
 slot:=λb u q _ _ _=>⟨u.slots,k b u q⟩
 free:=λb u q n _=>by rw[zau (Nat.ne_of_lt (Nat.lt_of_lt_of_le (Heap.lt_size q) hp))];exact n
 there:=λb u q _=>⟨u,k b u q⟩
 tups:=λb xs q=>by rw[zau (zav q hn)];exact q
 frzs:=λb u xs q=>by rw[zau (zav q hn)];exact q
 tbls:=λb ps q=>⟨#[],by rw[zau (zav q hn),q];simp⟩
theorem Un.write(mu:Mut (H x))(he:e=x\/H e=some (.own x))(k:∀ b u,b≠e->h.get? b=some u->h'.get? b=some u)(heo:∃ u,h'.get? e=some u):Un fs ex H (upd H x o) h h':=by
 have hx:∀ b,H b=none->b≠x:=λb n z=>by subst z;rw[n] at mu;exact mu
 have hb:∀ b,H b=none->b≠e:=λb n z=>by
  subst z;rcases he with r|r
  ·exact hx b n r
  ·rw[n] at r;cases r
 have hm:∀ b u,H b=some u->¬ Mut (some u)->b≠x:=λb u q nm z=>by subst z;rw[q] at mu;exact nm mu
 refine ⟨λb u q n _ _=>k b u (hb b n) q,λb u q n _ _=>⟨u.slots,k b u (hb b n) q⟩,λb u q n _=>by rw[zau (hx b n)];exact n,λb u q _=>?_,
  λb xs q=>by rw[zau (hm b _ q λz=>z)];exact q,λb u xs q=>by rw[zau (hm b _ q λz=>z)];exact q,λb ps q=>⟨#[],by rw[zau (hm b _ q λz=>z),q];simp⟩⟩
 by_cases hbe:b=e
 ·subst hbe;exact heo
 ·exact ⟨u,k b u hbe q⟩
theorem Un.mono(u:Un fs ex H H1 h h1)(hs:∀ b∈fs,b∈fs')(hx:∀ b∈ex,b∈ex'):Un fs' ex' H H1 h h1 :=
 ⟨λb ob q n hb he=>u.keep b ob q n (λz=>hb (hs b z)) λz=>he (hx b z),λ_ _ q n _ he=>u.any q n λz=>he (hx _ z),λb ob q n he=>u.free b ob q n λz=>he (hx b z),λb ob q he=>u.there b ob q λz=>he (hx b z),u.tups,u.frzs,u.tbls⟩
end
def trk(h:Heap)(H:Hp):List Addr:=(List.range h.objs.size).filter λa=>(H a).isSome
def zsa(h:Heap)(H:Hp):Heap:=W.hideAll h (trk h H)
theorem zqw(h:Heap)(H:Hp):(zsa h H).objs.size=h.objs.size:=W.hideAll_size _ _
theorem zs9{h:Heap}{H:Hp}{b:Addr}{o:Obj}(e:h.get? b=some o)(n:H b=none):(zsa h H).get? b=some o :=
 W.hideAll_get _ e λhm=>by have q:(H b).isSome=true:=(List.mem_filter.mp hm).2;rw[n] at q;simp at q
theorem zvi{h:Heap}{H:Hp}{b:Addr}{o:Obj}(e:(zsa h H).get? b=some o):h.get? b=some o/\H b=none:=by
 have e':h.get? b=some o:=W.of_hideAll (trk h H) e;refine ⟨e',?_⟩;cases q:H b with
 |none=>rfl
 |some x =>
  have hm:b∈trk h H:=List.mem_filter.mpr ⟨List.mem_range.mpr (wai e'),by simp[q]⟩;have z:(zsa h H).get? b=none:=W.hideAll_none (trk h H) hm;rw[z] at e;cases e
def zvv(g h:Heap)(L:Addr):List (Addr×Obj):=(List.range h.objs.size).filterMap λa=>if a=L\/(g.get? a).isSome=true then none else (h.get? a).map λo=>(a,o)
def zbz(g h:Heap)(L d:Addr):List (Addr×Obj):=(zvv g h L).filter λp=>decide (p.1≠d)
end L2
namespace L2
open PySem PySem.Spec PyProof.Rows
structure Mod(K:W.Frag)(mg:Str->Option Value)(base:Heap):Prop where
 kin:K.In base
 glob:base.Ns mainGlobals mg
 blt:∃ mb,base.Ns builtinsNs mb/\∀ x:Str,x≠"__name__"->mb x=bootBuiltins x
 nolimit:base.NoLimit
structure Cx where
 prog:Program
 w:World
 K:W.Frag
 mg:Str->Option Value
 base:Heap
 A:Around
 N:List Str
 s₀:Shared
 H₀:Hp
 env:Env
 outer:List Env
 stack:List Env
 ex:List Addr
 fn:Str->Bool
 calm:Bool
 pn:List (Addr×Obj)
 xe:Value->Shared->Prop
def frs(l:List Env):List Addr:=l.filterMap (·.frame)
abbrev Cx.fs(X:Cx):List Addr:=frs X.outer
def Vis(sc:Scope)(x:Str):Prop:=sc.names.lookup x=some .local\/sc.names.lookup x=some .cell\/sc.names.lookup x=some .free
def Loc(sc:Scope)(x:Str):Prop:=sc.names.lookup x=some .local\/sc.names.lookup x=some .cell
def Look(env:Env)(h:Heap)(m:Str->Option Value)(x:Str)(u:Value):Prop :=
 (env.kindOf x=some .local/\m x=some u)\/((env.kindOf x=some .cell\/env.kindOf x=some .free)/\∃ c,env.cells.lookup x=some c/\h.IsCell c (some u))
structure Cx.Ok(X:Cx):Prop where
 mod:Mod X.K X.mg X.base
 kind:X.env.scope.kind=.function
 glob:X.env.globals=mainGlobals
 blt:X.env.builtins=builtinsNs
 above:X.s₀.heap.objs.size<=X.env.locals
 inj:∀ x y c,X.env.cells.lookup x=some c->X.env.cells.lookup y=some c->x=y
 has:∀ x,(X.env.kindOf x=some .cell\/X.env.kindOf x=some .free)->∃ c,X.env.cells.lookup x=some c
 cab:∀ x c,X.fn x=true->X.env.cells.lookup x=some c->X.s₀.heap.objs.size<=c
 hd:X.calm=true->X.A.handled=none
 frames:X.A.frames=some X.stack
 stk:X.stack=X.outer\/(X.stack=X.env::X.outer/\X.env.frame=some X.env.locals)
 exf:∀ b∈X.ex,b≠X.env.locals/\∀ x c,X.env.cells.lookup x=some c->c≠b
 bs:∀ b o,X.base.get? b=some o->X.s₀.heap.get? b=some o/\X.H₀ b=none
 bsz:X.base.objs.size<=X.s₀.heap.objs.size
 noex:∀ b o,X.base.get? b=some o->b∉X.ex
 exfs:∀ b∈X.ex,b∉X.fs
 funs:X.s₀.heap.FunFrames X.base X.outer
 frf:∀ b∈X.fs,X.H₀ b=none
structure Inv(X:Cx)(pS:List (Addr×Obj))(Y:List (Option V))(H:Hp)(s:Shared):Prop where
 ok:X.Ok
 os:s.os=X.s₀.os
 bare:AllBare s.gens
 base:Un X.fs X.ex X.H₀ H X.s₀.heap s.heap
 loc:∃ m,s.heap.Ns X.env.locals m/\∀(i:Nat)(x:Str)(v:V),X.N[i]? = some x->Y[i]? = some (some v)->Vis X.env.scope x->∃ u,zcs v u/\Look X.env s.heap m x u
 cell:∀ x c,X.env.cells.lookup x=some c->∃ v,s.heap.IsCell c v
 free:H X.env.locals=none
 freeC:∀ x c,X.env.cells.lookup x=some c->H c=none
 pin:∀ p∈X.pn++pS,s.heap.get? p.1=some p.2/\H p.1=none/\p.1≠X.env.locals/\p.1∉X.fs/\∀ v,p.2.data≠.cell v
 hok:HOk X.prog X.w H s.heap
 len:Y.length=X.N.length
section
variable{X:Cx}{pS:List (Addr×Obj)}{Y:List (Option V)}{H H':Hp}{s:Shared}{h':Heap}
theorem Cx.Ok.nofr(ok:X.Ok){b:Addr}{o:Obj}(e:X.base.get? b=some o):b∉X.fs:=λhb=>by have:=(ok.funs.mem hb).1;rw[e] at this;cases this
theorem Inv.bs(I:Inv X pS Y H s):∀ b o,X.base.get? b=some o->s.heap.get? b=some o/\H b=none:=λb o e =>
 ⟨I.base.keep b o (I.ok.bs b o e).1 (I.ok.bs b o e).2 (I.ok.nofr e) (I.ok.noex b o e),I.base.free b o (I.ok.bs b o e).1 (I.ok.bs b o e).2 (I.ok.noex b o e)⟩
theorem Inv.bk(I:Inv X pS Y H s):∀ b o,X.base.get? b=some o->s.heap.get? b=some o:=λb o e=>(I.bs b o e).1
theorem Inv.mod(I:Inv X pS Y H s):Mod X.K X.mg X.base:=I.ok.mod
theorem Inv.kIn(I:Inv X pS Y H s):X.K.In s.heap:=I.ok.mod.kin.keeps I.bk
theorem Inv.nolimit(I:Inv X pS Y H s):s.heap.NoLimit:=I.ok.mod.nolimit.keeps I.bk
theorem Inv.fr(I:Inv X pS Y H s):∃ m,Fr X.base X.env.locals s.heap m :=
 let ⟨m,hn,_⟩:=I.loc
 ⟨m,hn,I.bk,waN I.ok.bsz I.ok.above⟩
theorem Inv.lt(I:Inv X pS Y H s):X.env.locals<s.heap.objs.size:=let ⟨_,hn,_⟩:=I.loc;hn.lt
theorem Inv.sz(I:Inv X pS Y H s):X.s₀.heap.objs.size<=s.heap.objs.size:=waN I.ok.above (Nat.le_of_lt I.lt)
theorem Inv.nofs(I:Inv X pS Y H s){a:Addr}(h:s.heap.objs.size<=a):a∉X.fs:=λhb=>by obtain ⟨_,o,ho,_⟩:=I.ok.funs.mem hb;exact absurd (was (wai ho) (waN I.sz h)) (waL _)
theorem Inv.cne(I:Inv X pS Y H s):∀ x c,X.env.cells.lookup x=some c->c≠X.env.locals:=λx c e z=>by obtain ⟨v,o,ho,hd⟩:=I.cell x c e;obtain ⟨m,⟨o',es,ep,ho',hd',_⟩,_⟩:=I.loc;rw[z,ho'] at ho;cases ho;rw[hd'] at hd;cases hd
theorem Inv.funs(I:Inv X pS Y H s):s.heap.FunFrames X.base X.outer:=by
 have all:∀(l:List Env),(∀ b∈frs l,b∈X.fs)->X.s₀.heap.FunFrames X.base l->s.heap.FunFrames X.base l:=by
  intro l
  induction l with
  |nil=>intro _ _;trivial
  |cons env r ih =>
   intro hs hl;obtain ⟨hk,⟨L,o,hf,hn,ho,hd⟩,hr⟩:=hl;have hL:L∈X.fs:=hs L (by unfold frs;rw[List.filterMap_cons,hf];exact wau);obtain ⟨sl,e⟩:=I.base.slot L o ho (I.ok.frf L hL) hL λz=>I.ok.exfs L z hL;exact ⟨hk,⟨L,_,hf,hn,e,hd⟩,ih (λb hb=>hs b (by unfold frs;rw[List.filterMap_cons,hf];exact wah _ hb)) hr⟩
 exact all X.outer (λ_ hb=>hb) I.ok.funs
theorem Inv.stack(I:Inv X pS Y H s):s.heap.FunFrames X.base X.stack:=by
 rcases I.ok.stk with e|⟨e,hf⟩
 ·rw[e];exact I.funs
 ·rw[e];obtain ⟨m,hn,_⟩:=I.loc;refine .cons (by rw[I.ok.kind];decide) hf hn ?_ I.funs;exact Heap.get?_none_of_le (waN I.ok.bsz I.ok.above)
theorem Inv.stkSub(I:Inv X pS Y H s):∀ b∈frs X.stack,b∈X.env.locals::X.fs:=λb hb=>by
 rcases I.ok.stk with e|⟨e,hf⟩
 ·rw[e] at hb;exact wah _ hb
 ·rw[e] at hb;unfold frs at hb;rw[List.filterMap_cons,hf] at hb;exact hb
theorem Inv.stkFree(I:Inv X pS Y H s):∀ b∈frs X.stack,H b=none:=λb hb=>by
 rcases wap.mp (I.stkSub b hb) with e|hb
 ·rw[e];exact I.free
 ·obtain ⟨_,o,ho,_⟩:=I.ok.funs.mem hb;exact I.base.free b o ho (I.ok.frf b hb) λz=>I.ok.exfs b z hb
theorem Inv.step{g':Array GenState}{t':Nat}{d':Drawn}{ch:List Addr}(I:Inv X pS Y H s)
  (hch:∀ b∈ch,(b∈X.ex\/X.s₀.heap.objs.size<=b)/\b≠X.env.locals/\(∀ x c,X.env.cells.lookup x=some c->c≠b)/\∀ p∈X.pn++pS,p.1≠b)
  (keep:∀ b o,b≠X.env.locals->b∉X.fs->b∉ch->s.heap.get? b=some o->H b=none->h'.get? b=some o)
  (slot:∀ b o,b≠X.env.locals->b∈X.fs->b∉ch->s.heap.get? b=some o->H b=none->∃ sl,h'.get? b=some { o with slots:=sl }) (free:∀ b o,b∉ch->s.heap.get? b=some o->H b=none->H' b=none)
  (there:∀ b o,b∉ch->s.heap.get? b=some o->∃ o',h'.get? b=some o')
  (tups:∀ b xs,H b=some (.tup xs)->H' b=some (.tup xs)) (frzs:∀ b o u,H b=some (.frz o u)->H' b=some (.frz o u)) (tbls:∀ b ps,H b=some (.tbl ps)->∃ more,H' b=some (.tbl (ps++more)))
  (ns:∀ m,s.heap.Ns X.env.locals m->h'.Ns X.env.locals m) (hok:HOk X.prog X.w H' h') (hg:AllBare g') :
  Inv X pS Y H' { s with heap:=h',gens:=g',drawn:=d',toks:=t' }:=by
 have neL:∀ b o,X.s₀.heap.get? b=some o->b≠X.env.locals:=λb o e=>waM (was (wai e) I.ok.above);have neC:∀ b o,X.s₀.heap.get? b=some o->b∉X.ex->b∉ch:=λb o e hx hb=>by
  rcases (hch b hb).1 with z|z
  ·exact hx z
  ·exact absurd (was (wai e) z) (waL _)
 have cellK:∀ x c,X.env.cells.lookup x=some c->∀ v,s.heap.IsCell c v->h'.IsCell c v:=λx c e v ⟨o,ho,hd⟩=>by
  have nch:c∉ch:=λz=>(hch c z).2.2.1 x c e rfl;by_cases hc:c∈X.fs
  ·obtain ⟨sl,q⟩:=slot c o (I.cne x c e) hc nch ho (I.freeC x c e);exact ⟨_,q,hd⟩
  ·exact ⟨o,keep c o (I.cne x c e) hc nch ho (I.freeC x c e),hd⟩
 refine ⟨I.ok,I.os,hg,⟨λb o e n hb hx=>?_,λb o e n hb hx=>?_,λb o e n hx=>?_,λb o e hx=>?_,λb xs e=>tups b xs (I.base.tups b xs e),λb o xs e=>frzs b o xs (I.base.frzs b o xs e),λb ps e=>?_⟩,?_,λx c e=>?_,?_,λx c e=>?_,λp hp=>?_,hok,I.len⟩
 ·exact keep b o (neL b o e) hb (neC b o e hx) (I.base.keep b o e n hb hx) (I.base.free b o e n hx)
 ·obtain ⟨sl,e1⟩:=I.base.slot b o e n hb hx;obtain ⟨sl',e2⟩:=slot b _ (neL b o e) hb (neC b o e hx) e1 (I.base.free b o e n hx);exact ⟨sl',e2⟩
 ·obtain ⟨o',e1⟩:=I.base.there b o e hx;exact free b o' (neC b o e hx) e1 (I.base.free b o e n hx)
 ·obtain ⟨o',e1⟩:=I.base.there b o e hx;exact there b o' (neC b o e hx) e1
 ·obtain ⟨m1,e1⟩:=I.base.tbls b ps e;obtain ⟨m2,e2⟩:=tbls b _ e1;exact ⟨m1++m2,by rw[e2,Array.append_assoc]⟩
 ·obtain ⟨m,hn,hl⟩:=I.loc;refine ⟨m,ns m hn,λi x v e1 e2 e3=>?_⟩;obtain ⟨u,r,l⟩:=hl i x v e1 e2 e3;refine ⟨u,r,?_⟩;rcases l with l|⟨k,c,e,z⟩
  ·exact .inl l
  ·exact .inr ⟨k,c,e,cellK x c e _ z⟩
 ·obtain ⟨v,z⟩:=I.cell x c e;exact ⟨v,cellK x c e v z⟩
 ·obtain ⟨m,⟨o,_,_,ho,_⟩,_⟩:=I.loc;exact free _ o (λz=>(hch _ z).2.1 rfl) ho I.free
 ·obtain ⟨v,o,ho,hd⟩:=I.cell x c e;exact free c o (λz=>(hch c z).2.2.1 x c e rfl) ho (I.freeC x c e)
 ·obtain ⟨e,n,ne,nf,d⟩:=I.pin p hp;have nch:p.1∉ch:=λz=>(hch p.1 z).2.2.2 p hp rfl;exact ⟨keep p.1 p.2 ne nf nch e n,free p.1 p.2 nch e n,ne,nf,d⟩
theorem Inv.un{t':Nat}(I:Inv X pS Y H s)(u:Un X.fs [] H H' s.heap h')(hok:HOk X.prog X.w H' h'):Inv X pS Y H' { s with heap:=h',toks:=t' }:=by
 obtain ⟨m,⟨o,es,ep,ho,r⟩,_⟩:=id I.loc;obtain ⟨sl,hL⟩:=u.any ho I.free xws;exact I.step (g':=s.gens) (d':=s.drawn) (ch:=[]) (λ_ z=>nomatch z) (λb o _ hb _ e n=>u.keep b o e n hb xws) (λb o _ hb _ e n=>u.slot b o e n hb xws) (λb o _ e n=>u.free b o e n xws) (λb o _ e=>u.there b o e xws) u.tups u.frzs u.tbls (λm' hm=>by obtain ⟨o',es',ep',ho',r'⟩:=hm;rw[ho] at ho';cases ho';exact ⟨_,es',ep',hL,r'⟩) hok I.bare
theorem Inv.call{g':Array GenState}{t':Nat}{d':Drawn}{ch:List Addr}(I:Inv X pS Y H s)(u:Un (frs X.stack) ch H H' s.heap h')(hok:HOk X.prog X.w H' h')(hg:AllBare g')
  (hch:∀ b∈ch,(b∈X.ex\/X.s₀.heap.objs.size<=b)/\b≠X.env.locals/\(∀ x c,X.env.cells.lookup x=some c->c≠b)/\∀ p∈X.pn++pS,p.1≠b) :
  Inv X pS Y H' { s with heap:=h',gens:=g',drawn:=d',toks:=t' }:=by
 obtain ⟨m,⟨o,es,ep,ho,r⟩,_⟩:=id I.loc;obtain ⟨sl,hL⟩:=u.any ho I.free λz=>(hch _ z).2.1 rfl;exact I.step (ch:=ch) hch (λb o hL hb hc e n=>u.keep b o e n (λz=>(wap.mp (I.stkSub b z)).elim hL hb) hc) (λb o _ _ hc e n=>u.any e n hc) (λb o hc e n=>u.free b o e n hc) (λb o hc e=>u.there b o e hc) u.tups u.frzs u.tbls (λm' hm=>by obtain ⟨o',es',ep',ho',r'⟩:=hm;rw[ho] at ho';cases ho';exact ⟨_,es',ep',hL,r'⟩) hok hg
theorem Inv.turned{t':Nat}{it:Addr}(I:Inv X pS Y H s)(k:∀ b o,b≠it->s.heap.get? b=some o->h'.get? b=some o)(hn:H it=none)(hL:it≠X.env.locals)
  (h1:it∈X.ex\/X.s₀.heap.objs.size<=it) (h2:∀ x c,X.env.cells.lookup x=some c->c≠it) (h3:∀ p∈X.pn++pS,p.1≠it):Inv X pS Y H { s with heap:=h',toks:=t' }:=by
 have nit:∀ b u,H b=some u->b≠it:=λb u e z=>by rw[z,hn] at e;cases e
 refine I.step (g':=s.gens) (d':=s.drawn) (ch:=[it]) (λb hb=>?_) (λb o _ _ hc e _=>k b o (λz=>hc (by simp[z])) e) (λb o _ _ hc e _=>⟨o.slots,k b o (λz=>hc (by simp[z])) e⟩) (λ_ _ _ _ n=>n)
  (λb o hc e=>⟨o,k b o (λz=>hc (by simp[z])) e⟩) (λ_ _ e=>e) (λ_ _ _ e=>e) (λb ps e=>⟨#[],by rw[e];simp⟩) (λm hm=>?_) (λb u e=>?_) I.bare
 ·have e:b=it:=by simpa using hb
  subst e;exact ⟨h1,hL,h2,h3⟩
 ·obtain ⟨o,es,ep,ho,r⟩:=hm;exact ⟨o,es,ep,k _ o (Ne.symm hL) ho,r⟩
 ·refine (I.hok b u e).stay (λc v hc q=>k c v ?_ q) (λ_ q=>q) λ_ _ q=>q;rcases hc with z|z
  ·rw[z];exact nit b u e
  ·exact nit c _ z
theorem Inv.tok(I:Inv X pS Y H s)(t:Nat):Inv X pS Y H { s with toks:=t }:=I.un (h':=s.heap) (t':=t) Un.refl I.hok
theorem Inv.kept{t':Nat}(I:Inv X pS Y H s)(k:∀ b u,s.heap.get? b=some u->h'.get? b=some u):Inv X pS Y H { s with heap:=h',toks:=t' }:=I.un (Un.kept k) (I.hok.kept k)
theorem Inv.laid{a:Addr}{o:HO}{t':Nat}(I:Inv X pS Y H s)(k:∀ b u,s.heap.get? b=some u->h'.get? b=some u)(hp:s.heap.objs.size<=a)(new:zdP X.prog X.w (upd H a o) h' a o) :
  Inv X pS Y (upd H a o) { s with heap:=h',toks:=t' }:=I.un (Un.laid k hp (I.hok.fresh hp)) (I.hok.laid k hp new)
theorem Inv.write{x e:Addr}{o:HO}{t':Nat}(I:Inv X pS Y H s)(mu:Mut (H x))(he:e=x\/H e=some (.own x))(k:∀ b u,b≠e->s.heap.get? b=some u->h'.get? b=some u)(heo:∃ u,h'.get? e=some u)
  (new:zdP X.prog X.w (upd H x o) h' x o):Inv X pS Y (upd H x o) { s with heap:=h',toks:=t' }:=I.un (Un.write mu he k heo) (I.hok.write mu he k heo new)
theorem Inv.weak{Y':List (Option V)}(I:Inv X pS Y H s)(hl:Y'.length = Y.length)(w:∀(i:Nat) v,Y'[i]? = some (some v)->Y[i]? = some (some v)):Inv X pS Y' H s :=
 ⟨I.ok,I.os,I.bare,I.base,let ⟨m,hn,hl'⟩:=I.loc;⟨m,hn,λi x v e1 e2 e3=>hl' i x v e1 (w i v e2) e3⟩,I.cell,I.free,I.freeC,I.pin,I.hok,hl.trans I.len⟩
theorem Inv.pins_of{pins':List (Addr×Obj)}(I:Inv X pS Y H s)(h:∀ p∈pins',s.heap.get? p.1=some p.2/\H p.1=none/\p.1≠X.env.locals/\p.1∉X.fs/\∀ v,p.2.data≠.cell v):Inv X pins' Y H s :=
 ⟨I.ok,I.os,I.bare,I.base,I.loc,I.cell,I.free,I.freeC,λp hp=>(wax.mp hp).elim (λz=>I.pin p (waR _ z)) (h p),I.hok,I.len⟩
theorem znH{N:List Str}(hN:N.Nodup){i j:Nat}{x:Str}(a:N[i]? = some x)(b:N[j]? = some x):i=j:=by obtain ⟨h1,e1⟩:=wam.mp a;obtain ⟨h2,e2⟩:=wam.mp b;exact (List.getElem_inj hN).mp (e1.trans e2.symm)
theorem zi3{M:Model}{A:Around}{E:Value->Shared->Prop}{i:Nat}{x:Str}{v:V}{u:Value}{Q:Unit->Shared->Prop}(I:Inv X pS Y H s)(hN:X.N.Nodup)(hi:X.N[i]? = some x)(hx:Loc X.env.scope x)(r:zcs v u)
  (h:∀ s',Inv X pS (Y.set i (some v)) H s'->(∃ a,Heap.SameBut a s.heap s'.heap/\(a=X.env.locals\/X.env.cells.lookup x=some a))->Q () s') (hf:X.fn x=true\/X.env.scope.names.lookup x=some .local:=by exact xwA):wpAny M A (storeName X.env x u) Q E s:=by
 obtain ⟨m,hn,hl⟩:=id I.loc;have hcls:(X.env.scope.kind == .class || (X.env.scope.kind == .module && X.env.locals != X.env.globals))=false:=by rw[I.ok.kind];rfl
 have hiσ:i < Y.length:=by rw[I.len];exact (wam.mp hi).1
 have cne:=I.cne;have tracked:∀{a:Addr}{h':Heap},(∃ o,s.heap.get? a=some o/\H a=none)->Heap.SameBut a s.heap h'->HOk X.prog X.w H h':=λ{a h'} ha hs b ob e=>by
  obtain ⟨_,_,hfree⟩:=ha;refine (I.hok b ob e).stay (λc w' hc q=>(hs.2 c ?_).trans q) (λ_ q=>q) λ_ _ q=>q;rintro rfl;rcases hc with rfl|hc
  ·rw[hfree] at e;cases e
  ·rw[hfree] at hc;cases hc
 rcases hx with hk|hk
 ·refine wpAny_storeName_local hk hn (λh' hn' hs=>?_) hcls;obtain ⟨oL,_,_,hoL,_⟩:=id hn;refine h _ ⟨I.ok,I.os,I.bare,⟨λb o e n hb hx=>?_,λb o e n hb hx=>?_,I.base.free,λb o e hx=>?_,I.base.tups,I.base.frzs,I.base.tbls⟩,⟨_,hn',λj y v' e1 e2 e3=>?_⟩,λy c e=>?_,I.free,I.freeC,λp hp=>?_,tracked ⟨oL,hoL,I.free⟩ hs,by simpa using I.len⟩ ⟨_,hs,.inl rfl⟩
  ·exact (hs.2 b (waM (was (wai e) I.ok.above))).trans (I.base.keep b o e n hb hx)
  ·obtain ⟨sl,e1⟩:=I.base.slot b o e n hb hx;exact ⟨sl,(hs.2 b (waM (was (wai e) I.ok.above))).trans e1⟩
  ·obtain ⟨o',e1⟩:=I.base.there b o e hx;exact ⟨o',(hs.2 b (waM (was (wai e) I.ok.above))).trans e1⟩
  ·by_cases hj:j=i
   ·subst hj;rw[hi] at e1;cases e1;rw[List.getElem?_set_self hiσ] at e2;cases e2;exact ⟨u,r,.inl ⟨hk,xws⟩⟩
   ·rw[List.getElem?_set_ne (Ne.symm hj)] at e2;obtain ⟨u',r',q⟩:=hl j y v' e1 e2 e3;refine ⟨u',r',?_⟩;rcases q with ⟨k,e⟩|⟨k,c,e,z⟩
    ·refine .inl ⟨k,?_⟩;have:y≠x:=λe=>hj (znH hN e1 (e ▸ hi));simp[this,e]
    ·exact .inr ⟨k,c,e,z.sameBut hs (cne y c e)⟩
  ·obtain ⟨w',z⟩:=I.cell y c e;exact ⟨w',z.sameBut hs (cne y c e)⟩
  ·obtain ⟨e,n,ne,nf,d⟩:=I.pin p hp;exact ⟨(hs.2 p.1 ne).trans e,n,ne,nf,d⟩
 ·have hfn:X.fn x=true:=by
   rcases hf with z|z
   ·exact z
   ·rw[z] at hk;cases hk
  obtain ⟨c,hc⟩:=I.ok.has x (.inl hk);obtain ⟨w',z⟩:=I.cell x c hc;refine wpAny_storeName_cell I.ok.kind hk hc z (λh' hc' hs=>?_);obtain ⟨oc,hoc,hocd⟩:=id z;refine h { s with heap:=h' } ⟨I.ok,I.os,I.bare,⟨λb o e n hb hx=>?_,λb o e n hb hx=>?_,I.base.free,λb o e hx=>?_,I.base.tups,I.base.frzs,I.base.tbls⟩,⟨m,hn.sameBut hs (Ne.symm (cne x c hc)),λj y v' e1 e2 e3=>?_⟩,λy c' e=>?_,I.free,I.freeC,λp hp=>?_,tracked ⟨oc,hoc,I.freeC x c hc⟩ hs,by simpa using I.len⟩ ⟨c,hs,.inr hc⟩
  ·exact (hs.2 b (waM (was (wai e) (I.ok.cab x c hfn hc)))).trans (I.base.keep b o e n hb hx)
  ·obtain ⟨sl,e1⟩:=I.base.slot b o e n hb hx;exact ⟨sl,(hs.2 b (waM (was (wai e) (I.ok.cab x c hfn hc)))).trans e1⟩
  ·obtain ⟨o',e1⟩:=I.base.there b o e hx;exact ⟨o',(hs.2 b (waM (was (wai e) (I.ok.cab x c hfn hc)))).trans e1⟩
  ·by_cases hj:j=i
   ·subst hj;rw[hi] at e1;cases e1;rw[List.getElem?_set_self hiσ] at e2;cases e2;exact ⟨u,r,.inr ⟨.inl hk,c,hc,hc'⟩⟩
   ·rw[List.getElem?_set_ne (Ne.symm hj)] at e2;obtain ⟨u',r',q⟩:=hl j y v' e1 e2 e3;refine ⟨u',r',?_⟩;rcases q with q|⟨k,c',e,z'⟩
    ·exact .inl q
    ·refine .inr ⟨k,c',e,z'.sameBut hs ?_⟩;rintro rfl;exact hj (znH hN e1 (I.ok.inj _ _ _ e hc ▸ hi))
  ·by_cases hcc:c'=c
   ·subst hcc;exact ⟨_,hc'⟩
   ·obtain ⟨w2,z2⟩:=I.cell y c' e;exact ⟨w2,z2.sameBut hs hcc⟩
  ·obtain ⟨e,n,ne,nf,d⟩:=I.pin p hp;refine ⟨(hs.2 p.1 ?_).trans e,n,ne,nf,d⟩;intro q;rw[q,hoc] at e;have q':oc=p.2:=waA e;exact d w' (by rw[<- q'];exact hocd)
theorem zot{M:Model}{A:Around}{E:Value->Shared->Prop}{i:Nat}{x:Str}{v:V}{u:Value}{Q:Unit->Shared->Prop}(I:Inv X pS Y H s)(hN:X.N.Nodup)(hi:X.N[i]? = some x)(hx:Loc X.env.scope x)(r:zcs v u)
  (h:∀ s',Inv X pS (Y.set i (some v)) H s'->Q () s') (hf:X.fn x=true\/X.env.scope.names.lookup x=some .local:=by exact xwA):wpAny M A (storeName X.env x u) Q E s :=
 zi3 I hN hi hx r (λs' I' _=>h s' I') hf
theorem Inv.call'{s':Shared}{ch:List Addr}(I:Inv X pS Y H s)(ho:s'.os=s.os)(u:Un (frs X.stack) ch H H' s.heap s'.heap)(hok:HOk X.prog X.w H' s'.heap)(hg:AllBare s'.gens)
  (hch:∀ b∈ch,(b∈X.ex\/X.s₀.heap.objs.size<=b)/\b≠X.env.locals/\(∀ x c,X.env.cells.lookup x=some c->c≠b)/\∀ p∈X.pn++pS,p.1≠b):Inv X pS Y H' s':=by
 obtain ⟨h',g',d',t',o'⟩:=s';have e:o'=s.os:=ho;subst e;exact I.call (g':=g') (t':=t') (d':=d') u hok hg hch
end
abbrev XK:=Value->Option Addr->Hp->Prop
abbrev St:=List (Option V)
abbrev VK:=V->Hp->Prop
abbrev TE:=St->Hp->VK->Prop
abbrev TT:=St->Hp->(Bool->Hp->Prop)->Prop
abbrev TA:=St->Hp->(List V->Hp->Prop)->Prop
structure ztN where
 nx:St->Hp->Prop
 rt:VK
 bk:St->Hp->Prop:=λ_ _=>False
 ct:St->Hp->Prop:=λ_ _=>False
abbrev TS:=ztN->St->Hp->Prop
def EP(X:Cx)(pS:List (Addr×Obj))(Y:St)(Q:VK)(u:Value)(s':Shared):Prop:=∃ v H',Inv X pS Y H' s'/\zcs v u/\Q v H'
def TP(X:Cx)(pS:List (Addr×Obj))(Y:St)(Q:Bool->Hp->Prop)(b:Bool)(s':Shared):Prop:=∃ H',Inv X pS Y H' s'/\Q b H'
def AP(X:Cx)(pS:List (Addr×Obj))(Y:St)(Q:List V->Hp->Prop)(us:List Value)(s':Shared):Prop:=∃ vs H',Inv X pS Y H' s'/\zbf vs us/\Q vs H'
def SP(X:Cx)(pS:List (Addr×Obj))(D:ztN)(f:Flow)(s':Shared):Prop :=
 match f with
 |.next=>∃ Y' H',Inv X pS Y' H' s'/\D.nx Y' H'
 |.brk=>∃ Y' H',Inv X pS Y' H' s'/\D.bk Y' H'
 |.cont=>∃ Y' H',Inv X pS Y' H' s'/\D.ct Y' H'
 |.ret u=>∃ v Y' H',Inv X pS Y' H' s'/\zcs v u/\D.rt v H'
def PE(X:Cx)(e:Expr)(t:TE):Prop :=
 ∀(pS:List (Addr×Obj))(s:Shared)(Y:St)(H:Hp)(Q:VK),Inv X pS Y H s->t Y H Q->wpAny (model X.prog X.w) X.A (eval e X.env) (EP X pS Y Q) X.xe s
def PT(X:Cx)(e:Expr)(t:TT):Prop :=
 ∀(pS:List (Addr×Obj))(s:Shared)(Y:St)(H:Hp)(Q:Bool->Hp->Prop),Inv X pS Y H s->t Y H Q->wpAny (model X.prog X.w) X.A (isTrue e X.env (eval e X.env)) (TP X pS Y Q) X.xe s
def PW(X:Cx)(e:Expr)(t:TT):Prop :=
 ∀(whole:Sem Value)(pS:List (Addr×Obj))(s:Shared)(Y:St)(H:Hp)(Q:Bool->Hp->Prop),Inv X pS Y H s->t Y H Q->wpAny (model X.prog X.w) X.A (isTrue e X.env whole) (TP X pS Y Q) X.xe s
theorem PW.pt{X:Cx}{e:Expr}{t:TT}(h:PW X e t):PT X e t:=h _
def PA(X:Cx)(es:List Expr)(t:TA):Prop :=
 ∀(pos:Pos)(pS:List (Addr×Obj))(s:Shared)(Y:St)(H:Hp)(Q:List V->Hp->Prop),Inv X pS Y H s->t Y H Q->wpAny (model X.prog X.w) X.A (spliced (backTo pos (starEach es X.env))) (AP X pS Y Q) X.xe s
def PS(X:Cx)(st:Stmt)(t:TS):Prop :=
 ∀(pS:List (Addr×Obj))(s:Shared)(Y:St)(H:Hp)(D:ztN),Inv X pS Y H s->t D Y H->wpAny (model X.prog X.w) X.A (exec st X.env) (SP X pS D) X.xe s
def PSs(X:Cx)(st:List Stmt)(t:TS):Prop :=
 ∀(pS:List (Addr×Obj))(s:Shared)(Y:St)(H:Hp)(D:ztN),Inv X pS Y H s->t D Y H->wpAny (model X.prog X.w) X.A (execs st X.env) (SP X pS D) X.xe s
theorem thn{α:Type}{t:Sem α}{Q Q':α->Shared->Prop}{M:Model}{A:Around}{E:Value->Shared->Prop}{s:Shared}(h:wpAny M A t Q E s)(hQ:∀ a s,Q a s->Q' a s):wpAny M A t Q' E s:=wpAny_mono h hQ λ_ _ x=>x
end L2
namespace L2
open PySem PySem.Spec PyProof.Rows
section
variable{X:Cx}
def zyw(i:Nat):TE:=λY H Q=>∃ v,Y[i]? = some (some v)/\Q v H
def tC(v:V):TE:=λ_ H Q=>Q v H
theorem zd2{i:Nat}{x:Str}{pos:Pos}(hN:X.N[i]? = some x)(hv:Vis X.env.scope x)(hd:(x == ("__debug__" : Str))=false:=by decide)(hcd:(x == ("__classdict__" : Str))=false:=by decide):PE X (.Name x pos) (zyw i):=by
 intro pS s Y H Q I h;obtain ⟨v,e,h⟩:=h;obtain ⟨m,hn,hl⟩:=I.loc;obtain ⟨u,r,l⟩:=hl i x v hN e hv;have fin:EP X pS Y Q u s:=⟨v,H,I,r,h⟩
 rcases l with ⟨hk,hm⟩|⟨hk,c,hc,hcell⟩
 ·exact wpAny_Name (wpAny_loadName_local I.ok.kind hk hn hm fin) hd
 ·rcases hk with hk|hk
  ·exact wpAny_Name (wpAny_loadName_cell I.ok.kind hk hc hcell fin) hd
  ·exact wpAny_Name (wpAny_loadName_free I.ok.kind hk hc hcell fin hcd) hd
theorem ztf{i j pos}:PE X (.Constant (.int i) j pos) (tC (.int i)):=λ_ _ _ H _ I h=>wpAny_Constant_int ⟨.int i,H,I.tok _,⟨_,rfl⟩,h⟩
theorem zys{b j pos}:PE X (.Constant (.bool b) j pos) (tC (.bl b)):=λ_ _ _ H _ I h=>Constant_bool ⟨.bl b,H,I,rfl,h⟩
theorem zwz{j pos}:PE X (.Constant .none j pos) (tC .non):=λ_ _ _ H _ I h=>Constant_none ⟨.non,H,I,rfl,h⟩
theorem zvT{x j pos}:PE X (.Constant (.str x) j pos) (tC (.str x)):=λ_ _ _ H _ I h=>Calls.Constant_str ⟨.str x,H,I.tok _,⟨_,rfl⟩,h⟩
def Gl(X:Cx)(x:Str):Prop:=X.env.kindOf x=some .globalImplicit
theorem zq3{E:Value->Shared->Prop}{pS:List (Addr×Obj)}{s:Shared}{Y:St}{H:Hp}{x:Str}{u:Value}{pos:Pos}{Q:Value->Shared->Prop}(I:Inv X pS Y H s)(hg:Gl X x)(hm:X.mg x=some u)(h:Q u s)
  (hd:(x == ("__debug__" : Str))=false:=by decide):wpAny (model X.prog X.w) X.A (eval (.Name x pos) X.env) Q E s :=
 Calls.Name_function_global I.ok.kind hg (Calls.loadGlobal_global (by rw[I.ok.glob];exact I.mod.glob.keeps I.bk) hm h) hd
theorem zeD{E:Value->Shared->Prop}{pS:List (Addr×Obj)}{s:Shared}{Y:St}{H:Hp}{x:Str}{u:Value}{pos:Pos}{Q:Value->Shared->Prop}(I:Inv X pS Y H s)(hg:Gl X x)(hm:X.mg x=none)(hv:bootBuiltins x=some u)(h:Q u s)
  (hn:x≠"__name__":=by decide) (hd:(x == ("__debug__" : Str))=false:=by decide):wpAny (model X.prog X.w) X.A (eval (.Name x pos) X.env) Q E s:=by
 obtain ⟨mb,h1,h2⟩:=I.mod.blt;exact Calls.Name_function_global I.ok.kind hg (Calls.loadGlobal_builtin (by rw[I.ok.glob];exact I.mod.glob.keeps I.bk) hm (by rw[I.ok.blt];exact h1.keeps I.bk) ((h2 x hn).trans hv) h) hd
theorem zrt{x:Str}{v:V}{u:Value}{pos:Pos}(hg:Gl X x)(hm:X.mg x=some u)(r:zcs v u)(hd:(x == ("__debug__" : Str))=false:=by decide):PE X (.Name x pos) (tC v) :=
 λ_ _ _ H _ I h=>zq3 I hg hm ⟨v,H,I,r,h⟩ hd
theorem zmU{x:Str}{v:V}{u:Value}{pos:Pos}(hg:Gl X x)(hm:X.mg x=none)(hv:bootBuiltins x=some u)(r:zcs v u)(hn:x≠"__name__":=by decide)(hd:(x == ("__debug__" : Str))=false:=by decide):PE X (.Name x pos) (tC v) :=
 λ_ _ _ H _ I h=>zeD I hg hm hv ⟨v,H,I,r,h⟩ hn hd
variable{a b:Expr}{ta tb:TE}{pos:Pos}
def PC(X:Cx)(op:CmpOp)(a b:Expr)(t:TE):Prop :=
 ∀(pS:List (Addr×Obj))(s:Shared)(Y:St)(H:Hp)(Q:VK),Inv X pS Y H s->t Y H Q ->
  wpAny (model X.prog X.w) X.A (eval a X.env) (λv s₁=>wpAny (model X.prog X.w) X.A (eval b X.env) (λu s₂=>wpAny (model X.prog X.w) X.A (compareOp op v u) (EP X pS Y Q) X.xe s₂) X.xe s₁) X.xe s
theorem zsi(b:Expr){op:CmpOp}(h:op≠.In)(h2:op≠.NotIn):behindInMarks op b=false:=by
 have e1:(op == CmpOp.In)=false:=by cases op <;> first|rfl|exact absurd rfl h
 have e2:(op == CmpOp.NotIn)=false:=by cases op <;> first|rfl|exact absurd rfl h2
 cases b <;> simp[behindInMarks,e1,e2]
def tIsN(ta:TE):TE:=λY H Q=>ta Y H λx H1=>Q (.bl (decide (x=.non))) H1
def zyn(ta:TE):TE:=λY H Q=>ta Y H λx H1=>Q (.bl (!decide (x=.non))) H1
theorem zcs.none_iff{x:V}{v:Value}(r:zcs x v):(v == Value.none)=decide (x=.non):=by
 cases x with
 |non=>cases r;rfl
 |bl _=>cases r;rfl
 |int _=>obtain ⟨t,rfl⟩:=r;rfl
 |str _=>obtain ⟨t,rfl⟩:=r;rfl
 |byt _=>obtain ⟨t,rfl⟩:=r;rfl
 |flt _=>obtain ⟨t,rfl⟩:=r;rfl
 |ref _=>cases r;rfl
 |ty _=>cases r;rfl
theorem zx4{j pos'}(ha:PE X a ta):PC X .Is a (.Constant .none j pos') (tIsN ta):=by intro pS s Y H Q I h;refine thn (ha pS s Y H _ I h) λv s1 ⟨x,H1,I1,r1,q1⟩=>?_;exact Constant_none (is_none_gen ⟨.bl _,H1,I1,by rw[r1.none_iff];rfl,q1⟩)
theorem zvl{j pos'}(ha:PE X a ta):PC X .IsNot a (.Constant .none j pos') (zyn ta):=by intro pS s Y H Q I h;refine thn (ha pS s Y H _ I h) λv s1 ⟨x,H1,I1,r1,q1⟩=>?_;exact Constant_none (isnot_none_gen ⟨.bl _,H1,I1,by rw[r1.none_iff];rfl,q1⟩)
def tB(t:TE):TT:=λY H Q=>t Y H λx H1=>∃ c,x=.bl c/\Q c H1
theorem ztU{op:CmpOp}{t:TE}(h:PC X op a b t)(h1:behindInMarks op b=false:=by first|exact zsi _ xwd xwd|rfl):PT X (.Compare a [op] [b] pos) (tB t):=by intro pS s Y H Q I hw;refine wpAny_isTrue_Compare1 (thn (h pS s Y H _ I hw) λv s1 h1=>thn h1 λu s2 h2=>thn h2 λc s3 ⟨x,H1,I1,r1,q1⟩=>?_) h1;obtain ⟨d,rfl,q⟩:=q1;cases r1;exact wpAny_truthy_bool ⟨H1,I1,q⟩
theorem zwy{e:Expr}{t:TE}(h:PE X e t)(he:∀ whole,isTrue e X.env whole=(do let v <- whole;standAt e.pos;holding [v] (truthy v)):=by intro _;rfl):PT X e (tB t):=by intro pS s Y H Q I hw;refine isTrue_plain (thn (h pS s Y H _ I hw) λv s1 ⟨x,H1,I1,r1,q1⟩=>?_) (he _);obtain ⟨d,rfl,q⟩:=q1;cases r1;exact wpAny_truthy_bool ⟨H1,I1,q⟩
variable{tA tB':TT}{zbz:List Expr}
def tAnd(t u:TT):TT:=λY H Q=>t Y H λc H1=>if c=true then u Y H1 Q else Q false H1
def tOr(t u:TT):TT:=λY H Q=>t Y H λc H1=>if c=true then Q true H1 else u Y H1 Q
def tNot(t:TT):TT:=λY H Q=>t Y H λc H1=>Q (!c) H1
theorem zu2(ha:PT X a tA):PW X (.BoolOp .And [a] pos) tA:=by
 intro wh pS s Y H Q I h;refine isTrue_and (thn (ha pS s Y H Q I h) λc s1 e=>?_);cases c with
 |true=>exact isTrue_and_nil e
 |false=>exact e
theorem zx3(ha:PT X a tA):PW X (.BoolOp .Or [a] pos) tA:=by
 intro wh pS s Y H Q I h;refine isTrue_or (thn (ha pS s Y H Q I h) λc s1 e=>?_);cases c with
 |false=>exact isTrue_or_nil e
 |true=>exact e
theorem zw2(ha:PT X a tA)(hb:PW X (.BoolOp .And (b::zbz) pos) tB'):PW X (.BoolOp .And (a::b::zbz) pos) (tAnd tA tB'):=by
 intro wh pS s Y H Q I h;refine isTrue_and (thn (ha pS s Y H _ I h) λc s1 ⟨H1,I1,q1⟩=>?_);cases c with
 |true=>exact hb wh pS s1 Y H1 Q I1 q1
 |false=>exact ⟨H1,I1,q1⟩
theorem zyp(ha:PT X a tA)(hb:PW X (.BoolOp .Or (b::zbz) pos) tB'):PW X (.BoolOp .Or (a::b::zbz) pos) (tOr tA tB'):=by
 intro wh pS s Y H Q I h;refine isTrue_or (thn (ha pS s Y H _ I h) λc s1 ⟨H1,I1,q1⟩=>?_);cases c with
 |true=>exact ⟨H1,I1,q1⟩
 |false=>exact hb wh pS s1 Y H1 Q I1 q1
theorem zvY(ha:PT X a tA):PT X (.UnaryOp .Not a pos) (tNot tA):=by intro pS s Y H Q I h;exact isTrue_not (ha pS s Y H (λc H1=>Q (!c) H1) I h)
def zxM(ta tb:TE):TE:=λY H Q=>ta Y H λx H1=>∃ c,x=.bl c/\if c=true then tb Y H1 Q else Q (.bl false) H1
def tOrV(ta tb:TE):TE:=λY H Q=>ta Y H λx H1=>∃ c,x=.bl c/\if c=true then Q (.bl true) H1 else tb Y H1 Q
def zxP(ta:TE):TE:=λY H Q=>ta Y H λx H1=>∃ c,x=.bl c/\Q (.bl (!c)) H1
theorem zwV{op}{t:TE}(h:PE X a t):PE X (.BoolOp op [a] pos) t:=λpS s Y H Q I hw=>BoolOp_one (h pS s Y H Q I hw)
theorem zw0(ha:PE X a ta)(hb:PE X (.BoolOp .And (b::zbz) pos) tb):PE X (.BoolOp .And (a::b::zbz) pos) (zxM ta tb):=by
 intro pS s Y H Q I h;refine BoolOp_and (thn (ha pS s Y H _ I h) λv s1 ⟨x,H1,I1,r1,q1⟩=>?_);obtain ⟨c,rfl,q1⟩:=q1;cases r1;refine wpAny_truthy_bool ?_;cases c with
 |true=>exact hb pS s1 Y H1 Q I1 q1
 |false=>exact ⟨.bl false,H1,I1,rfl,q1⟩
theorem zxV(ha:PE X a ta)(hb:PE X (.BoolOp .Or (b::zbz) pos) tb):PE X (.BoolOp .Or (a::b::zbz) pos) (tOrV ta tb):=by
 intro pS s Y H Q I h;refine BoolOp_or (thn (ha pS s Y H _ I h) λv s1 ⟨x,H1,I1,r1,q1⟩=>?_);obtain ⟨c,rfl,q1⟩:=q1;cases r1;refine wpAny_truthy_bool ?_;cases c with
 |false=>exact hb pS s1 Y H1 Q I1 q1
 |true=>exact ⟨.bl true,H1,I1,rfl,q1⟩
theorem zwN(ha:PE X a ta):PE X (.UnaryOp .Not a pos) (zxP ta):=by intro pS s Y H Q I h;refine UnaryOp_ (thn (ha pS s Y H _ I h) λv s1 ⟨x,H1,I1,r1,q1⟩=>?_);obtain ⟨c,rfl,q1⟩:=q1;cases r1;exact not_of (wpAny_truthy_bool ⟨.bl (!c),H1,I1,rfl,q1⟩)
def tIf(t:TT)(ta tb:TE):TE:=λY H Q=>t Y H λc H1=>if c=true then ta Y H1 Q else tb Y H1 Q
theorem zso{c:Expr}(hc:PT X c tA)(ha:PE X a ta)(hb:PE X b tb):PE X (.IfExp c a b pos) (tIf tA ta tb):=by
 intro pS s Y H Q I h;refine wpAny_IfExp (thn (hc pS s Y H _ I h) λd s1 ⟨H1,I1,q1⟩=>?_);cases d with
 |true=>exact ha pS s1 Y H1 Q I1 q1
 |false=>exact hb pS s1 Y H1 Q I1 q1
end
end L2
namespace L2
open PySem PySem.Spec PyProof.Rows
def SqL(K:W.Frag)(H:Hp)(a:Addr)(xs:List V):Prop :=
 Rd H a (.lst xs) \/
  ∃(o:Obj)(its:Array Value)(n:Nat),K.lookup a=some o/\o.cls=.type "list"/\o.dict=none/\o.data=.seq its n/\its.size<=sizeLine/\zbf xs its.toList
def SqT(K:W.Frag)(H:Hp)(a:Addr)(xs:List V):Prop :=
 Rd H a (.tup xs) \/
  ∃(o:Obj)(its:Array Value)(n:Nat),K.lookup a=some o/\o.cls=.type "tuple"/\o.data=.seq its n/\its.size<=sizeLine/\zbf xs its.toList
def absV:Value->Option V
 |.none=>some .non
 |.bool b=>some (.bl b)
 |.int i _=>some (.int i)
 |.str x _=>some (.str x)
 |.bytes b _=>some (.byt b)
 |.float b _=>some (.flt b)
 |.ref a=>some (.ref a)
 |.type n=>some (.ty n)
 |_=>none
theorem zcs.abs{x:V}{u:Value}(r:zcs x u):absV u=some x:=by
 cases x with
 |non=>cases r;rfl
 |bl _=>cases r;rfl
 |int _=>obtain ⟨t,rfl⟩:=r;rfl
 |str _=>obtain ⟨t,rfl⟩:=r;rfl
 |byt _=>obtain ⟨t,rfl⟩:=r;rfl
 |flt _=>obtain ⟨t,rfl⟩:=r;rfl
 |ref _=>cases r;rfl
 |ty _=>cases r;rfl
theorem zcs.inj{x y:V}{u:Value}(r:zcs x u)(q:zcs y u):x=y:=waA (r.abs.symm.trans q.abs)
theorem zbf.inj:∀{xs ys:List V}{us:List Value},zbf xs us->zbf ys us->xs=ys
 |_,_,_,.nil,.nil=>rfl
 |_,_,_,.cons r t,.cons r' t'=>by rw[r.inj r',zbf.inj t t']
section
variable{X:Cx}{pS:List (Addr×Obj)}{Y:St}{H:Hp}{s:Shared}{a:Addr}{xs ys:List V}
theorem SqL.of{K:W.Frag}(h:H a=some (.lst xs)):SqL K H a xs:=.inl (.inl h)
theorem SqT.of{K:W.Frag}(h:H a=some (.tup xs)):SqT K H a xs:=.inl (.inl h)
theorem Inv.list(I:Inv X pS Y H s)(h:SqL X.K H a xs):∃ its:List Value,zbf xs its/\PlainL s.heap a its.toArray/\xs.length<=sizeLine:=by
 rcases h with h|⟨o,its,n,hk,hc,hd,hs,hz,r⟩
 ·obtain ⟨z,its,n,r,e⟩:=h.ok I.hok;exact ⟨its,r,⟨_,n,e,rfl,rfl,rfl⟩,z⟩
 ·refine ⟨its.toList,r,⟨o,n,I.kIn a o hk,hc,hd,by simpa using hs⟩,?_⟩;have e:=r.length;simp only[Array.length_toList] at e;lia
theorem Inv.tuple(I:Inv X pS Y H s)(h:SqT X.K H a xs):∃ its:List Value,zbf xs its/\IsTup s.heap a its.toArray/\xs.length<=sizeLine:=by
 rcases h with h|⟨o,its,n,hk,hc,hs,hz,r⟩
 ·obtain ⟨z,its,r,n,e⟩:=h.ok I.hok;exact ⟨its,r,⟨_,e,rfl,n,rfl⟩,z⟩
 ·refine ⟨its.toList,r,⟨o,I.kIn a o hk,hc,n,by simpa using hs⟩,?_⟩;have e:=r.length;simp only[Array.length_toList] at e;lia
theorem Inv.list_inj(I:Inv X pS Y H s)(h:SqL X.K H a xs)(h':SqL X.K H a ys):xs=ys:=by
 obtain ⟨its,r,⟨o,n,e,_,_,d⟩,_⟩:=I.list h;obtain ⟨its',r',⟨o',n',e',_,_,d'⟩,_⟩:=I.list h';rw[e] at e';cases e';rw[d] at d';injection d' with d1 _;have:its=its':=by simpa using congrArg Array.toList d1
 subst this;exact r.inj r'
theorem Inv.tuple_inj(I:Inv X pS Y H s)(h:SqT X.K H a xs)(h':SqT X.K H a ys):xs=ys:=by
 obtain ⟨its,r,⟨o,e,_,n,d⟩,_⟩:=I.tuple h;obtain ⟨its',r',⟨o',e',_,n',d'⟩,_⟩:=I.tuple h';rw[e] at e';cases e';rw[d] at d';injection d' with d1 _;have:its=its':=by simpa using congrArg Array.toList d1
 subst this;exact r.inj r'
end
abbrev Cx.wish(X:Cx)(E:Value->Shared->Prop):Cx:={ X with xe:=E }
abbrev Cx.nox(X:Cx):Cx:=X.wish λ_ _=>False
theorem Cx.Ok.wish{X:Cx}(ok:X.Ok)(E:Value->Shared->Prop):(X.wish E).Ok :=
 ⟨ok.mod,ok.kind,ok.glob,ok.blt,ok.above,ok.inj,ok.has,ok.cab,ok.hd,ok.frames,ok.stk,ok.exf,ok.bs,ok.bsz,ok.noex,ok.exfs,ok.funs,ok.frf⟩
theorem Cx.Ok.unwish{X:Cx}{E:Value->Shared->Prop}(ok:(X.wish E).Ok):X.Ok :=
 ⟨ok.mod,ok.kind,ok.glob,ok.blt,ok.above,ok.inj,ok.has,ok.cab,ok.hd,ok.frames,ok.stk,ok.exf,ok.bs,ok.bsz,ok.noex,ok.exfs,ok.funs,ok.frf⟩
section
variable{X:Cx}{pS:List (Addr×Obj)}{Y:St}{H:Hp}{s:Shared}{E:Value->Shared->Prop}
theorem Inv.wish(I:Inv X pS Y H s)(E:Value->Shared->Prop):Inv (X.wish E) pS Y H s:=⟨I.ok.wish E,I.os,I.bare,I.base,I.loc,I.cell,I.free,I.freeC,I.pin,I.hok,I.len⟩
theorem Inv.unwish(I:Inv (X.wish E) pS Y H s):Inv X pS Y H s:=⟨I.ok.unwish,I.os,I.bare,I.base,I.loc,I.cell,I.free,I.freeC,I.pin,I.hok,I.len⟩
theorem SP.unwish{D:ztN}{f:Flow}{s':Shared}(h:SP (X.wish E) pS D f s'):SP X pS D f s':=by
 cases f with
 |next=>obtain ⟨Y',H',I,q⟩:=h;exact ⟨Y',H',I.unwish,q⟩
 |brk=>obtain ⟨Y',H',I,q⟩:=h;exact ⟨Y',H',I.unwish,q⟩
 |cont=>obtain ⟨Y',H',I,q⟩:=h;exact ⟨Y',H',I.unwish,q⟩
 |ret u=>obtain ⟨v,Y',H',I,r,q⟩:=h;exact ⟨v,Y',H',I.unwish,r,q⟩
theorem PE.nox{e:Expr}{t:TE}(h:PE X.nox e t):PE X e t:=λpS s Y H Q I hw =>
 wpAny_mono (h pS s Y H Q (I.wish _) hw) (λ_ _ ⟨v,H',I',r,q⟩=>⟨v,H',I'.unwish,r,q⟩) λ_ _ z=>waO z
theorem PT.nox{e:Expr}{t:TT}(h:PT X.nox e t):PT X e t:=λpS s Y H Q I hw =>
 wpAny_mono (h pS s Y H Q (I.wish _) hw) (λ_ _ ⟨H',I',q⟩=>⟨H',I'.unwish,q⟩) λ_ _ z=>waO z
theorem PSs.nox{st:List Stmt}{t:TS}(h:PSs X.nox st t):PSs X st t:=λpS s Y H D I hw =>
 wpAny_mono (h pS s Y H D (I.wish _) hw) (λ_ _ q=>q.unwish) λ_ _ z=>waO z
end
section
variable{X:Cx}{st:Stmt}{zbz:List Stmt}{t u:TS}{e:Expr}{te:TE}{pos:Pos}
def zxW:TS:=λD Y H=>D.nx Y H
def tSeq(t u:TS):TS:=λD Y H=>t { D with nx:=u D } Y H
theorem zvG:PSs X [] zxW:=λ_ _ Y H _ I h=>wpAny_execs_nil ⟨Y,H,I,h⟩
theorem zrF(h1:PS X st t)(h2:PSs X zbz u):PSs X (st::zbz) (tSeq t u):=by
 intro pS s Y H D I h;refine wpAny_execs_cons (thn (h1 pS s Y H { D with nx:=u D } I h) λf s1 q=>?_);cases f with
 |next =>
  obtain ⟨Y',H',I',q⟩:=q;exact h2 pS s1 Y' H' D I' q
 |ret v=>exact q
 |brk=>exact q
 |cont=>exact q
theorem zul(h1:PS X st t):PSs X [st] t:=by
 intro pS s Y H D I h;refine wpAny_execs_cons (thn (h1 pS s Y H D I h) λf s1 q=>?_);cases f with
 |next=>exact wpAny_execs_nil q
 |ret v=>exact q
 |brk=>exact q
 |cont=>exact q
theorem Inv.quiet{pS:List (Addr×Obj)}{Y:St}{H:Hp}{s:Shared}(I:Inv X pS Y H s):interactive X.env=false:=by simp[interactive,I.ok.kind]
def zxI(te:TE):TS:=λD Y H=>te Y H λ_ H1=>D.nx Y H1
theorem zvd(he:PE X e te)(hs:swapsWith e none pos.line X.env=pure false:=by rfl):PS X (.Expr e pos) (zxI te):=by intro pS s Y H D I h;exact wpAny_Expr_any (thn (he pS s Y H _ I h) λv s1 ⟨x,H1,I1,r1,q1⟩=>⟨Y,H1,I1,q1⟩) I.quiet hs
def tRet(te:TE):TS:=λD Y H=>te Y H D.rt
theorem ztF(he:PE X e te):PS X (.Return (some e) pos) (tRet te):=by intro pS s Y H D I h;exact wpAny_Return_some (thn (he pS s Y H _ I h) λv s1 ⟨x,H1,I1,r1,q1⟩=>⟨x,Y,H1,I1,r1,q1⟩)
def tIfS(c:TT)(t u:TS):TS:=λD Y H=>c Y H λb H1=>if b=true then t D Y H1 else u D Y H1
theorem zyl{c:Expr}{a b:List Stmt}{tc:TT}(hc:PT X c tc)(ha:PSs X a t)(hb:PSs X b u):PS X (.If c a b pos) (tIfS tc t u):=by
 intro pS s Y H D I h;refine wpAny_If (thn (hc pS s Y H _ I h) λd s1 ⟨H1,I1,q1⟩=>?_);cases d with
 |true=>exact ha pS s1 Y H1 D I1 q1
 |false=>exact hb pS s1 Y H1 D I1 q1
end
abbrev TG:=V->St->Hp->(St->Hp->Prop)->Prop
abbrev TGs:=List V->St->Hp->(St->Hp->Prop)->Prop
def PG(X:Cx)(target:Expr)(t:TG):Prop :=
 ∀(pS:List (Addr×Obj))(s:Shared)(Y:St)(H:Hp)(v:V)(u:Value)(Q:St->Hp->Prop),Inv X pS Y H s->zcs v u->t v Y H Q ->
  wpAny (model X.prog X.w) X.A (assign target X.env u) (λ_ s'=>∃ Y' H',Inv X pS Y' H' s'/\Q Y' H') X.xe s
def PGs(X:Cx)(ts:List Expr)(t:TGs):Prop :=
 ∀(pS:List (Addr×Obj))(s:Shared)(Y:St)(H:Hp)(vs:List V)(us:List Value)(Q:St->Hp->Prop),Inv X pS Y H s->zbf vs us->t vs Y H Q ->
  wpAny (model X.prog X.w) X.A (assignInOrder ((assignEach ts X.env).map (·.2)) us) (λ_ s'=>∃ Y' H',Inv X pS Y' H' s'/\Q Y' H') X.xe s
abbrev zyj:=V->V->V->Hp->(Hp->Prop)->Prop
def PSet(X:Cx)(t:zyj):Prop :=
 ∀(pS:List (Addr×Obj))(s:Shared)(Y:St)(H:Hp)(o i v:V)(ov iv u:Value)(Q:Hp->Prop),Inv X pS Y H s->zcs o ov->zcs i iv->zcs v u->t o i v H Q ->
  wpAny (model X.prog X.w) X.A (setItem ov iv u) (λ_ s'=>∃ H',Inv X pS Y H' s'/\Q H') X.xe s
section
variable{X:Cx}{pos:Pos}
def zxp(i:Nat):TG:=λv Y H Q=>Q (Y.set i (some v)) H
theorem znk{i:Nat}{x:Str}(hN:X.N.Nodup)(hi:X.N[i]? = some x)(hx:Loc X.env.scope x)(hf:X.fn x=true\/X.env.scope.names.lookup x=some .local:=by exact xwA):PG X (.Name x pos) (zxp i):=by intro pS s Y H v u Q I r h;exact wpAny_assign_Name (zot I hN hi hx r (λs' I'=>⟨_,H,I',h⟩) hf)
def gNil:TGs:=λvs Y H Q=>vs=[]/\Q Y H
def zxT(t:TG)(u:TGs):TGs:=λvs Y H Q=>∃ v r,vs=v::r/\t v Y H λY' H'=>u r Y' H' Q
theorem zva:PGs X [] gNil:=by intro pS s Y H vs us Q I r h;obtain ⟨e,h⟩:=h;subst e;cases r;exact assignInOrder_nil ⟨Y,H,I,h⟩
theorem znt{e:Expr}{es:List Expr}{t:TG}{u:TGs}(h1:PG X e t)(h2:PGs X es u)
  (hs:(assignEach (e::es) X.env).map (·.2)=assign e X.env::(assignEach es X.env).map (·.2):=by rfl):PGs X (e::es) (zxT t u):=by
 intro pS s Y H vs us Q I r h;obtain ⟨v,vr,e1,h⟩:=h;subst e1;cases r with
 |cons r rr =>
  rw[hs];refine assignInOrder_cons (thn (h1 pS s Y H _ _ _ I r h) λ_ s1 ⟨Y1,H1,I1,q1⟩=>?_);exact h2 pS s1 Y1 H1 _ _ Q I1 rr q1
def gTup(K:W.Frag)(n:Nat)(t:TGs):TG:=λv Y H Q=>∃ a xs,v=.ref a/\SqT K H a xs/\xs.length=n/\t xs Y H Q
theorem zwI{es:List Expr}{k:Nat}{t:TGs}{n:Nat}(hc:X.calm=true)(h:PGs X es t)
  (hn:(assignEach es X.env).length=n:=by rfl) (hst:(assignEach es X.env).findIdx? (·.1)=none:=by rfl):PG X (.Tuple es k pos) (gTup X.K n t):=by
 intro pS s Y H v u Q I r hw;obtain ⟨a,xs,e1,hq,hl,hw⟩:=hw;subst e1;cases r;obtain ⟨its,rv,ht,hz⟩:=I.tuple hq;refine assign_Tuple_tuple (I.ok.hd hc) ht (by simp[hn,<- hl,rv.length]) hst λh' hx=>?_;have I1:Inv X pS Y H { s with heap:=h' }:=I.kept (t':=s.toks) λb o e=>hx b o (waM (wai e)) e;exact h pS _ Y H xs _ Q I1 (by simpa using rv) hw
def zjG(to ti:TE)(t:zyj):TG:=λv Y H Q=>to Y H λo H1=>ti Y H1 λi H2=>t o i v H2 λH3=>Q Y H3
theorem zwJ{o i:Expr}{to ti:TE}{t:zyj}(ho:PE X o to)(hi:PE X i ti)(hs:PSet X t)
  (ha:∀ v,assign (.Subscript o i pos) X.env v=(do
   let ov <- holding [v] (eval o X.env);let iv <- holding [v,ov] (eval i X.env)
   standAt pos
   holding [v,ov,iv] (setItem ov iv v)
   release [v,ov,iv] []):=by intro _;rfl):PG X (.Subscript o i pos) (zjG to ti t):=by
 intro pS s Y H v u Q I r h;rw[ha];refine wab (wpAny_holding (thn (ho pS s Y H _ I h) λov s1 ⟨x,H1,I1,r1,q1⟩=>?_));refine wab (wpAny_holding (thn (hi pS s1 Y H1 _ I1 q1) λiv s2 ⟨y,H2,I2,r2,q2⟩=>?_));refine wab (wpAny_standAt (wab (wpAny_holding (thn (hs pS s2 Y H2 x y v ov iv u _ I2 r1 r2 r q2) λ_ s3 ⟨H3,I3,q3⟩=>?_))));exact wpAny_release ⟨Y,H3,I3,q3⟩
def tAsg(te:TE)(g:TG):TS:=λD Y H=>te Y H λx H1=>g x Y H1 D.nx
theorem zxo{tg e:Expr}{te:TE}{g:TG}(he:PE X e te)(hg:PG X tg g)(hs:swapsWithSole [tg] e pos.line X.env=pure false:=by rfl)(hw:swappedStores [tg] e X.env=pure none:=by rfl)
  (h1:(assignEach [tg] X.env).map (·.2)=[assign tg X.env]:=by rfl):PS X (.Assign [tg] e pos) (tAsg te g):=by
 intro pS s Y H D I h;refine wpAny_Assign_stores (thn (he pS s Y H _ I h) λv s1 ⟨x,H1,I1,r1,q1⟩=>?_) hs hw;rw[h1];exact thn (hg pS s1 Y H1 x v _ I1 r1 q1) λ_ s2 q=>q
theorem ztT{i:Nat}{x:Str}{e:Expr}{te:TE}{pos':Pos}(hN:X.N.Nodup)(hi:X.N[i]? = some x)(hx:Loc X.env.scope x)(he:PE X e te)(hs:swapsWith e (some (.Name x pos')) pos.line X.env=pure false:=by rfl)(hf:X.fn x=true\/X.env.scope.names.lookup x=some .local:=by exact xwA) :
  PS X (.Assign [.Name x pos'] e pos) (tAsg te (zxp i)):=by
 intro pS s Y H D I h;refine wpAny_Assign_Name (thn (he pS s Y H _ I h) λv s1 ⟨y,H1,I1,r1,q1⟩=>?_) hs;exact zot I1 hN hi hx r1 (λs2 I2=>⟨_,H1,I2,q1⟩) hf
end
section
variable{X:Cx}{pos:Pos}
def zxy(c:TT)(tb:TS):TS:=λD Y H=>∃ W:Nat->St->Hp->Prop,(∃ m,W m Y H)/\∀ m Y H,W m Y H ->
 c Y H λb H1=>if b=true then ∃ N:St->Hp->Prop,(∀ Y' H',N Y' H'->∃ m',m'<m/\W m' Y' H')/\tb { D with nx:=N,ct:=N,bk:=D.nx } Y H1 else D.nx Y H1
theorem zsp{c:Expr}{body:List Stmt}{tc:TT}{tb:TS}(hp:PassesOwn (model X.prog X.w) X.A X.env X.xe)(hc:PT X c tc)(hb:PSs X body tb):PS X (.While c body [] pos) (zxy tc tb):=by
 intro pS s Y H D I h;obtain ⟨W,⟨m0,w0⟩,turn⟩:=h;refine wpAny_While (codeAny_whileLoop (λn s'=>∃ Y' H',Inv X pS Y' H' s'/\W n Y' H') ?_ m0 ⟨Y,H,I,w0⟩);rintro n s1 ⟨Y1,H1,I1,w1⟩;refine wpAny_passesOwn hp (thn (hc pS s1 Y1 H1 _ I1 (turn n Y1 H1 w1)) λb s2 ⟨H2,I2,q2⟩=>?_);cases b with
 |true =>
  obtain ⟨N,hN,q2⟩:=q2;rw[if_pos rfl];refine wpAny_passesOwn hp (thn (hb pS s2 Y1 H2 _ I2 q2) λf s3 q3=>?_);cases f with
  |next =>
   obtain ⟨Y3,H3,I3,n3⟩:=q3;obtain ⟨m',hm,w3⟩:=hN Y3 H3 n3;exact ⟨m',hm,Y3,H3,I3,w3⟩
  |cont =>
   obtain ⟨Y3,H3,I3,n3⟩:=q3;obtain ⟨m',hm,w3⟩:=hN Y3 H3 n3;exact ⟨m',hm,Y3,H3,I3,w3⟩
  |brk=>exact q3
  |ret v=>exact q3
 |false =>
  rw[if_neg Bool.false_ne_true];exact wpAny_execs_nil ⟨Y1,H2,I2,q2⟩
end
structure It where
 go:Nat->Hp->Prop
 yld:Nat->Hp->V->Hp->Prop
 stop:Nat->Hp->Prop
def zfA(X:Cx)(pS:List (Addr×Obj))(H:Hp)(b:Addr):Prop :=
 H b=none/\b≠X.env.locals/\b∉X.fs/\(b∈X.ex\/X.s₀.heap.objs.size<=b)/\(∀ x c,X.env.cells.lookup x=some c->c≠b)/\∀ p∈X.pn++pS,p.1≠b
theorem Inv.fpOk{X:Cx}{pS:List (Addr×Obj)}{Y:St}{H H':Hp}{s:Shared}{b:Addr}(I:Inv X pS Y H s)(hb:s.heap.objs.size<=b)(hn:H' b=none):zfA X pS H' b:=by
 refine ⟨hn,Nat.ne_of_gt (was I.lt hb),I.nofs hb,.inr (waN I.sz hb),λx c e z=>?_,λp hp z=>?_⟩
 ·obtain ⟨v,q⟩:=I.cell x c e;exact absurd (was q.lt (by rw[z];exact hb)) (waL _)
 ·exact absurd (was (wai (I.pin p hp).1) (by rw[z];exact hb)) (waL _)
structure zqo(P:Program)(w:World)(K:W.Frag)(tg:Expr)(J:It)(fp:List Addr)(it:Addr)(tn:Nat->Heap->Prop):Prop where
 mem:it∈fp
 obj:∀ i h,tn i h->∀ b∈fp,∃ o,h.get? b=some o/\∀ v,o.data≠.cell v
 keep:∀ i h h',tn i h->(∀ b∈fp,∀ o,h.get? b=some o->h'.get? b=some o)->tn i h'
 item:∀(X:Cx),X.prog=P->X.w=w->X.K=K->X.calm=true->∀(i:Nat)(pS:List (Addr×Obj))(s:Shared)(Y:St)(H:Hp)(E:Value->Shared->Prop),Inv X pS Y H s->(∀ b∈fp,zfA X pS H b)->tn i s.heap->J.go i H ->
  wpAny (model P w) X.A (pyNext (.ref it)) (λr s1=>∃ u,r=some u /\
   wpAny (model P w) X.A (letOwnedTupleGo tg (.ref it) u) (λ_ s2=>∃ x H',Inv X pS Y H' s2/\zcs x u/\J.yld i H x H'/\tn (i+1) s2.heap/\∀ b∈fp,H' b=none) E s1) E s
 done:∀(X:Cx),X.prog=P->X.w=w->X.K=K->X.calm=true->∀(i:Nat)(pS:List (Addr×Obj))(s:Shared)(Y:St)(H:Hp)(E:Value->Shared->Prop),Inv X pS Y H s->(∀ b∈fp,zfA X pS H b)->tn i s.heap->J.stop i H ->
  wpAny (model P w) X.A (pyNext (.ref it)) (λr s1=>r=none/\Inv X pS Y H s1) E s
 self:∀(A:Around)(i:Nat)(s:Shared)(Q:Value->Shared->Prop)(E:Value->Shared->Prop),tn i s.heap->Q (.ref it) s->wpAny (model P w) A (pyIter (.ref it)) Q E s
abbrev TI:=St->Hp->(It->Hp->Prop)->Prop
def PIE(X:Cx)(pS:List (Addr×Obj))(Y:St)(tg:Expr)(R:It->Hp->Prop)(itv:Value)(s2:Shared):Prop :=
 ∃(it:Addr)(fp:List Addr)(tn:Nat->Heap->Prop)(J:It)(H':Hp),itv=.ref it/\Inv X pS Y H' s2/\zqo X.prog X.w X.K tg J fp it tn/\tn 0 s2.heap/\(∀ b∈fp,zfA X pS H' b)/\R J H'
def PI(X:Cx)(tg iter:Expr)(wi:TI):Prop :=
 ∀(pS:List (Addr×Obj))(s:Shared)(Y:St)(H:Hp)(R:It->Hp->Prop),Inv X pS Y H s->wi Y H R ->
  wpAny (model X.prog X.w) X.A (eval iter X.env) (λv s1=>wpAny (model X.prog X.w) X.A (pyIter v) (PIE X pS Y tg R) X.xe s1) X.xe s
theorem zua{M:Model}{A:Around}{E:Value->Shared->Prop}{s:Shared}{tg:Expr}{it:Addr}{u:Value}{o:Obj}{n:String}{vs:Array Value}{Q:Unit->Shared->Prop}(ho:s.heap.get? it=some o)(hc:o.cls=.type n)(hd:o.data=.fields vs)
  (hn:["enumerate","zip","dict_itemiterator","dict_reverseitemiterator","odict_iterator","itertools.zip_longest","itertools.pairwise"].contains n=false) (hQ:Q () s):wpAny M A (letOwnedTupleGo tg (.ref it) u) Q E s:=by
 unfold letOwnedTupleGo;cases tg <;> first
  |exact wad hQ
  | (cases u <;> first
    |exact wad hQ
    | (refine wab (wpAny_load ho ?_)
       rw[hc,hd];show wpAny M A (if (["enumerate","zip","dict_itemiterator","dict_reverseitemiterator","odict_iterator","itertools.zip_longest","itertools.pairwise"].contains n && vs[0]? == some (rawInt _))=true then _ else _) Q E s;rw[if_neg (by intro h;rw[hn,Bool.false_and] at h;cases h)];exact wad hQ))
def Itl(K:W.Frag)(a:Addr):It :=
 ⟨λi H=>∃ xs x,SqL K H a xs/\xs[i]? = some x,λi H x H'=>H'=H/\∀ xs,SqL K H a xs->xs[i]? = some x,λi H=>∃ xs,SqL K H a xs/\xs.length<=i⟩
def Itt(K:W.Frag)(a:Addr):It :=
 ⟨λi H=>∃ xs x,SqT K H a xs/\xs[i]? = some x,λi H x H'=>H'=H/\∀ xs,SqT K H a xs->xs[i]? = some x,λi H=>∃ xs,SqT K H a xs/\xs.length<=i⟩
def Itr(lo:Int)(n:Nat):It:=⟨λi _=>i<n,λi H x H'=>H'=H/\x=.int (lo+i),λi _=>n<=i⟩
theorem zpt{P:Program}{w:World}{K:W.Frag}{tg:Expr}(a it:Addr):zqo P w K tg (Itl K a) [it] it (λi h=>h.IsListIter it a i) where
 mem:=by simp
 obj:=λi h st b hb=>by
  have e:b=it:=by simpa using hb
  subst e;obtain ⟨o,e,c,d⟩:=st;exact ⟨o,e,λv z=>by rw[d] at z;cases z⟩
 keep:=λi h h' st k=>st.at λo e=>k it xws o e
 item:=by intro X hP hw hK hc i pS s Y H E I hf st hg;subst hP hw hK;obtain ⟨xs,x,hq,hx⟩:=hg;obtain ⟨its,rv,p,hz⟩:=I.list hq;obtain ⟨u,hu,ru⟩:=rv.get hx;obtain ⟨f0,f1,f2,f3,f4,f5⟩:=hf it xws;refine wpAny_pyNext_list_item st p.isList (x:=u) (by simpa using hu) λh' st' sb=>?_;have I1:Inv X pS Y H { s with heap:=h' }:=I.turned (t':=s.toks) (λb o hb e=>(sb.2 b hb).trans e) f0 f1 f3 f4 f5;obtain ⟨o,e,c,d⟩:=id st';exact ⟨u,rfl,zua (s:={ s with heap:=h' }) e c d xwd ⟨x,H,I1,ru,⟨rfl,λys hy=>by rw[I.list_inj hy hq];exact hx⟩,st',λb hb=>(hf b hb).1⟩⟩
 done:=by intro X hP hw hK hc i pS s Y H E I hf st hg;subst hP hw hK;obtain ⟨xs,hq,hx⟩:=hg;obtain ⟨its,rv,p,hz⟩:=I.list hq;obtain ⟨f0,f1,f2,f3,f4,f5⟩:=hf it xws;have hl:=rv.length;exact wpAny_pyNext_list_end (I.ok.hd hc) st p.isList (by simp;lia) λh' eb=>⟨rfl,I.turned (t':=s.toks) (λb o hb e=>eb b o hb e) f0 f1 f3 f4 f5⟩
 self:=λ_ _ _ _ _ st h=>wpAny_pyIter_listiter st h
theorem zoC{P:Program}{w:World}{K:W.Frag}{tg:Expr}(a it:Addr):zqo P w K tg (Itt K a) [it] it (λi h=>h.IsTupleIter it a i) where
 mem:=by simp
 obj:=λi h st b hb=>by
  have e:b=it:=by simpa using hb
  subst e;obtain ⟨o,e,c,d⟩:=st;exact ⟨o,e,λv z=>by rw[d] at z;cases z⟩
 keep:=λi h h' st k=>st.at λo e=>k it xws o e
 item:=by intro X hP hw hK hc i pS s Y H E I hf st hg;subst hP hw hK;obtain ⟨xs,x,hq,hx⟩:=hg;obtain ⟨its,rv,p,hz⟩:=I.tuple hq;obtain ⟨u,hu,ru⟩:=rv.get hx;obtain ⟨f0,f1,f2,f3,f4,f5⟩:=hf it xws;refine wpAny_pyNext_tuple_item st (show s.heap.IsTuple a its.toArray from p) (x:=u) (by simpa using hu) λh' st' sb=>?_;have I1:Inv X pS Y H { s with heap:=h' }:=I.turned (t':=s.toks) (λb o hb e=>(sb.2 b hb).trans e) f0 f1 f3 f4 f5;obtain ⟨o,e,c,d⟩:=id st';exact ⟨u,rfl,zua (s:={ s with heap:=h' }) e c d xwd ⟨x,H,I1,ru,⟨rfl,λys hy=>by rw[I.tuple_inj hy hq];exact hx⟩,st',λb hb=>(hf b hb).1⟩⟩
 done:=by intro X hP hw hK hc i pS s Y H E I hf st hg;subst hP hw hK;obtain ⟨xs,hq,hx⟩:=hg;obtain ⟨its,rv,p,hz⟩:=I.tuple hq;obtain ⟨f0,f1,f2,f3,f4,f5⟩:=hf it xws;have hl:=rv.length;exact wpAny_pyNext_tuple_end (I.ok.hd hc) st (show s.heap.IsTuple a its.toArray from p) (by simp;lia) λh' eb=>⟨rfl,I.turned (t':=s.toks) (λb o hb e=>eb b o hb e) f0 f1 f3 f4 f5⟩
 self:=λ_ _ _ _ _ st h=>wpAny_pyIter_tupleiter st h
theorem zpd{P:Program}{w:World}{K:PySem.W.Frag}{tg:Expr}(it:Addr)(lo:Int)(n:Nat):zqo P w K tg (Itr lo n) [it] it (λi h=>IsRangeIter h it (lo+(i:Nat) * 1) ((n:Int)-(i:Nat)) 1) where
 mem:=by simp
 obj:=λi h st b hb=>by
  have e:b=it:=by simpa using hb
  subst e;exact ⟨_,st,λv z=>by have z':Data.fields _=Data.cell v:=z;cases z'⟩
 keep:=λi h h' st k=>k it xws _ st
 item:=by intro X hP hw hK hc i pS s Y H E I hf st hg;subst hP hw hK;obtain ⟨f0,f1,f2,f3,f4,f5⟩:=hf it xws;have W:=Walks.range (prog:=X.prog) (w:=X.w) (I.ok.hd hc) it lo 1 n;refine W.item i s _ _ hg st λv h' tk hv st' kk=>?_;obtain ⟨t,rfl⟩:=hv;have I1:Inv X pS Y H { s with heap:=h',toks:=tk }:=I.turned (λb o hb e=>kk b o (by simpa using hb) e) f0 f1 f3 f4 f5;refine ⟨_,rfl,zua (s:={ s with heap:=h',toks:=tk }) (n:="range_iterator") st' rfl rfl xwd ⟨.int (lo+i),H,I1,⟨t,?_⟩,⟨rfl,rfl⟩,st',λb hb=>(hf b hb).1⟩⟩;rw[Int.mul_one]
 done:=by intro X hP hw hK hc i pS s Y H E I hf st hg;subst hP hw hK;obtain ⟨f0,f1,f2,f3,f4,f5⟩:=hf it xws;exact wpAny_pyNext_range_end (I.ok.hd hc) st (by have:n<=i:=hg;lia) λh' eb=>⟨rfl,I.turned (t':=s.toks) (λb o hb e=>eb b o hb e) f0 f1 f3 f4 f5⟩
 self:=λ_ _ _ _ _ st h=>wpAny_pyIter_rangeiter st h
end L2
namespace L2
open PySem PySem.Spec PyProof.Rows
section
variable{X:Cx}{tg:Expr}
def zyc(K:W.Frag)(tl:TE):TI:=λY H R=>tl Y H λx H1=>∃ a,x=.ref a/\(∃ xs,SqL K H1 a xs)/\R (Itl K a) H1
def iTup(K:W.Frag)(tl:TE):TI:=λY H R=>tl Y H λx H1=>∃ a,x=.ref a/\(∃ xs,SqT K H1 a xs)/\R (Itt K a) H1
theorem zvf{l:Expr}{tl:TE}(hl:PE X l tl):PI X tg l (zyc X.K tl):=by
 intro pS s Y H R I h;refine thn (hl pS s Y H _ I h) λv s1 ⟨x,H1,I1,r1,q1⟩=>?_;obtain ⟨a,e,⟨xs,hq⟩,q⟩:=q1;subst e;cases r1;obtain ⟨its,rv,p,hz⟩:=I1.list hq;refine wpAny_pyIter_list p.isList ?_;refine ⟨s1.heap.objs.size,[s1.heap.objs.size],_,_,H1,rfl,I1.kept (t':=s1.toks) λb o e=>waa _ e,zpt a _,⟨_,waj _ rfl,rfl,rfl⟩,λb hb=>?_,q⟩;have e:b=s1.heap.objs.size:=by simpa using hb
 subst e;exact I1.fpOk (wal _) (I1.hok.fresh (wal _))
theorem zvW{l:Expr}{tl:TE}(hl:PE X l tl):PI X tg l (iTup X.K tl):=by
 intro pS s Y H R I h;refine thn (hl pS s Y H _ I h) λv s1 ⟨x,H1,I1,r1,q1⟩=>?_;obtain ⟨a,e,⟨xs,hq⟩,q⟩:=q1;subst e;cases r1;obtain ⟨its,rv,p,hz⟩:=I1.tuple hq;refine wpAny_pyIter_tuple (show s1.heap.IsTuple a its.toArray from p) ?_;refine ⟨s1.heap.objs.size,[s1.heap.objs.size],_,_,H1,rfl,I1.kept (t':=s1.toks) λb o e=>waa _ e,zoC a _,⟨_,waj _ rfl,rfl,rfl⟩,λb hb=>?_,q⟩;have e:b=s1.heap.objs.size:=by simpa using hb
 subst e;exact I1.fpOk (wal _) (I1.hok.fresh (wal _))
theorem zsx{pS:List (Addr×Obj)}{Y:St}{H:Hp}{s:Shared}{R:It->Hp->Prop}{E:Value->Shared->Prop}{lo hi:Int}{t u v:Tok}{tk:Nat}(I:Inv X pS Y H s)(h1:-(2 ^ 62)<=lo)(h2:lo<2 ^ 62)(h3:-(2 ^ 62)<=hi)(h4:hi<2 ^ 62)
  (q:R (Itr lo (hi-lo).toNat) H):wpAny (model X.prog X.w) X.A (pyIter (.ref s.heap.objs.size)) (PIE X pS Y tg R) E { s with heap:=s.heap.push { cls:=.type "range",data:=.fields #[.int lo t,.int hi u,.int 1 v] },toks:=tk }:=by
 refine wpAny_pyIter_range (IsRange.new ..) (small_one h1 h2 h3 h4) ?_;have I1:Inv X pS Y H { s with heap:=s.heap.push { cls:=.type "range",data:=.fields #[.int lo t,.int hi u,.int 1 v] },toks:=tk }:=I.kept λb o e=>waa _ e;refine ⟨(s.heap.push { cls:=.type "range",data:=.fields #[.int lo t,.int hi u,.int 1 v] }).objs.size,[(s.heap.push { cls:=.type "range",data:=.fields #[.int lo t,.int hi u,.int 1 v] }).objs.size],_,_,H,rfl,
  I1.kept (t':=tk) λb o e=>waa _ e,zpd _ lo (hi-lo).toNat,?_,λb hb=>?_,q⟩
 ·have e1:lo+((0:Nat):Int) * 1=lo:=by simp
  have e2:(((hi-lo).toNat:Nat):Int)-((0:Nat):Int)=Builtin.Range.rangeSize lo hi 1:=by rw[rangeSize_one];split <;> lia
  show IsRangeIter _ _ (lo+((0:Nat):Int) * 1) ((((hi-lo).toNat:Nat):Int)-((0:Nat):Int)) 1;rw[e1,e2];exact waj _ rfl
 ·have e:b=(s.heap.push { cls:=.type "range",data:=.fields #[.int lo t,.int hi u,.int 1 v] }).objs.size:=by simpa using hb
  subst e;exact I1.fpOk (wal _) (I1.hok.fresh (wal _))
def zyr(ta:TA):TI:=λY H R=>ta Y H λvs H1=>∃ j:Int,vs=[.int j]/\-(2 ^ 62)<=j/\j<2 ^ 62/\R (Itr 0 j.toNat) H1
theorem zq6{a:Expr}{ta:TA}{p pos:Pos}(hg:Gl X "range")(hm:X.mg "range"=none)(ha:PA X [a] ta)(hs:starEach [a] X.env=[(false,eval a X.env)]:=by rfl):PI X tg (.Call (.Name "range" p) [a] [] pos) (zyr ta):=by
 intro pS s Y H R I h;refine Call_ (zeD I hg hm boot_range (PyProof.Rows.callWith_type1 (thn (ha pos pS s Y H _ I h) λus s1 ⟨vs,H1,I1,r1,q1⟩=>?_) hs rfl));obtain ⟨j,e,q1,q2,q⟩:=q1;subst e;cases r1 with
 |cons r rr =>
  cases rr;obtain ⟨t,rfl⟩:=r;exact call_range_1 (zsx I1 xwl xwo q1 q2 (by simpa using q))
def tFor(wi:TI)(g:TG)(tb:TS):TS:=λD Y H=>wi Y H λJ H1=>∃ W:Nat->Nat->St->Hp->Prop,(∃ m,W 0 m Y H1)/\∀ i m Y H,W i m Y H ->
 (J.stop i H/\D.nx Y H)\/(J.go i H/\∃ N:St->Hp->Prop,(∀ Y' H',N Y' H'->∃ m',m'<m/\W (i+1) m' Y' H')/\∀ x H',J.yld i H x H'->g x Y H' λY2 H2=>tb { D with nx:=N,ct:=N,bk:=D.nx } Y2 H2)
def zgi(fp:List Addr)(h:Heap):List (Addr×Obj):=fp.filterMap λb=>(h.get? b).map λo=>(b,o)
theorem zfu{fp:List Addr}{h:Heap}{b:Addr}{o:Obj}(hb:b∈fp)(e:h.get? b=some o):(b,o)∈zgi fp h:=List.mem_filterMap.mpr ⟨b,hb,by rw[e];rfl⟩
theorem zr1{fp:List Addr}{h:Heap}{p:Addr×Obj}(hp:p∈zgi fp h):p.1∈fp/\h.get? p.1=some p.2:=by
 obtain ⟨b,hb,e⟩:=List.mem_filterMap.mp hp;cases q:h.get? b with
 |none=>rw[q] at e;cases e
 |some o =>
  rw[q] at e;have e':(b,o)=p:=waA e;subst e';exact ⟨hb,q⟩
theorem Inv.pinned{pS:List (Addr×Obj)}{Y:St}{H:Hp}{s:Shared}{fp:List Addr}(I:Inv X pS Y H s)(hf:∀ b∈fp,zfA X pS H b)(ho:∀ b∈fp,∃ o,s.heap.get? b=some o/\∀ v,o.data≠.cell v):Inv X (pS++zgi fp s.heap) Y H s :=
 I.pins_of λp hp=>(wax.mp hp).elim (λz=>I.pin p (waz _ z)) λz=>by obtain ⟨hb,e⟩:=zr1 z;obtain ⟨f0,f1,f2,_⟩:=hf p.1 hb;obtain ⟨o,e',d⟩:=ho p.1 hb;rw[e] at e';cases e';exact ⟨e,f0,f1,f2,d⟩
theorem Inv.unpinned{pS pl:List (Addr×Obj)}{Y:St}{H:Hp}{s:Shared}(I:Inv X (pS++pl) Y H s):Inv X pS Y H s:=I.pins_of λp hp=>I.pin p (waz _ (waR _ hp))
theorem zvV{iter:Expr}{body:List Stmt}{wi:TI}{g:TG}{tb:TS}{pos:Pos}(hp:PassesOwn (model X.prog X.w) X.A X.env X.xe)(hc:X.calm=true)(hi:PI X tg iter wi)(hg:PG X tg g)(hb:PSs X body tb)
  (hs:∀ x,foldedSetIterable iter X.env x=pure x:=by intro _;rfl):PS X (.For tg iter body [] pos) (tFor wi g tb):=by
 intro pS s Y H D I h;refine wpAny_For (thn (hi pS s Y H _ I h) λv s1 h1=>thn h1 λitv s2 h2=>?_) hs;obtain ⟨it,fp,tn,J,H2,e,I2,T,st2,f2,W,⟨m0,w0⟩,turn⟩:=h2;subst e;have stat:∀{H':Hp},(∀ b∈fp,H' b=none)->∀ b∈fp,zfA X pS H' b:=λhn b hb=>⟨hn b hb,(f2 b hb).2⟩
 refine codeAny_forLoop_any (λn s'=>∃ i Y' H',Inv X pS Y' H' s'/\tn i s'.heap/\(∀ b∈fp,H' b=none)/\W i n Y' H') ?_ m0 ⟨0,Y,H2,I2,st2,λb hb=>(f2 b hb).1,w0⟩;rintro n s3 ⟨i,Y3,H3,I3,st3,fr3,w3⟩;rcases turn i n Y3 H3 w3 with ⟨stop,qn⟩|⟨go,N,hN,step⟩
 ·refine wpAny_passesOwn hp (thn (T.done X rfl rfl rfl hc i pS s3 Y3 H3 X.xe I3 (stat fr3) st3 stop) λr s4 ⟨hr,I4⟩=>?_);subst hr;exact wpAny_execs_nil ⟨Y3,H3,I4,qn⟩
 ·refine wpAny_passesOwn hp (thn (T.item X rfl rfl rfl hc i pS s3 Y3 H3 X.xe I3 (stat fr3) st3 go) λr s4 ⟨u,hr,h4⟩=>?_);subst hr;refine wpAny_passesOwn hp (thn h4 λ_ s5 ⟨x,H5,I5,r5,y5,st5,fr5⟩=>?_);have I5':=I5.pinned (stat fr5) (T.obj _ _ st5);refine wpAny_passesOwn hp (thn (hg _ s5 Y3 H5 x u _ I5' r5 (step x H5 y5)) λ_ s6 ⟨Y6,H6,I6,q6⟩=>?_);refine wpAny_passesOwn hp (thn (hb _ s6 Y6 H6 _ I6 q6) λf s7 q7=>?_);have again:∀{Y7:St}{H7:Hp},Inv X (pS++zgi fp s5.heap) Y7 H7 s7->N Y7 H7->∃ m,m<n/\∃ i Y' H',Inv X pS Y' H' s7/\tn i s7.heap/\(∀ b∈fp,H' b=none)/\W i m Y' H':=λ{Y7 H7} I7 n7=>by obtain ⟨m',hm,w7⟩:=hN Y7 H7 n7;refine ⟨m',hm,i+1,Y7,H7,I7.unpinned,T.keep _ _ _ st5 λb hb o e=>(I7.pin (b,o) (waz _ (waz _ (zfu hb e)))).1,λb hb=>?_,w7⟩;obtain ⟨o,e,d⟩:=T.obj _ _ st5 b hb;exact (I7.pin (b,o) (waz _ (waz _ (zfu hb e)))).2.1
  cases f with
  |next=>obtain ⟨Y7,H7,I7,n7⟩:=q7;exact again I7 n7
  |cont=>obtain ⟨Y7,H7,I7,n7⟩:=q7;exact again I7 n7
  |brk=>obtain ⟨Y7,H7,I7,q7⟩:=q7;exact ⟨Y7,H7,I7.unpinned,q7⟩
  |ret v=>obtain ⟨x7,Y7,H7,I7,r7,q7⟩:=q7;exact ⟨x7,Y7,H7,I7.unpinned,r7,q7⟩
end
end L2
namespace L2
open PySem PySem.Spec PyProof.Rows
abbrev R2:=V->V->Hp->VK->Prop
def OpR(X:Cx)(f:Value->Value->Sem Value)(r:R2):Prop :=
 ∀(pS:List (Addr×Obj))(s:Shared)(Y:St)(H:Hp)(x y:V)(v u:Value)(Q:VK),Inv X pS Y H s->zcs x v->zcs y u->r x y H Q ->
  wpAny (model X.prog X.w) X.A (f v u) (EP X pS Y Q) X.xe s
def UnR(X:Cx)(f:Value->Sem Value)(r:V->Hp->VK->Prop):Prop :=
 ∀(pS:List (Addr×Obj))(s:Shared)(Y:St)(H:Hp)(x:V)(v:Value)(Q:VK),Inv X pS Y H s->zcs x v->r x H Q ->
  wpAny (model X.prog X.w) X.A (f v) (EP X pS Y Q) X.xe s
def zcZ(X:Cx)(f:Value)(r:List V->Hp->VK->Prop):Prop :=
 ∀(pS:List (Addr×Obj))(s:Shared)(Y:St)(H:Hp)(xs:List V)(us:List Value)(Q:VK),Inv X pS Y H s->zbf xs us->r xs H Q ->
  wpAny (model X.prog X.w) X.A (call f us) (EP X pS Y Q) X.xe s
def tOp(r:R2)(ta tb:TE):TE:=λY H Q=>ta Y H λx H1=>tb Y H1 λy H2=>r x y H2 Q
def tUn(r:V->Hp->VK->Prop)(ta:TE):TE:=λY H Q=>ta Y H λx H1=>r x H1 Q
def rI(C:Int->Int->Prop)(g:Int->Int->V):R2:=λx y H Q=>∃ i j,x=.int i/\y=.int j/\C i j/\Q (g i j) H
def rI0(g:Int->Int->V):R2:=λx y H Q=>∃ i j,x=.int i/\y=.int j/\Q (g i j) H
def rU(g:Int->V):V->Hp->VK->Prop:=λx H Q=>∃ i,x=.int i/\Q (g i) H
section
variable{X:Cx}{a b c:Expr}{ta tb tc:TE}{pos:Pos}
theorem zyy(ha:PE X a ta)(hb:PE X b tb){pS:List (Addr×Obj)}{s:Shared}{Y:St}{H:Hp}{R:V->V->Hp->Prop}(I:Inv X pS Y H s)
  (h:ta Y H λx H1=>tb Y H1 λy H2=>R x y H2) {Q:Value->Shared->Prop} {f:Value->Value->Sem Value}
  (hf:∀ v u s2 x y H2,Inv X pS Y H2 s2->zcs x v->zcs y u->R x y H2->wpAny (model X.prog X.w) X.A (f v u) Q X.xe s2) :
  wpAny (model X.prog X.w) X.A (eval a X.env) (λv s₁=>wpAny (model X.prog X.w) X.A (eval b X.env) (λu s₂=>wpAny (model X.prog X.w) X.A (f v u) Q X.xe s₂) X.xe s₁) X.xe s:=by
 refine thn (ha pS s Y H _ I h) λv s1 ⟨x,H1,I1,r1,q1⟩=>?_;refine thn (hb pS s1 Y H1 _ I1 q1) λu s2 ⟨y,H2,I2,r2,q2⟩=>?_;exact hf v u s2 x y H2 I2 r1 r2 q2
theorem zuG{op:Operator}{r:R2}(ho:OpR X (binaryOp op) r)(ha:PE X a ta)(hb:PE X b tb):PE X (.BinOp a op b pos) (tOp r ta tb):=by intro pS s Y H Q I h;exact wpAny_BinOp (zyy ha hb I h λv u s2 x y H2 I2 rx ry q=>ho pS s2 Y H2 x y v u Q I2 rx ry q)
theorem zwo{op:UnaryOp}{r:V->Hp->VK->Prop}(ho:UnR X (unaryOp op) r)(ha:PE X a ta):PE X (.UnaryOp op a pos) (tUn r ta):=by intro pS s Y H Q I h;exact UnaryOp_ (thn (ha pS s Y H _ I h) λv s1 ⟨x,H1,I1,r1,q1⟩=>ho pS s1 Y H1 x v Q I1 r1 q1)
theorem opI{f:Value->Value->Sem Value}{C:Int->Int->Prop}{g:Int->Int->Int}
  (rule:∀(i j:Int)(t u:Tok)(s:Shared)(Q:Value->Shared->Prop)(E:Value->Shared->Prop),C i j->Q (.int (g i j) s.toks) { s with toks:=s.toks+1 }->wpAny (model X.prog X.w) X.A (f (.int i t) (.int j u)) Q E s) :
  OpR X f (rI C λi j=>.int (g i j)):=by
 intro pS s Y H x y v u Q I rx ry h;obtain ⟨i,j,rfl,rfl,hc,q⟩:=h;obtain ⟨t,rfl⟩:=rx;obtain ⟨t',rfl⟩:=ry;exact rule i j t t' s _ _ hc ⟨.int (g i j),H,I.tok _,⟨_,rfl⟩,q⟩
theorem opI0{f:Value->Value->Sem Value}{g:Int->Int->Int}
  (rule:∀(i j:Int)(t u:Tok)(s:Shared)(Q:Value->Shared->Prop)(E:Value->Shared->Prop),Q (.int (g i j) s.toks) { s with toks:=s.toks+1 }->wpAny (model X.prog X.w) X.A (f (.int i t) (.int j u)) Q E s) :
  OpR X f (rI0 λi j=>.int (g i j)):=by
 intro pS s Y H x y v u Q I rx ry h;obtain ⟨i,j,rfl,rfl,q⟩:=h;obtain ⟨t,rfl⟩:=rx;obtain ⟨t',rfl⟩:=ry;exact rule i j t t' s _ _ ⟨.int (g i j),H,I.tok _,⟨_,rfl⟩,q⟩
theorem zxY{f:Value->Value->Sem Value}{g:Int->Int->Bool}
  (rule:∀(i j:Int)(t u:Tok)(s:Shared)(Q:Value->Shared->Prop)(E:Value->Shared->Prop),Q (.bool (g i j)) s->wpAny (model X.prog X.w) X.A (f (.int i t) (.int j u)) Q E s) :
  OpR X f (rI0 λi j=>.bl (g i j)):=by
 intro pS s Y H x y v u Q I rx ry h;obtain ⟨i,j,rfl,rfl,q⟩:=h;obtain ⟨t,rfl⟩:=rx;obtain ⟨t',rfl⟩:=ry;exact rule i j t t' s _ _ ⟨.bl (g i j),H,I,rfl,q⟩
def CDiv(i j:Int):Prop:=0<j/\j<1073741824
def CPow(i j:Int):Prop:=0<=j/\j<=1000000/\i.natAbs<2 ^ 64
def zx8(i j:Int):Prop:=(-(2 ^ 64)<i/\i<2 ^ 64)\/(-(2 ^ 64)<j/\j<2 ^ 64)
theorem zx8.ok{i j:Int}(h:zx8 i j):IntMulOk i j:=by
 rcases h with ⟨h1,h2⟩|⟨h1,h2⟩
 ·exact .of_left (intBits_le_64 h1 h2)
 ·exact .of_right (intBits_le_64 h1 h2)
theorem zw1:OpR X (binaryOp .Add) (rI0 λi j=>.int (i+j)):=opI0 λ_ _ _ _ _ _ _ q=>add_int q
theorem zxr:OpR X (binaryOp .Sub) (rI0 λi j=>.int (i-j)):=opI0 λ_ _ _ _ _ _ _ q=>sub_int q
theorem zwD:OpR X (binaryOp .Mult) (rI zx8 λi j=>.int (i * j)):=opI λ_ _ _ _ _ _ _ hc q=>mul_int q hc.ok
theorem zun:OpR X (binaryOp .FloorDiv) (rI CDiv λi j=>.int (i / j)):=opI λi j _ _ _ _ _ hc q=>by have h1:(0:Int)<j:=hc.1;have h2:j<1073741824:=hc.2;exact floordiv_int xwl (by rw[Int.fdiv_eq_ediv_of_nonneg i xwo];exact q) (.inl (PyProof.noPylong_small xwo))
theorem zwE:OpR X (binaryOp .Mod) (rI (λ_ j=>0<j) λi j=>.int (i % j)):=opI λi j _ _ _ _ _ hc q=>by have h1:(0:Int)<j:=hc;exact mod_int' xwl (by rw[Int.fmod_eq_emod_of_nonneg i xwo];exact q)
theorem zxg:OpR X (binaryOp .Pow) (rI CPow λi j=>.int (i ^ j.toNat)):=opI λ_ _ _ _ _ _ _ hc q=>pow_int_small hc.1 hc.2.1 hc.2.2 q
theorem unI{f:Value->Sem Value}{g:Int->Int}
  (rule:∀(i:Int)(t:Tok)(s:Shared)(Q:Value->Shared->Prop)(E:Value->Shared->Prop),Q (.int (g i) s.toks) { s with toks:=s.toks+1 }->wpAny (model X.prog X.w) X.A (f (.int i t)) Q E s) :
  UnR X f (rU λi=>.int (g i)):=by
 intro pS s Y H x v Q I rx h;obtain ⟨i,rfl,q⟩:=h;obtain ⟨t,rfl⟩:=rx;exact rule i t s _ _ ⟨.int (g i),H,I.tok _,⟨_,rfl⟩,q⟩
theorem ztm:UnR X (unaryOp .USub) (rU λi=>.int (-i)):=unI λ_ _ _ _ _ q=>neg_int q
end
section
variable{X:Cx}{a b c:Expr}{ta tb tc:TE}{pos:Pos}
theorem zyt:OpR X (compareOp .Lt) (rI0 λi j=>.bl (decide (i<j))):=zxY λ_ _ _ _ _ _ _ q=>lt_int q
theorem zxR:OpR X (compareOp .Gt) (rI0 λi j=>.bl (decide (j<i))):=zxY λ_ _ _ _ _ _ _ q=>gt_int q
theorem zyd:OpR X (compareOp .GtE) (rI0 λi j=>.bl (decide (j<=i))):=zxY λ_ _ _ _ _ _ _ q=>ge_int q
theorem OpR.or{f:Value->Value->Sem Value}{r r':R2}(h:OpR X f r)(h':OpR X f r'):OpR X f (λx y H Q=>r x y H Q\/r' x y H Q):=by
 intro pS s Y H x y v u Q I rx ry q;rcases q with q|q
 ·exact h pS s Y H x y v u Q I rx ry q
 ·exact h' pS s Y H x y v u Q I rx ry q
theorem zik(b:Expr){op:CmpOp}(h:op≠.In:=by decide)(h2:op≠.NotIn:=by decide):behindInMarks op b=false:=by
 have e1:(op == CmpOp.In)=false:=by cases op <;> first|rfl|exact absurd rfl h
 have e2:(op == CmpOp.NotIn)=false:=by cases op <;> first|rfl|exact absurd rfl h2
 cases b <;> simp[behindInMarks,e1,e2]
theorem zvn{op:CmpOp}{r:R2}(ho:OpR X (compareOp op) r)(ha:PE X a ta)(hb:PE X b tb)(hm:behindInMarks op b=false):PE X (.Compare a [op] [b] pos) (tOp r ta tb):=by intro pS s Y H Q I h;exact wpAny_Compare1 (zyy ha hb I h λv u s2 x y H2 I2 rx ry q=>ho pS s2 Y H2 x y v u Q I2 rx ry q) hm
def zsE(t:TE):TT:=λY H Q=>t Y H λx H'=>∃ k,x=.bl k/\Q k H'
theorem zmr{op:CmpOp}{r:R2}(ho:OpR X (compareOp op) r)(ha:PE X a ta)(hb:PE X b tb)(hm:behindInMarks op b=false):PT X (.Compare a [op] [b] pos) (zsE (tOp r ta tb)):=by
 intro pS s Y H Q I h;refine wpAny_isTrue_Compare1 (thn (ha pS s Y H _ I h) λv s1 ⟨x,H1,I1,r1,q1⟩=>thn (hb pS s1 Y H1 _ I1 q1) λu s2 ⟨y,H2,I2,r2,q2⟩ =>
  thn (ho pS s2 Y H2 x y v u _ I2 r1 r2 q2) λc s3 ⟨z,H3,I3,r3,k,e,q3⟩=>?_) hm
 subst e;cases r3;exact wpAny_truthy_bool ⟨H3,I3,q3⟩
theorem zlN:(sizeLine:Nat)<2 ^ 63:=by rw[sizeLine_eq];decide
theorem zf6{x:V}{us:List Value}(r:zbf [x] us):∃ u,us=[u]/\zcs x u:=by
 cases r with
 |cons r1 r2=>cases r2;exact ⟨_,rfl,r1⟩
theorem zo8{x y:V}{us:List Value}(r:zbf [x,y] us):∃ u w',us=[u,w']/\zcs x u/\zcs y w':=by
 cases r with
 |cons r1 r2 =>
  cases r2 with
  |cons r3 r4=>cases r4;exact ⟨_,_,rfl,r1,r3⟩
theorem zpu(hc:X.calm=true):zcZ X (.builtin "max") (λxs H Q=>∃ i j,xs=[.int i,.int j]/\Q (.int (if j > i then j else i)) H):=by
 intro pS s Y H xs us Q I r h;obtain ⟨i,j,rfl,q⟩:=h;obtain ⟨u,w',rfl,⟨t,rfl⟩,⟨t',rfl⟩⟩:=zo8 r;refine max_two_ints (I.ok.hd hc) λh' tk k=>⟨_,H,I.kept k,?_,q⟩
 by_cases hj:j > i
 ·rw[if_pos hj,if_pos hj];exact ⟨_,rfl⟩
 ·rw[if_neg hj,if_neg hj];exact ⟨_,rfl⟩
theorem zpx(hc:X.calm=true):zcZ X (.builtin "min") (λxs H Q=>∃ i j,xs=[.int i,.int j]/\Q (.int (if j<i then j else i)) H):=by
 intro pS s Y H xs us Q I r h;obtain ⟨i,j,rfl,q⟩:=h;obtain ⟨u,w',rfl,⟨t,rfl⟩,⟨t',rfl⟩⟩:=zo8 r;refine min_two_ints (I.ok.hd hc) λh' tk k=>⟨_,H,I.kept k,?_,q⟩
 by_cases hj:j<i
 ·rw[if_pos hj,if_pos hj];exact ⟨_,rfl⟩
 ·rw[if_neg hj,if_neg hj];exact ⟨_,rfl⟩
end
end L2
namespace L2
open PySem PySem.Spec PyProof.Rows
structure ObjM(h:Heap)(x dx C:Addr)(mA:Str->Option Value):Prop where
 obj:h.get? x=some (W.instObj C dx)
 ns:h.Ns1 dx mA
 ne:dx≠x
section
variable{prog:Program}{w:World}{A:Around}{E:Value->Shared->Prop}{s:Shared}{K:W.Frag}{x dx C f:Addr}{mA:Str->Option Value}{name:Str}{v:Value}
end
section
variable{P:Program}{w:World}{H H':Hp}{h h':Heap}{a C dx:Addr}{fs fs':List (Str×V)}
end
structure Cls(K:W.Frag)(C:Addr):Prop where
 pg:W.plainGet K C Str.empty=true
 hd:W.hasDictIn K C=true
 po:W.plainOver K C=true
 sa:W.findIn K (.ref C) "__setattr__"=some (some (.builtin "object.__setattr__"))
theorem Cls.get{K:W.Frag}{C:Addr}(c:Cls K C)(f:Str):W.plainGet K C f=true:=c.pg
structure Con(K:W.Frag)(C:Addr)(f:Str)(v:V)(u:Value):Prop where
 at_:W.findIn K (.ref C) f=some (some u)
 rel:zcs v u
 get:W.specialIn K u "__get__"=some none
 cp:W.copiedNames.contains f=false
structure Meth(K:W.Frag)(C:Addr)(m:Str)(f:Addr):Prop where
 at_:W.findIn K (.ref C) m=some (some (.ref f))
 fn:W.isFn K (.ref f)=true
 kp:W.keepIn K (.ref f)=true
section
variable{X:Cx}{pS:List (Addr×Obj)}{Y:St}{H:Hp}{s:Shared}{a C dx:Addr}{fs:List (Str×V)}{f:Str}{v:V}{A:Around}{E:Value->Shared->Prop}
theorem Inv.made(I:Inv X pS Y H s):Inv X pS Y (upd (upd H s.heap.objs.size (.own (s.heap.objs.size+1))) (s.heap.objs.size+1) (.ins C s.heap.objs.size []))
  { s with heap:=(s.heap.push W.emptyDict).push (W.instObj C s.heap.objs.size) }:=by
 have e1:(s.heap.push W.emptyDict).get? s.heap.objs.size=some W.emptyDict:=waj s.heap rfl;have e2:((s.heap.push W.emptyDict).push (W.instObj C s.heap.objs.size)).get? (s.heap.objs.size+1)=some (W.instObj C s.heap.objs.size):=by have:=waj (s.heap.push W.emptyDict) (o:=W.instObj C s.heap.objs.size) rfl;rwa [Heap.size_push] at this
 have e3:(s.heap.push W.emptyDict).Ns s.heap.objs.size (λ_=>none):=⟨W.emptyDict,#[],_,e1,rfl,(λe he=>absurd he xws),λ_=>rfl⟩
 have I1:=I.laid (a:=s.heap.objs.size) (o:=.own (s.heap.objs.size+1)) (h':=s.heap.push W.emptyDict) (t':=s.toks) (λb u q=>waa _ q) (wal _) ⟨_,e1⟩;refine I1.laid (a:=s.heap.objs.size+1) (o:=.ins C s.heap.objs.size []) (t':=s.toks) (λb u q=>waa _ q) (Nat.le_of_eq (Heap.size_push _ _)) ?_;have ne:s.heap.objs.size≠s.heap.objs.size+1:=waM (Nat.lt_succ_self _);refine ⟨by rw[zau ne,zat],Nat.zero_le _,ne,e2,λ_=>none,(Heap.Ns1.of_empty e3).at λo q=>waa _ q,λ_=>True.intro,λy hy=>absurd rfl hy⟩
end
section
variable{X:Cx}{o e value:Expr}{f:Str}{pos pos' tpos:Pos}{ta tv:TE}
end
section
variable{X:Cx}{pS:List (Addr×Obj)}{Y:St}{H:Hp}{s:Shared}{A:Around}{E:Value->Shared->Prop}{Q:Value->Shared->Prop}{c:Value}{b:Bool}
inductive zpL(K:W.Frag)(H:Hp):V->Value->Prop where
 |non:zpL K H .non (.type "NoneType")
 |bl (x:Bool):zpL K H (.bl x) (.type "bool")
 |int (i:Int):zpL K H (.int i) (.type "int")
 |str (x:Str):zpL K H (.str x) (.type "str")
 |flt (x:UInt64):zpL K H (.flt x) (.type "float")
 |lst {a:Addr} {xs:List V} (e:H a=some (.lst xs)):zpL K H (.ref a) (.type "list")
 |frz {a:Addr} {o:Obj} {xs:List V} (e:H a=some (.frz o (.lst xs))):zpL K H (.ref a) (.type "list")
 |tup {a:Addr} {xs:List V} (e:H a=some (.tup xs)):zpL K H (.ref a) (.type "tuple")
 |dK {a:Addr} {kvs:List (Key×V)} (e:H a=some (.dK kvs)):zpL K H (.ref a) (.type "dict")
 |dT {a:Addr} {kvs:List (List Key×V)} (e:H a=some (.dT kvs)):zpL K H (.ref a) (.type "dict")
 |ins {a C dx:Addr} {fs:List (Str×V)} (e:H a=some (.ins C dx fs)) (cl:Cls K C) (ha:W.findIn K (.ref C) "__class__"=some (some (.builtin "object.__class__")))
   (hn:W.specialIn K (.builtin "object.__class__") "__get__"=some (some (.builtin "getset_descriptor.__get__"))) (htk:W.takesIn K (.builtin "object.__class__")=some true)
   (hm:W.mroIn K C (.type "object")=some true):zpL K H (.ref a) (.ref C)
end
end L2
namespace L2
open PySem PySem.Spec PyProof.Rows
structure zgm(k:Nat)(A:Around):Prop where
 hd:A.handled=none
 dp:A.depth+3 * k+5<recursionLimit
 un:A.units+16 * k+200<cLine
theorem zgm.mono{j k:Nat}{A:Around}(r:zgm k A)(h:j<=k):zgm j A:=⟨r.hd,by have:=r.dp;lia,by have:=r.un;omega⟩
theorem zgm.deeper{k:Nat}{A:Around}(r:zgm (k+1) A)(env:Env):zgm k (A.deeper env) :=
 ⟨r.hd,by have:=r.dp;show A.depth+1+3 * k+5<_;lia,by have:=r.un;show A.units+3+16 * k+200<_;omega⟩
theorem zgm.in1{k:Nat}{A:Around}(r:zgm (k+1) A):zgm k A.in1 :=
 ⟨r.hd,by have:=r.dp;show A.depth+3 * k+5<_;lia,by have:=r.un;show A.units+1+16 * k+200<_;omega⟩
theorem zgm.depth{k:Nat}{A:Around}(r:zgm k A):A.depth<recursionLimit:=by have:=r.dp;lia
theorem zgm.units{k:Nat}{A:Around}(r:zgm k A):A.units+64<cLine:=by have:=r.un;lia
def tNil:TA:=λ_ H Q=>Q [] H
def zxf(ta:TE)(tr:TA):TA:=λY H Q=>ta Y H λx H1=>tr Y H1 λxs H2=>Q (x::xs) H2
section
variable{X:Cx}{e:Expr}{es:List Expr}{te:TE}{t:TA}{pos:Pos}
theorem zde:PA X [] tNil:=λ_ _ _ _ H Q I h=>Calls.spliced_nil ⟨[],H,I,.nil,h⟩
theorem zbn(ha:PE X e te)(hr:PA X es t)(hs:starEach (e::es) X.env=(false,eval e X.env)::starEach es X.env:=by rfl):PA X (e::es) (zxf te t):=by intro pos pS s Y H Q I h;rw[hs];show wpAny _ _ (spliced ((false,eval e X.env)::backTo pos (starEach es X.env))) _ _ s;refine Calls.spliced_cons (thn (ha pS s Y H _ I h) λu s1 ⟨x,H1,I1,r1,q1⟩=>?_);exact thn (hr pos pS s1 Y H1 _ I1 q1) λus s2 ⟨xs,H2,I2,r2,q2⟩=>⟨x::xs,H2,I2,.cons r1 r2,q2⟩
def tTup(t:TA):TE:=λY H Q=>t Y H λxs H1=>xs.length<=sizeLine/\∀ p,H1 p=none->Q (.ref p) (upd H1 p (.tup xs))
def tLst(t:TA):TE:=λY H Q=>t Y H λxs H1=>xs.length<=sizeLine/\∀ p,H1 p=none->Q (.ref p) (upd H1 p (.lst xs))
theorem ztH{x1}(h:PA X es t):PE X (.Tuple es x1 pos) (tTup t):=by intro pS s Y H Q I hq;refine wpAny_Tuple_spliced (thn (h pos pS s Y H _ I hq) λus s1 ⟨xs,H1,I1,r,z,q⟩=>⟨by rw[<- r.length];exact z,?_⟩);have hf:H1 s1.heap.objs.size=none:=I1.hok.fresh (wal _);refine ⟨.ref s1.heap.objs.size,upd H1 s1.heap.objs.size (.tup xs),I1.laid (t':=s1.toks) (λb u e=>waa _ e) (wal _) ?_,rfl,q _ hf⟩;exact ⟨z,us,r,⟨_,waj _ rfl⟩⟩
theorem zvX(h:PA X es t):PE X (.List es pos) (tLst t):=by intro pS s Y H Q I hq;refine wpAny_List_spliced (thn (h pos pS s Y H _ I hq) λus s1 ⟨xs,H1,I1,r,z,q⟩=>⟨by rw[<- r.length];exact z,?_⟩);have hf:H1 s1.heap.objs.size=none:=I1.hok.fresh (wal _);refine ⟨.ref s1.heap.objs.size,upd H1 s1.heap.objs.size (.lst xs),I1.laid (t':=s1.toks) (λb u e=>waa _ e) (wal _) ?_,rfl,q _ hf⟩;exact ⟨z,us,0,r,waj _ rfl⟩
end
abbrev Sp:=List V->Hp->VK->XK->Prop
abbrev CXT:=List Env->Hp->Shared->XK->Value->Shared->Prop
structure zuz(P:Program)(w:World)(K:W.Frag)(mg:Str->Option Value)(base:Heap)(A:Around)(outer:List Env)(s:Shared)(H:Hp):Prop where
 frames:A.frames=some outer
 mod:Mod K mg base
 bs:∀ b o,base.get? b=some o->s.heap.get? b=some o/\H b=none
 bsz:base.objs.size<=s.heap.objs.size
 funs:s.heap.FunFrames base outer
 frf:∀ b∈frs outer,H b=none
 hok:HOk P w H s.heap
 bare:AllBare s.gens
def CE(outer:List Env)(P:Program)(w:World)(H:Hp)(s:Shared)(Q:VK)(u:Value)(s':Shared):Prop :=
 ∃ v H',s'.os=s.os/\AllBare s'.gens/\Un (frs outer) [] H H' s.heap s'.heap/\HOk P w H' s'.heap/\zcs v u/\Q v H'
def CR(CX:CXT)(outer:List Env)(P:Program)(w:World)(H:Hp)(s:Shared)(Q:VK)(E:XK)(r:Result)(s':Shared):Prop :=
 match r with
 |.ok (.ret u)=>CE outer P w H s Q u s'
 |.ok _=>False
 |.error e=>CX outer H s E e s'
structure zgu(P:Program)(w:World)(K:W.Frag)(mg:Str->Option Value)(base:Heap)(CX:CXT)(k:Nat)(f:Addr)(fd:FuncData)(ps:List Str)(sp:Sp):Prop where
 len:∀ vs H Q E,sp vs H Q E->vs.length=ps.length
 run:∀(A:Around)(outer:List Env)(s:Shared)(H:Hp)(args:Args)(us:List Value)(vs:List V)(Q:VK)(E:XK),zgm k A->zuz P w K mg base A outer s H->BindsTo s fd args (ps.zip us)->zbf vs us->sp vs H Q E ->
  codeAny (model P w) A (.call (.ref f) args) (CR CX outer P w H s Q E) s
theorem zgu.mono{P:Program}{w:World}{K:W.Frag}{mg:Str->Option Value}{base:Heap}{CX:CXT}{j k:Nat}{f:Addr}{fd:FuncData}{ps:List Str}{sp:Sp}(F:zgu P w K mg base CX j f fd ps sp)(h:j<=k) :
  zgu P w K mg base CX k f fd ps sp:=⟨F.len,λA outer s H args us vs Q E hr=>F.run A outer s H args us vs Q E (hr.mono h)⟩
theorem zgu.imp{P:Program}{w:World}{K:W.Frag}{mg:Str->Option Value}{base:Heap}{CX:CXT}{k:Nat}{f:Addr}{fd:FuncData}{ps:List Str}{sp sp':Sp}(F:zgu P w K mg base CX k f fd ps sp)
  (h:∀ vs H Q E,sp' vs H Q E->sp vs H Q E):zgu P w K mg base CX k f fd ps sp' :=
 ⟨λvs H Q E q=>F.len vs H Q E (h _ _ _ _ q),λA outer s H args us vs Q E hr he hb hv hs=>F.run A outer s H args us vs Q E hr he hb hv (h _ _ _ _ hs)⟩
theorem zuz.in1{P:Program}{w:World}{K:W.Frag}{mg:Str->Option Value}{base:Heap}{A:Around}{outer:List Env}{s:Shared}{H:Hp}(e:zuz P w K mg base A outer s H) :
  zuz P w K mg base A.in1 outer s H:=⟨e.frames,e.mod,e.bs,e.bsz,e.funs,e.frf,e.hok,e.bare⟩
section
variable{X:Cx}{pS:List (Addr×Obj)}{Y:St}{H:Hp}{s s':Shared}
theorem Inv.env0(I:Inv X pS Y H s):zuz X.prog X.w X.K X.mg X.base X.A X.stack s H :=
 ⟨I.ok.frames,I.ok.mod,I.bs,waN I.ok.bsz I.sz,I.stack,I.stkFree,I.hok,I.bare⟩
theorem Inv.after{Q:VK}{u:Value}(I:Inv X pS Y H s)(h:CE X.stack X.prog X.w H s Q u s'):EP X pS Y Q u s':=by obtain ⟨v,H',os,bare,un,hok,r,q⟩:=h;obtain ⟨hh,g,d,t,os'⟩:=s';obtain rfl:os'=s.os:=os;exact ⟨v,H',I.call (h':=hh) (g':=g) (d':=d) (t':=t) (ch:=[]) un hok bare (λb z=>absurd z xws),r,q⟩
end
def zuy(sp:Sp)(dvs:List V)(E:XK)(t:TA):TE:=λY H Q=>t Y H λvs H1=>sp (vs++dvs) H1 Q E
def zkm(K:W.Frag)(fd:FuncData)(ps:List Str)(ds:List Value):Prop :=
 ∀(s:Shared)(us:List Value),K.In s.heap->(us++ds).length=ps.length->BindsTo s fd ⟨us,[]⟩ (ps.zip (us++ds))
theorem zkm.all{K:W.Frag}{fd:FuncData}{ps:List Str}(h:∀ us:List Value,us.length=ps.length->bindArgs fd ⟨us,[]⟩=pure (ps.zip us)):zkm K fd ps []:=λs us _ hl=>by rw[List.append_nil] at hl ⊢;exact .of_eq (h us hl)
def zfe(CX:CXT)(X:Cx)(E:XK):Prop:=∀(pS:List (Addr×Obj))(Y:St)(H:Hp)(s:Shared)(e:Value)(s':Shared),Inv X pS Y H s->CX X.stack H s E e s'->X.xe e s'
section
variable{X:Cx}{CX:CXT}{k:Nat}{f C:Addr}{fd:FuncData}{ps:List Str}{sp:Sp}{dvs:List V}{ds:List Value}{E:XK}{x m:Str}{p pos apos:Pos}{e o:Expr}{es:List Expr}{ta:TE}{t:TA}
theorem ztP{pS:List (Addr×Obj)}{Y:St}{H:Hp}{s:Shared}{Q:VK}{us:List Value}{vs:List V}(F:zgu X.prog X.w X.K X.mg X.base CX k f fd ps sp)(hr:zgm k X.A)(hb:zkm X.K fd ps ds)(hd:zbf dvs ds)(hx:zfe CX X E)
  (I:Inv X pS Y H s) (r:zbf vs us) (h:sp (vs++dvs) H Q E):wpAny (model X.prog X.w) X.A (call (.ref f) us) (EP X pS Y Q) X.xe s:=by
 have r2:zbf (vs++dvs) (us++ds):=r.append hd;have hl:(us++ds).length=ps.length:=by rw[<- r2.length];exact F.len _ _ _ _ h
 refine wpAny_call (codeAny_mono (F.run X.A X.stack s H ⟨us,[]⟩ (us++ds) (vs++dvs) Q E hr I.env0 (hb s us I.kIn hl) r2 h) λr s' hq=>?_);cases r with
 |error e=>exact hx pS Y H s e s' I hq
 |ok fl =>
  cases fl with
  |ret u=>exact I.after hq
  |next=>exact waO hq
  |brk=>exact waO hq
  |cont=>exact waO hq
theorem zmP(F:zgu X.prog X.w X.K X.mg X.base CX k f fd ps sp)(hr:zgm k X.A)(hg:Gl X x)(hm:X.mg x=some (.ref f))(hk:W.keepIn X.K (.ref f)=true)(hb:zkm X.K fd ps ds)(hd:zbf dvs ds)(hx:zfe CX X E)
  (ha:PA X (e::es) t) (hdb:(x == ("__debug__" : Str))=false:=by decide) (he:starEach (e::es) X.env=(false,eval e X.env)::starEach es X.env:=by rfl) (hpl:(backTo pos (starEach es X.env)).any (·.1)=false:=by rfl) :
  PE X (.Call (.Name x p) (e::es) [] pos) (zuy sp dvs E t):=by
 intro pS s Y H Q I h;refine wpAny_Call_Name_kw (zq3 I hg hm ?_ hdb);refine W.callWith_K (h₀:=X.base) I.ok.mod.kin hk (thn (ha pos pS s Y H _ I h) λus s1 ⟨vs,H1,I1,r,q⟩=>⟨I1.kIn,?_⟩) he hpl;exact ztP F hr hb hd hx I1 r q
structure Mk(K:W.Frag)(C f:Addr):Prop where
 makes:W.makesIn K C=true
 init:W.findIn K (.ref C) "__init__"=some (some (.ref f))
 fn:W.isFn K (.ref f)=true
 kp:W.keepIn K (.ref C)=true
end
def PK(X:Cx)(kws:List Keyword)(t:TA):Prop :=
 ∀(pos:Pos)(pS:List (Addr×Obj))(s:Shared)(Y:St)(H:Hp)(Q:List V->Hp->Prop),Inv X pS Y H s->t Y H Q->wpAny (model X.prog X.w) X.A (evalAll ((backToKw pos (keywordEach kws X.env)).map (·.2))) (AP X pS Y Q) X.xe s
section
variable{X:Cx}{CX:CXT}{k:Nat}{f C:Addr}{fd:FuncData}{ps ks:List Str}{sp:Sp}{E:XK}{x m:Str}{p pos apos kpos:Pos}{e o:Expr}{es:List Expr}{kws:List Keyword}{te ta:TE}{t tk:TA}{nm:Option Str}
theorem zwB:PK X [] tNil:=λ_ _ _ _ H Q I h=>wpAny_evalAll_nil ⟨[],H,I,.nil,h⟩
theorem zue(ha:PE X e te)(hr:PK X kws t):PK X (⟨nm,e,kpos⟩::kws) (zxf te t):=by intro pos pS s Y H Q I h;show wpAny _ _ (evalAll ((do let v <- eval e X.env;standAt pos;pure v)::(backToKw pos (keywordEach kws X.env)).map (·.2))) _ _ s;refine wpAny_evalAll_cons (wab (thn (ha pS s Y H _ I h) λu s1 ⟨x,H1,I1,r1,q1⟩=>wab (wpAny_standAt (wad ?_))));exact thn (hr pos pS s1 Y H1 _ I1 q1) λus s2 ⟨xs,H2,I2,r2,q2⟩=>⟨x::xs,H2,I2,.cons r1 r2,q2⟩
structure KBinds(K:W.Frag)(fd:FuncData)(ps ks:List Str)(g:List Value->List Value->List Value)(gV:List V->List V->List V):Prop where
 to:∀(s:Shared)(us ws:List Value),K.In s.heap->(g us ws).length=ps.length->BindsTo s fd ⟨us,ks.zip ws⟩ (ps.zip (g us ws))
 rel:∀{vs:List V}{us:List Value}{zs:List V}{ws:List Value},zbf vs us->zbf zs ws->zbf (gV vs zs) (g us ws)
variable{g:List Value->List Value->List Value}{gV:List V->List V->List V}
end
structure za4(N P:List Str)(sc:Scope):Prop where
 kind:sc.kind=.function
 co:sc.isCoroutine=false
 gen:sc.isGenerator=false
 nd:N.Nodup
 pre:N.take P.length=P
 par:∀ x∈P,sc.names.lookup x=some .local\/sc.names.lookup x=some .cell
 nofree:∀ y∈sc.names,y.2≠.free
theorem zkS{kindOf:Str->Option NameKind}{x:Str}:∀{binds:List (Str×Value)}{m:Str->Option Value},(∀ v,(x,v)∉binds)->bindL kindOf binds m x=m x
 |[],_,_=>rfl
 | (n,v)::r,m,h=>by
  unfold bindL;rw[zkS λw hw=>h w (List.mem_cons_of_mem _ hw)];split
  ·have:x≠n:=by rintro rfl;exact h v wau
   simp[this]
  ·rfl
theorem zlG{kindOf:Str->Option NameKind}{x:Str}:∀{binds:List (Str×Value)}{m:Str->Option Value},(∀ v,(x,v)∉binds)->bindC kindOf binds m x=m x
 |[],_,_=>rfl
 | (n,v)::r,m,h=>by
  unfold bindC;rw[zlG λw hw=>h w (List.mem_cons_of_mem _ hw)];split
  ·rfl
  ·have:x≠n:=by rintro rfl;exact h v wau
   simp[this]
theorem zlV{kindOf:Str->Option NameKind}{x:Str}{v:Value}:∀{P:List Str}{vs:List Value}{i:Nat}{m:Str->Option Value},P.Nodup->P[i]? = some x->vs[i]? = some v->kindOf x=some .local ->
  bindL kindOf (P.zip vs) m x=some v
 |[],_,_,_,_,h,_,_=>by simp at h
 |_::_,[],_,_,_,_,h,_=>by simp at h
 |p::P,w::vs,0,m,nd,h1,h2,hk=>by simp at h1 h2;subst h1;subst h2;show bindL kindOf ((p,w)::P.zip vs) m p=_;unfold bindL;rw[zkS λv hv=>(List.nodup_cons.mp nd).1 (List.of_mem_zip hv).1,if_pos hk];simp
 |p::P,w::vs,i+1,m,nd,h1,h2,hk=>by show bindL kindOf ((p,w)::P.zip vs) m x=_;unfold bindL;exact zlV (i:=i) (List.nodup_cons.mp nd).2 (by simpa using h1) (by simpa using h2) hk
theorem zkU{kindOf:Str->Option NameKind}{x:Str}{v:Value}:∀{P:List Str}{vs:List Value}{i:Nat}{m:Str->Option Value},P.Nodup->P[i]? = some x->vs[i]? = some v->kindOf x≠some .local ->
  bindC kindOf (P.zip vs) m x=some v
 |[],_,_,_,_,h,_,_=>by simp at h
 |_::_,[],_,_,_,_,h,_=>by simp at h
 |p::P,w::vs,0,m,nd,h1,h2,hk=>by simp at h1 h2;subst h1;subst h2;show bindC kindOf ((p,w)::P.zip vs) m p=_;unfold bindC;rw[zlG λv hv=>(List.nodup_cons.mp nd).1 (List.of_mem_zip hv).1,if_neg hk];simp
 |p::P,w::vs,i+1,m,nd,h1,h2,hk=>by show bindC kindOf ((p,w)::P.zip vs) m x=_;unfold bindC;exact zkU (i:=i) (List.nodup_cons.mp nd).2 (by simpa using h1) (by simpa using h2) hk
def start(N:List Str)(vs:List V):St:=vs.map some++List.replicate (N.length-vs.length) none
def zs7(CX:CXT)(P:Program)(w:World)(K:W.Frag)(mg:Str->Option Value)(base:Heap)(N:List Str)(qual:Str)(scope:Scope)(f:Addr)(cd:Value)(A:Around)(outer:List Env)(s:Shared)(H:Hp)(E:XK):Cx where
 prog:=P
 w:=w
 K:=K
 mg:=mg
 base:=base
 A:=A.deeper (envOfC qual scope s.heap.objs.size f cd)
 N:=N
 s₀:=s
 H₀:=H
 env:=envOfC qual scope s.heap.objs.size f cd
 outer:=outer
 stack:=envOfC qual scope s.heap.objs.size f cd::outer
 ex:=[]
 calm:=true
 fn:=λ_=>true
 pn:=[]
 xe:=λe s'=>wpAny (model P w) (A.deeper (envOfC qual scope s.heap.objs.size f cd)) (leaving (envOfC qual scope s.heap.objs.size f cd) e) (λ_ s''=>CX outer H s E e s'') (λe' s''=>CX outer H s E e' s'') s'
theorem zoc{sc:Scope}{n:Nat}{x:Str}(h:sc.names.lookup x=some .cell):∃ c,(cellsFrom n sc.names []).lookup x=some c:=by have q:=W.cellsFrom_some sc.names n [] (.inl h);exact Option.isSome_iff_exists.mp q
theorem zpK{CX:CXT}{P:Program}{w:World}{K:W.Frag}{mg:Str->Option Value}{base:Heap}{N ps:List Str}{qual:Str}{scope:Scope}{f:Addr}{cd:Value}{A:Around}{outer:List Env}{s s1:Shared}{H:Hp}{E:XK}{us:List Value}{vs:List V}
  (S:za4 N ps scope) (hd:A.handled=none) (e0:zuz P w K mg base A outer s H) (hl:vs.length=ps.length) (r:zbf vs us)
  (x:InCallC s s.heap.objs.size (bindL (envOfC qual scope s.heap.objs.size f cd).kindOf (ps.zip us) λ_=>none) (cellsFrom (s.heap.objs.size+1) scope.names []) (bindC (envOfC qual scope s.heap.objs.size f cd).kindOf (ps.zip us) λ_=>none) s1) :
  Inv (zs7 CX P w K mg base N qual scope f cd A outer s H E) [] (start N vs) H s1:=by
 have hpl:ps.length<=N.length:=by have:=congrArg List.length S.pre;rw[List.length_take] at this;lia
 obtain ⟨h1,tk,rfl,hk⟩:=x.done;have noA:∀ b:Addr,b∉(zs7 CX P w K mg base N qual scope f cd A outer s H E).ex:=λb z=>absurd (show b∈([]:List Addr) from z) xws;refine ⟨⟨e0.mod,S.kind,rfl,rfl,wal _,λy z c h1 h2=>?_,λy hy=>?_,λy c _ h=>?_,λ_=>hd,Around.frames_deeper e0.frames,.inr ⟨rfl,rfl⟩,λb z=>absurd z (noA b),e0.bs,e0.bsz,λb _ _=>noA b,λb z=>absurd z (noA b),e0.funs,e0.frf⟩,
  rfl,e0.bare,Un.kept hk,⟨_,x.toInCall.ns,λi y v h1 h2 h3=>?_⟩,λy c h=>⟨_,x.cell y c h⟩,e0.hok.fresh (wal _),λy c h=>?_,λp hp=>absurd (show p∈([]:List (Addr×Obj)) from hp) xws,e0.hok.kept hk,?_⟩
 ·exact name_of_addr x.apart (PySem.mem_of_lookup h1) (PySem.mem_of_lookup h2)
 ·have hy:scope.names.lookup y=some .cell\/scope.names.lookup y=some .free:=hy;rcases hy with hy|hy
  ·exact zoc hy
  ·exact absurd rfl (S.nofree _ (PySem.mem_of_lookup hy))
 ·exact Nat.le_of_lt (x.above y c (PySem.mem_of_lookup h))
 ·have hi:i<vs.length:=by
   unfold start at h2;by_cases hi:i<vs.length
   ·exact hi
   ·rw[List.getElem?_append_right (by simpa using hi)] at h2;rw[List.getElem?_replicate] at h2;split at h2 <;> cases h2
  have ha:vs[i]? = some v:=by
   unfold start at h2;rw[List.getElem?_append_left (by simpa using hi),List.getElem?_map] at h2;cases e:vs[i]? with
   |none=>rw[e] at h2;cases h2
   |some a=>rw[e] at h2;cases h2;rfl
  obtain ⟨u,hu,rv⟩:=r.get ha;have hp:ps[i]? = some y:=by rw[<- S.pre,List.getElem?_take_of_lt xwl];exact h1
  have ndP:ps.Nodup:=by rw[<- S.pre];exact S.nd.sublist (List.take_sublist _ _)
  refine ⟨u,rv,?_⟩;rcases S.par y (waH hp) with k|k
  ·exact .inl ⟨k,zlV ndP hp hu k⟩
  ·obtain ⟨c,e⟩:=zoc (n:=s.heap.objs.size+1) k;refine .inr ⟨.inl k,c,e,?_⟩;have q:=x.cell y c e;rw[zkU ndP hp hu (by show scope.names.lookup y≠_;rw[k];decide)] at q;exact q
 ·exact e0.hok.fresh (Nat.le_of_lt (x.above y c (PySem.mem_of_lookup h)))
 ·unfold start;show _=N.length;rw[List.length_append,List.length_map,List.length_replicate];lia
theorem zvQ{CX:CXT}{P:Program}{w:World}{K:W.Frag}{mg:Str->Option Value}{base:Heap}{k:Nat}{f:Addr}{name qual:Str}{params:Arguments}{body:List Stmt}{scope:Scope}{dV kV doc pm cdv ct oc:Value}{an od:Option Addr}
  {osl:Array (Option Value)} {N ps:List Str} {sp:Sp} (lk:K.lookup f=some ⟨oc,od,.func (W.fnOf name qual params body scope dV kV doc pm an cdv ct),osl⟩) (hcd:W.codeIn K cdv qual=true) (S:za4 N ps scope)
  (len:∀ vs H Q E,sp vs H Q E->vs.length=ps.length)
  (hbody:∀(A:Around)(outer:List Env)(s:Shared)(H:Hp)(vs:List V)(Q:VK)(E:XK),zgm k (A.deeper (envOfC qual scope s.heap.objs.size f cdv))->sp vs H Q E ->
   ∃ t,PSs (zs7 CX P w K mg base N qual scope f cdv A outer s H E) body t/\t { nx:=λ_ H'=>Q .non H',rt:=Q } (start N vs) H) :
  zgu P w K mg base CX (k+1) f (W.fnOf name qual params body scope dV kV doc pm an cdv ct) ps sp:=by
 refine ⟨len,λA outer s H args us vs Q E hr e0 hb r hsp=>?_⟩;have hl:=len _ _ _ _ hsp;have KX:K.In s.heap:=e0.mod.kin.keeps λb o e=>(e0.bs b o e).1;have lim:s.heap.NoLimit:=e0.mod.nolimit.keeps λb o e=>(e0.bs b o e).1;have hkind:∀ y∈ps.zip us,scope.names.lookup y.1=some .local\/(scope.names.lookup y.1=some .cell/\((cellsFrom (s.heap.objs.size+1) scope.names []).lookup y.1).isSome=true):=λ⟨n,v⟩ hy=>by
  rcases S.par n (List.of_mem_zip hy).1 with q|q
  ·exact .inl q
  ·exact .inr ⟨q,W.cellsFrom_some _ _ _ (.inl q)⟩
 refine codeAny_call_function hr.depth (KX _ _ lk) rfl S.co S.gen rfl (W.codeRec_of KX hcd) (hb _ _ _ _ ?_);refine wpAny_newFunctionEnv_cells S.kind hkind λenv he s1 x=>?_;subst he;refine ⟨lim.keeps x.toInCall.keep,codeAny_func ?_⟩;obtain ⟨t,ht,hq⟩:=hbody A outer s H vs Q E (hr.deeper _) hsp;have I:Inv (zs7 CX P w K mg base N qual scope f cdv A outer s H E) [] (start N vs) H s1:=zpK S hr.hd e0 hl r x;refine wpAny_mono (ht [] s1 (start N vs) H _ I hq) (λfl s' hs=>?_) λe s' hs=>hs;have fin:∀{Y':St}{H':Hp}{v:V}{u:Value},Inv (zs7 CX P w K mg base N qual scope f cdv A outer s H E) [] Y' H' s'->zcs v u->Q v H'->CE outer P w H s Q u s' :=
  λ{Y' H' v u} J rv q=>⟨v,H',J.os,J.bare,J.base,J.hok,rv,q⟩
 cases fl with
 |ret u =>
  obtain ⟨v,Y',H',J,rv,q⟩:=hs;exact fin J rv q
 |next =>
  obtain ⟨Y',H',J,q⟩:=hs;exact fin (v:=V.non) (u:=Value.none) J rfl q
 |brk =>
  obtain ⟨_,_,_,q⟩:=hs;exact waO q
 |cont =>
  obtain ⟨_,_,_,q⟩:=hs;exact waO q
end L2
namespace L2
open PySem PySem.Spec PyProof.Rows
section
variable{X:Cx}{x:Str}{p pos:Pos}{e:Expr}{es:List Expr}{t:TA}{id T:String}{r:List V->Hp->VK->Prop}
def tCB(r:List V->Hp->VK->Prop)(t:TA):TE:=λY H Q=>t Y H λvs H1=>r vs H1 Q
theorem zfq(hc:zcZ X (.builtin id) r)(hg:Gl X x)(hm:X.mg x=none)(hv:bootBuiltins x=some (.builtin id))(ha:PA X (e::es) t)(hn:x≠"__name__":=by decide)(hdb:(x == ("__debug__" : Str))=false:=by decide)
  (he:starEach (e::es) X.env=(false,eval e X.env)::starEach es X.env:=by rfl) (hpl:(backTo pos (starEach es X.env)).any (·.1)=false:=by rfl):PE X (.Call (.Name x p) (e::es) [] pos) (tCB r t):=by
 intro pS s Y H Q I h;refine wpAny_Call_Name_kw (zeD I hg hm hv ?_ hn hdb);exact PyProof.Rows.callWith_builtin1 (thn (ha pos pS s Y H _ I h) λus s1 ⟨vs,H1,I1,r1,q1⟩=>hc pS s1 Y H1 vs us Q I1 r1 q1) he hpl
theorem zg5(hc:zcZ X (.type T) r)(hg:Gl X x)(hm:X.mg x=none)(hv:bootBuiltins x=some (.type T))(ha:PA X (e::es) t)(hn:x≠"__name__":=by decide)(hdb:(x == ("__debug__" : Str))=false:=by decide)
  (he:starEach (e::es) X.env=(false,eval e X.env)::starEach es X.env:=by rfl) (hpl:(backTo pos (starEach es X.env)).any (·.1)=false:=by rfl):PE X (.Call (.Name x p) (e::es) [] pos) (tCB r t):=by
 intro pS s Y H Q I h;refine wpAny_Call_Name_kw (zeD I hg hm hv ?_ hn hdb);exact PyProof.Rows.callWith_type1 (thn (ha pos pS s Y H _ I h) λus s1 ⟨vs,H1,I1,r1,q1⟩=>hc pS s1 Y H1 vs us Q I1 r1 q1) he hpl
end
end L2
namespace HT
open PySem PyProof.Rows
section
open PySem.SeqAt
open PySem.AutoSeq1 (wpAny_loadPart')
open PySem.MeetsSeq PySem.MeetsSeq2 PySem.MeetsSeq3
end
section
variable{prog:Program}{w:World}{A:Around}{E:Value->Shared->Prop}{s:Shared}
theorem cat_tup{t b:Addr}{vs ws:List Value}{Q:Value->Shared->Prop}(ht:IsTup s.heap t vs.toArray)(hb:IsTup s.heap b ws.toArray)(hv:vs≠[])
  (h1:ws=[]->Q (.ref t) s) (h2:ws≠[]->Q (.ref s.heap.objs.size) { s with heap:=s.heap.push { cls:=.type "tuple",data:=.seq (vs++ws).toArray } })
  (hsz:vs.length+ws.length<=sizeLine):wpAny (model prog w) A (binaryOp .Add (.ref t) (.ref b)) Q E s:=by
 obtain ⟨⟨cls,dd,data,sl⟩,ho,hc,n,hd⟩:=id ht;obtain ⟨⟨cls2,dd2,data2,sl2⟩,ho2,hc2,n2,hd2⟩:=id hb;simp only at hc hd hc2 hd2;subst hc hd hc2 hd2;have e:vs.toArray++ws.toArray=(vs++ws).toArray:=by simp
 by_cases hw:ws=[]
 ·exact concat_meets ⟨_,ho,rfl⟩ ⟨_,ho2,rfl⟩ noFill_tuple_add seq_tuple_add PySem.F.slot_tuple_add PySem.F.entry_tuple_add (PySem.F.args_tuple_add_2 _ _)
   (tuple_addW1 t b vs.toArray ws.toArray n n2 dd dd2 sl sl2 (by simpa using hv) (by simp[hw])) ⟨ho,ho2,h1 hw⟩
 ·refine concat_meets ⟨_,ho,rfl⟩ ⟨_,ho2,rfl⟩ noFill_tuple_add seq_tuple_add PySem.F.slot_tuple_add PySem.F.entry_tuple_add (PySem.F.args_tuple_add_2 _ _)
   (tuple_addW2 t b vs.toArray ws.toArray n n2 dd dd2 sl sl2 (by simpa using hv) (by simpa using hw) (by rw[List.size_toArray,List.size_toArray];exact hsz)) ⟨ho,ho2,?_⟩
  rw[e];exact h2 hw
def sIx(n d:Nat):Option Int->Nat
 |none=>d
 |some v=>if v<0 then (v+(n:Int)).toNat else min v.toNat n
theorem sIx_none(n d:Nat):sIx n d none=d:=rfl
theorem sIx_nat(n d k:Nat):sIx n d (some (k:Int))=min k n:=by show (if (k:Int)<0 then ((k:Int)+(n:Int)).toNat else min (k:Int).toNat n)=min k n;rw[if_neg xwl,Int.toNat_natCast]
theorem zwm(n d:Nat)(hd:d<=n)(o:Option Int):sIx n d o<=n:=by
 cases o with
 |none=>exact hd
 |some v =>
  show (if v<0 then (v+(n:Int)).toNat else min v.toNat n)<=n;by_cases hv:v<0
  ·rw[if_pos hv];lia
  ·rw[if_neg hv];exact Nat.min_le_right _ _
theorem zp3(v:Int)(n d:Nat):(if v<0 then max (v+(n:Int)) 0 else min v (n:Int))=((sIx n d (some v):Nat):Int):=by
 show (if v<0 then max (v+(n:Int)) 0 else min v (n:Int))=(((if v<0 then (v+(n:Int)).toNat else min v.toNat n):Nat):Int)
 by_cases hv:v<0
 ·simp only[if_pos hv];lia
 ·simp only[if_neg hv];lia
theorem zoz(lo hi:Option Int)(n:Nat):Builtin.Slice.sliceAdjust lo hi 1 (n:Int)=(((sIx n 0 lo:Nat):Int),((sIx n n hi:Nat):Int)):=by
 have h1:¬ ((1:Int)<0):=by lia
 unfold Builtin.Slice.sliceAdjust;simp only[h1,if_false];refine Prod.ext ?_ ?_
 ·cases lo with
  |none=>rfl
  |some v=>exact zp3 v n 0
 ·cases hi with
  |none=>rfl
  |some v=>exact zp3 v n n
theorem zoH(i j:Nat):Builtin.Slice.slicePlaces (i:Int) (j:Int) 1=j-i:=by
 unfold Builtin.Slice.slicePlaces;have h1:(1:Int) > 0:=by lia
 simp only[h1,if_true,Int.ediv_one];split <;> lia
theorem zjN{v:Value}{o:Option Int}{Q:Option Int->Shared->Prop}(p:IsPart v o)(h:Q o s):wpAny (model prog w) A (Builtin.Slice.slicePartIndex v) Q E s:=by
 cases p with
 |none=>exact slicePart_none h
 |int i t=>exact slicePart_int h
theorem sliceApplied_gen{sl:Addr}{vl vu:Value}{lo hi:Option Int}{n:Nat}{Q:Int×Int×Nat->Shared->Prop}(hs:s.heap.IsSliceOf sl vl vu .none)(pl:IsPart vl lo)(pu:IsPart vu hi)
  (h:Q (((sIx n 0 lo:Nat):Int),1,sIx n n hi-sIx n 0 lo) s):wpAny (model prog w) A (Builtin.Slice.sliceApplied (.ref sl) (pure (n:Int))) Q E s:=by
 obtain ⟨os,hos,hcs,hds⟩:=id hs;unfold Builtin.Slice.sliceApplied Builtin.Slice.sliceFields;refine wab (wab (wpAny_field hos hds (x:=vl) rfl (wab (wpAny_field hos hds (x:=vu) rfl (wab (wpAny_field hos hds (x:=.none) rfl (wad ?_)))))));refine wab (slicePart_none ?_);show wpAny _ _ (if ((1:Int) == 0)=true then _ else _) _ _ s;rw[if_neg xwd];refine wab (zjN pl (wab (zjN pu (wab (wad ?_)))));show wpAny _ _ (match Builtin.Slice.sliceAdjust lo hi 1 (n:Int) with|(lo,hi)=>pure (lo,(1:Int),Builtin.Slice.slicePlaces lo hi 1)) _ _ s;rw[zoz lo hi n];show wpAny _ _ (pure (((sIx n 0 lo:Nat):Int),(1:Int),Builtin.Slice.slicePlaces ((sIx n 0 lo:Nat):Int) ((sIx n n hi:Nat):Int) 1)) _ _ s;rw[zoH];exact wad h
theorem zsU(xs:Array Value)(i k:Nat):((List.range k).filterMap λ(m:Nat)=>xs[((i:Int)+(m:Int) * 1).toNat]?).toArray=((xs.toList.drop i).take k).toArray:=by
 have e:(λ(m:Nat)=>xs[((i:Int)+(m:Int) * 1).toNat]?)=λm=>xs[i+m]? := by
  funext m;have:((i:Int)+(m:Int) * 1).toNat=i+m:=by lia
  rw[this]
 rw[e];have:=pick_run xs i k;rw[List.filterMap_map] at this;have e2:((λx=>xs[x]?) ∘ λx=>i+x)=λm=>xs[i+m]? := rfl;rw[e2] at this;rw[this]
theorem getItem_tuple_cut{t sl:Addr}{items:Array Value}{vl vu:Value}{lo hi:Option Int}{Q:Value->Shared->Prop}(ht:IsTup s.heap t items)(hs:s.heap.IsSliceOf sl vl vu .none)(pl:IsPart vl lo)(pu:IsPart vu hi)
  (hw:¬ (sIx items.size 0 lo=0/\sIx items.size items.size hi=items.size))
  (h:Q (.ref s.heap.objs.size) { s with heap:=s.heap.push { cls:=.type "tuple",data:=.seq ((items.toList.drop (sIx items.size 0 lo)).take (sIx items.size items.size hi-sIx items.size 0 lo)).toArray } })
  (hsz:items.size<=sizeLine):wpAny (model prog w) A (getItem (.ref t) (.ref sl)) Q E s:=by
 have htake:sizeOk (.seq ((items.toList.drop (sIx items.size 0 lo)).take (sIx items.size items.size hi-sIx items.size 0 lo)).toArray):=by show ((items.toList.drop (sIx items.size 0 lo)).take (sIx items.size items.size hi-sIx items.size 0 lo)).toArray.size<=sizeLine;rw[List.size_toArray,List.length_take,List.length_drop,Array.length_toList];lia
 have hj:sIx items.size items.size hi<=items.size:=zwm _ _ (wal _) hi;obtain ⟨os,hos,hcs,hds⟩:=id hs;have hTs:s.TypeIs (.ref sl) "slice":=⟨os,hos,hcs⟩
 unfold getItem
 try with_reducible refine wpAny_holding ?_
 first|refine wab (wad ?_)|skip
 refine wab (wpAny_sequenceKey ht.typeIs xwd ?_);refine wab (wpAny_callSpecial?_slot (name:=Str.ofString "__getitem__") ht.typeIs PyProof.Rows.slot_tuple_getitem
  (wpAny_call_entry PyProof.Rows.slot_tuple_getitem ht.typeIs entry_tuple_getitem ?_ (args_tuple_getitem _ _)))
 show wpAny _ _ (Builtin.Tuple.tupleItemsOf (.ref t) >>= _) _ _ s;refine wab (tupleItemsOf_ ht ?_);refine wab (wpAny_typeOf hTs ?_);rw[if_pos xwd];refine wab (sliceApplied_gen hs pl pu ?_);have hno:¬ ((((sIx items.size 0 lo:Nat):Int) == 0 && (1:Int) == 1 && (sIx items.size items.size hi-sIx items.size 0 lo) == items.size)=true):=by intro q;rw[Bool.and_eq_true,Bool.and_eq_true] at q;have q1:((sIx items.size 0 lo:Nat):Int)=0:=eq_of_beq q.1.1;have q2:sIx items.size items.size hi-sIx items.size 0 lo=items.size:=eq_of_beq q.2;exact hw ⟨xwl,xwo⟩
 show wpAny _ _ (if (((sIx items.size 0 lo:Nat):Int) == 0 && (1:Int) == 1 && (sIx items.size items.size hi-sIx items.size 0 lo) == items.size)=true then _ else _) _ _ s;rw[if_neg hno,zsU]
 first
  |exact wab (m:=Builtin.Tuple.tupleExact _) (wpAny_newObj_type (wad ⟨_,rfl,wad h⟩) htake)
  |exact wab (m:=Builtin.Tuple.tupleExact _) (wpAny_newObj_type (wab (wad (wad ⟨_,rfl,wad h⟩))) htake)
  |exact wab (wab (m:=Builtin.Tuple.tupleExact _) (wpAny_newObj_type (wad (wad ⟨_,rfl,wad h⟩)) htake))
  |exact wab (wab (m:=Builtin.Tuple.tupleExact _) (wpAny_newObj_type (wad ⟨_,rfl,wad h⟩) htake))
end
end HT
namespace L2
open PySem PySem.Spec PyProof.Rows
abbrev TO:=St->Hp->(Option Int->Hp->Prop)->Prop
def PO(X:Cx)(e:Option Expr)(t:TO):Prop :=
 ∀(pS:List (Addr×Obj))(s:Shared)(Y:St)(H:Hp)(Q:Option Int->Hp->Prop),Inv X pS Y H s->t Y H Q ->
  wpAny (model X.prog X.w) X.A (evalPart e X.env) (λu s'=>∃ o H',Inv X pS Y H' s'/\IsPart u o/\Q o H') X.xe s
def zvK:TO:=λ_ H Q=>Q none H
def zyh(t:TE):TO:=λY H Q=>t Y H λx H1=>∃ i,x=.int i/\Q (some i) H1
theorem intsAre_of{ns:List Int}:∀{us:List Value},zbf (ns.map V.int) us->IntsAre us ns:=by
 induction ns with
 |nil=>intro us r;rw[List.map_nil] at r;cases r;exact .nil
 |cons n ns ih =>
  intro us r;rw[List.map_cons] at r;cases r with
  |cons r1 r2 =>
   obtain ⟨t,e⟩:=r1;subst e;exact .cons n t (ih r2)
section
variable{X:Cx}{e:Expr}{te:TE}{lo hi:Option Expr}{tl th:TO}{pos p2:Pos}
theorem zu6:PO X none zvK:=by intro pS s Y H Q I h;rw[evalPart_none];exact wad ⟨none,H,I,.none,h⟩
theorem zuB(h:PE X e te):PO X (some e) (zyh te):=by intro pS s Y H Q I hw;rw[evalPart_some];refine thn (h pS s Y H _ I hw) λu s1 ⟨x,H1,I1,r1,q1⟩=>?_;obtain ⟨i,rfl,q⟩:=q1;obtain ⟨t,rfl⟩:=r1;exact ⟨some i,H1,I1,.int i t,q⟩
def SlR(X:Cx)(r:V->Option Int->Option Int->Hp->VK->Prop):Prop :=
 ∀(pS:List (Addr×Obj))(s:Shared)(Y:St)(H:Hp)(x:V)(v vl vu:Value)(lo hi:Option Int)(sl:Addr)(Q:VK),Inv X pS Y H s->zcs x v->s.heap.IsSliceOf sl vl vu .none->IsPart vl lo->IsPart vu hi->r x lo hi H Q ->
  ∃ T id,typeLookup (.type T) "__getitem__"=pure (some (.builtin id))/\s.TypeIs v T/\wpAny (model X.prog X.w) X.A (getItem v (.ref sl)) (EP X pS Y Q) X.xe s
theorem SlR.or{r r':V->Option Int->Option Int->Hp->VK->Prop}(h:SlR X r)(h':SlR X r'):SlR X (λx lo hi H Q=>r x lo hi H Q\/r' x lo hi H Q):=by
 intro pS s Y H x v vl vu lo hi sl Q I rx hs pl pu q;rcases q with q|q
 ·exact h pS s Y H x v vl vu lo hi sl Q I rx hs pl pu q
 ·exact h' pS s Y H x v vl vu lo hi sl Q I rx hs pl pu q
def tSl(r:V->Option Int->Option Int->Hp->VK->Prop)(te:TE)(tl th:TO):TE:=λY H Q=>te Y H λx H1=>tl Y H1 λl H2=>th Y H2 λu H3=>r x l u H3 Q
theorem zop{r:V->Option Int->Option Int->Hp->VK->Prop}(hr:SlR X r)(he:PE X e te)(hl:PO X lo tl)(hu:PO X hi th):PE X (.Subscript e (.Slice lo hi none p2) pos) (tSl r te tl th):=by intro pS s Y H Q I h;refine Subscript_ (thn (he pS s Y H _ I h) λv s1 ⟨x,H1,I1,r1,q1⟩=>?_);refine wpAny_Slice (thn (hl pS s1 Y H1 _ I1 q1) λvl s2 ⟨l,H2,I2,pl,q2⟩=>thn (hu pS s2 Y H2 _ I2 q2) λvu s3 ⟨u,H3,I3,pu,q3⟩=>?_);rw[evalPart_none];refine wad ?_;have I4:Inv X pS Y H3 { s3 with heap:=s3.heap.push { cls:=.type "slice",data:=.fields #[vl,vu,.none] } }:=I3.kept (t':=s3.toks) λb ob q=>waa _ q;obtain ⟨T,id,hT,ht,hg⟩:=hr pS { s3 with heap:=s3.heap.push { cls:=.type "slice",data:=.fields #[vl,vu,.none] } } Y H3 x v vl vu l u s3.heap.objs.size Q I4 r1 (Heap.IsSliceOf.new ..) pl pu q3;show wpAny (model X.prog X.w) X.A (subscriptTail e (.Slice lo hi none p2) v (.ref s3.heap.objs.size)) (EP X pS Y Q) X.xe { s3 with heap:=s3.heap.push { cls:=.type "slice",data:=.fields #[vl,vu,.none] } };exact tail_any (ops:=[.ref s3.heap.objs.size,v]) ht hT hg (by with_unfolding_all rfl)
def zpl(xs:List V)(lo hi:Option Int):List V:=(xs.drop (HT.sIx xs.length 0 lo)).take (HT.sIx xs.length xs.length hi-HT.sIx xs.length 0 lo)
theorem zhU(xs:List V)(lo hi:Option Int):(zpl xs lo hi).length<=xs.length:=by unfold zpl;rw[List.length_take,List.length_drop];lia
def rSlT(K:W.Frag):V->Option Int->Option Int->Hp->VK->Prop:=λx lo hi H Q=>∃ a xs,x=.ref a/\SqT K H a xs /\
 ¬ (HT.sIx xs.length 0 lo=0/\HT.sIx xs.length xs.length hi=xs.length)/\∀ p,H p=none->Q (.ref p) (upd H p (.tup (zpl xs lo hi)))
theorem zw6:SlR X (rSlT X.K):=by
 intro pS s Y H x v vl vu lo hi sl Q I rx hs pl pu h;obtain ⟨a,xs,rfl,hx,hw,q⟩:=h;cases rx;obtain ⟨its,r,ht,hz⟩:=I.tuple hx;have hlen:its.toArray.size=xs.length:=by rw[List.size_toArray];exact r.length.symm
 refine ⟨"tuple",_,PyProof.Rows.slot_tuple_getitem.lookup,ht.typeIs,?_⟩;refine HT.getItem_tuple_cut ht hs pl pu (by rw[hlen];exact hw) ?_ (by rw[hlen];exact hz);rw[hlen];refine ⟨.ref s.heap.objs.size,_,I.laid (t':=s.toks) (o:=.tup (zpl xs lo hi)) (λb ob q=>waa _ q) (wal _) ?_,rfl,q _ (I.hok.fresh (wal _))⟩;exact ⟨waN (zhU xs lo hi) hz,_,(r.drop (HT.sIx xs.length 0 lo)).take (HT.sIx xs.length xs.length hi-HT.sIx xs.length 0 lo),_,waj _ rfl⟩
def zxU(K:W.Frag):R2:=λx y H Q=>∃ a b xs ys,x=.ref a/\y=.ref b/\SqT K H a xs/\SqT K H b ys/\xs≠[]/\xs.length+ys.length<=sizeLine /\
 (ys=[]->Q (.ref a) H)/\(ys≠[]->∀ p,H p=none->Q (.ref p) (upd H p (.tup (xs++ys))))
theorem zbf.nil_iff{xs:List V}{us:List Value}(r:zbf xs us):us=[] ↔ xs=[]:=by
 cases r with
 |nil=>simp
 |cons _ _=>simp
theorem zv8:OpR X (binaryOp .Add) (zxU X.K):=by intro pS s Y H x y v u Q I rx ry h;obtain ⟨a,b,xs,ys,rfl,rfl,ha,hb,hx,hz,q1,q2⟩:=h;cases rx;cases ry;obtain ⟨its,r1,p1,_⟩:=I.tuple ha;obtain ⟨its2,r2,p2,_⟩:=I.tuple hb;refine HT.cat_tup p1 p2 (λz=>hx (r1.nil_iff.mp z)) (λz=>⟨.ref a,H,I,rfl,q1 (r2.nil_iff.mp z)⟩) (λz=>?_) (by rw[<- r1.length,<- r2.length];exact hz);refine ⟨.ref s.heap.objs.size,_,I.laid (t':=s.toks) (o:=.tup (xs++ys)) (λb ob q=>waa _ q) (wal _) ?_,rfl,q2 (λw=>z (r2.nil_iff.mpr w)) _ (I.hok.fresh (wal _))⟩;exact ⟨by rw[List.length_append];exact hz,_,r1.append r2,_,waj _ rfl⟩
end
end L2
namespace L2
open PySem PySem.Spec PyProof.Rows
def ixN(n:Nat)(i:Int):Option Nat:=if 0<=i then (if i<n then some i.toNat else none) else if -(n:Int)<=i then some (i+n).toNat else none
def atI{α:Type}(xs:List α)(i:Int):Option α:=(ixN xs.length i).bind λj=>xs[j]?
theorem zm5{n:Nat}{i:Int}{j:Nat}(h:ixN n i=some j):seqIndex? i n=some j/\j<n/\-(n:Int)<=i/\i<n:=by
 unfold ixN at h;by_cases h0:0<=i
 ·rw[if_pos h0] at h;by_cases h1:i<n
  ·rw[if_pos h1] at h;have e:i.toNat=j:=waA h;exact ⟨by rw[seqIndex_of h0 h1,e],xwl,xwo,h1⟩
  ·rw[if_neg h1] at h;cases h
 ·rw[if_neg h0] at h;by_cases h1:-(n:Int)<=i
  ·rw[if_pos h1] at h;have e:(i+n).toNat=j:=waA h;exact ⟨by rw[seqIndex_neg xwl h1,e],xwo,h1,xwo⟩
  ·rw[if_neg h1] at h;cases h
theorem zq0{α:Type}{xs:List α}{i:Int}{v:α}(h:atI xs i=some v):∃ j,seqIndex? i xs.length=some j/\xs[j]? = some v/\j<xs.length/\-(xs.length:Int)<=i/\i<xs.length:=by
 unfold atI at h;cases e:ixN xs.length i with
 |none=>rw[e] at h;cases h
 |some j =>
  rw[e] at h;obtain ⟨h1,h2,h3,h4⟩:=zm5 e;exact ⟨j,h1,h,h2,h3,h4⟩
theorem zgA{α:Type}{xs:List α}{j:Nat}{v:α}(h:xs[j]? = some v):atI xs (j:Int)=some v:=by
 have hj:j<xs.length:=(wam.mp h).1;have e:ixN xs.length (j:Int)=some j:=by unfold ixN;rw[if_pos xwl,if_pos xwo];simp
 unfold atI;rw[e];exact h
theorem zhx{α:Type}(xs:List α)(v:α):atI (xs++[v]) (-1)=some v:=by
 have hl:(xs++[v]).length=xs.length+1:=by simp
 have e:ixN (xs++[v]).length (-1)=some xs.length:=by unfold ixN;rw[hl,if_neg xwd,if_pos xwl];congr 1;lia
 unfold atI;rw[e];show (xs++[v])[xs.length]? = some v;simp
def zk4(b:Expr):Prop:=∀ o i,subscripted b false o i=operate [o,i] (getItem o i)
def IxR(X:Cx)(r:R2):Prop :=
 ∀(value slice:Expr)(pS:List (Addr×Obj))(s:Shared)(Y:St)(H:Hp)(x y:V)(v u:Value)(Q:VK),Inv X pS Y H s->zcs x v->zcs y u->r x y H Q ->
  subscripted slice false v u=operate [v,u] (getItem v u)->wpAny (model X.prog X.w) X.A (subscriptTail value slice v u) (EP X pS Y Q) X.xe s
def MtR(X:Cx)(id:String)(r:V->List V->Hp->VK->Prop):Prop :=
 ∀(pS:List (Addr×Obj))(s:Shared)(Y:St)(H:Hp)(x:V)(xs:List V)(v:Value)(us:List Value)(Q:VK),Inv X pS Y H s->zcs x v->zbf xs us->r x xs H Q ->
  wpAny (model X.prog X.w) X.A (call (.builtin id) (v::us)) (EP X pS Y Q) X.xe s
section
variable{X:Cx}{a b:Expr}{ta tb:TE}{pos:Pos}
theorem IxR.or{r r':R2}(h:IxR X r)(h':IxR X r'):IxR X (λx y H Q=>r x y H Q\/r' x y H Q):=by
 intro value slice pS s Y H x y v u Q I rx ry q hs;rcases q with q|q
 ·exact h value slice pS s Y H x y v u Q I rx ry q hs
 ·exact h' value slice pS s Y H x y v u Q I rx ry q hs
theorem MtR.or{id:String}{r r':V->List V->Hp->VK->Prop}(h:MtR X id r)(h':MtR X id r'):MtR X id (λx xs H Q=>r x xs H Q\/r' x xs H Q):=by
 intro pS s Y H x xs v us Q I rx rs q;rcases q with q|q
 ·exact h pS s Y H x xs v us Q I rx rs q
 ·exact h' pS s Y H x xs v us Q I rx rs q
theorem zvA{r:R2}(hr:IxR X r)(ha:PE X a ta)(hb:PE X b tb)(hs:zk4 b):PE X (.Subscript a b pos) (tOp r ta tb):=by intro pS s Y H Q I h;exact Subscript_ (zyy ha hb I h λv u s2 x y H2 I2 rx ry q=>hr a b pS s2 Y H2 x y v u Q I2 rx ry q (hs _ _))
def rIxL(K:W.Frag):R2:=λx y H Q=>∃ p xs i v,x=.ref p/\y=.int i/\SqL K H p xs/\atI xs i=some v/\Q v H
def rIxT(K:W.Frag):R2:=λx y H Q=>∃ p xs i v,x=.ref p/\y=.int i/\SqT K H p xs/\atI xs i=some v/\Q v H
theorem zm4:IxR X (rIxL X.K):=by
 intro value slice pS s Y H x y v u Q I rx ry h hs;obtain ⟨p,xs,i,z,rfl,rfl,hq,he,q⟩:=h;cases rx;obtain ⟨t,rfl⟩:=ry;obtain ⟨its,r,pl,hz⟩:=I.list hq;obtain ⟨j,h1,h2,h3,h4,h5⟩:=zq0 he;obtain ⟨w,ew,rw'⟩:=r.get h2;have hl:=r.length;have hn:=zlN;have fin:EP X pS Y Q w s:=⟨z,H,I,rw',q⟩
 by_cases h0:0<=i
 ·have hj:i.toNat=j:=by rw[seqIndex_of h0 h5] at h1;exact waA h1
  exact item_listR pl.isList h0 xwl (by rw[hj];simpa using ew) fin hs
 ·have hj:(i+(its.toArray.size:Int)).toNat=j:=by rw[seqIndex_neg xwl h4] at h1;rw[List.size_toArray,<- hl];exact waA h1
  exact subscriptTail_builtinR (x:=w) pl.isList.typeIs slot_list_getitem.lookup
   (wpAny_getItem_list_neg (Q:=λr s'=>r=w/\EP X pS Y Q r s') pl.isList xwl (by rw[List.size_toArray] <;> omega) xwo (by rw[hj];simpa using ew) ⟨rfl,fin⟩) hs
theorem zwT:IxR X (rIxT X.K):=by
 intro value slice pS s Y H x y v u Q I rx ry h hs;obtain ⟨p,xs,i,z,rfl,rfl,hq,he,q⟩:=h;cases rx;obtain ⟨t,rfl⟩:=ry;obtain ⟨its,r,pl,hz⟩:=I.tuple hq;obtain ⟨j,h1,h2,h3,h4,h5⟩:=zq0 he;obtain ⟨w,ew,rw'⟩:=r.get h2;have hl:=r.length;have hn:=zlN;have fin:EP X pS Y Q w s:=⟨z,H,I,rw',q⟩
 exact subscriptTail_builtinR (x:=w) pl.typeIs slot_tuple_getitem.lookup
  (getItem_tuple (j:=j) (Q:=λr s'=>r=w/\EP X pS Y Q r s') pl xwl xwo (by rw[List.size_toArray,<- hl];exact h1) (by simpa using ew) ⟨rfl,fin⟩) hs
theorem zoL(its:List Value)(n j:Nat)(u:Value):Obj.mapSeq (·.setIfInBounds j u) { cls:=.type "list",data:=.seq its.toArray n }={ cls:=.type "list",data:=.seq (its.set j u).toArray n }:=by simp[Obj.mapSeq]
theorem Inv.lst{pS:List (Addr×Obj)}{Y:St}{H:Hp}{s:Shared}{p:Addr}{xs:List V}(I:Inv X pS Y H s)(h:H p=some (.lst xs)) :
  ∃(its:List Value)(n:Nat),zbf xs its/\s.heap.get? p=some { cls:=.type "list",data:=.seq its.toArray n }/\xs.length<=sizeLine:=by
 obtain ⟨z,its,n,r,e⟩:=I.hok p _ h;exact ⟨its,n,r,e,z⟩
theorem Inv.lstUpd{pS:List (Addr×Obj)}{Y:St}{H:Hp}{s:Shared}{p:Addr}{xs ys:List V}{its its':List Value}{n n':Nat}{f:Obj->Obj}(I:Inv X pS Y H s)(h:H p=some (.lst xs))
  (ho:s.heap.get? p=some { cls:=.type "list",data:=.seq its.toArray n }) (hf:f { cls:=.type "list",data:=.seq its.toArray n }={ cls:=.type "list",data:=.seq its'.toArray n' }) (r:zbf ys its') (hz:ys.length<=sizeLine) (t:Nat) :
  Inv X pS Y (upd H p (.lst ys)) { s with heap:=s.heap.update p f,toks:=t }:=by
 have e:(s.heap.update p f).get? p=some { cls:=.type "list",data:=.seq its'.toArray n' }:=by rw[Heap.get?_update_self f ho (by rw[hf] <;> rfl),hf]
 refine I.write (x:=p) (e:=p) (by rw[h];trivial) (.inl rfl) (λb u hb q=>(Heap.get?_update_other _ _ (Ne.symm hb)).trans q) ⟨_,e⟩ ?_;exact ⟨hz,its',n',r,e⟩
def zyv:V->V->V->Hp->(Hp->Prop)->Prop:=λo i v H Q=>∃ p xs k j,o=.ref p/\i=.int k/\H p=some (.lst xs)/\ixN xs.length k=some j/\Q (upd H p (.lst (xs.set j v)))
theorem zsK:PSet X zyv:=by
 intro pS s Y H o i v ov iv u Q I ro ri rv h;obtain ⟨p,xs,k,j,rfl,rfl,hp,hj,q⟩:=h;cases ro;obtain ⟨t,rfl⟩:=ri;obtain ⟨its,n,r,ho,hz⟩:=I.lst hp;obtain ⟨h1,h2,h3,h4⟩:=zm5 hj;have hl:=r.length;have hn:=zlN;have I':Inv X pS Y (upd H p (.lst (xs.set j v))) { s with heap:=s.heap.update p (Obj.mapSeq (·.setIfInBounds j u)) } :=
  I.lstUpd hp ho (zoL its n j u) (r.set rv j) (by rw[List.length_set];exact hz) s.toks
 by_cases h0:0<=k
 ·have hk:k.toNat=j:=by rw[seqIndex_of h0 h4] at h1;exact waA h1
  exact W.ki_setAt ho h0 xwl (by rw[List.size_toArray,<- hl];exact h4) (by rw[hk];exact ⟨_,I',q⟩)
 ·have hk:(k+(its.toArray.size:Int)).toNat=j:=by rw[seqIndex_neg xwl h3] at h1;rw[List.size_toArray,<- hl];exact waA h1
  exact W.ki_setBack ho xwl (by rw[List.size_toArray,<- hl];exact h3) xwo (by rw[hk];exact ⟨_,I',q⟩)
theorem zlu(lo hi:Option Int)(n:Nat):(sliceBounds lo hi none n).1=((HT.sIx n 0 lo:Nat):Int)/\(sliceBounds lo hi none n).2.1=((HT.sIx n n hi:Nat):Int)/\(sliceBounds lo hi none n).2.2=1:=by
 refine ⟨?_,?_,rfl⟩
 ·cases lo with
  |none=>simp[sliceBounds,HT.sIx]
  |some i =>
   simp only[sliceBounds,HT.sIx,Option.getD_none,show (1:Int) > 0 by decide,if_true];by_cases h:i<0
   ·simp only[h,if_true] <;> lia
   ·simp only[h,if_false] <;> lia
 ·cases hi with
  |none=>simp[sliceBounds,HT.sIx]
  |some i =>
   simp only[sliceBounds,HT.sIx,Option.getD_none,show (1:Int) > 0 by decide,if_true];by_cases h:i<0
   ·simp only[h,if_true] <;> lia
   ·simp only[h,if_false] <;> lia
theorem zjR(its:List Value)(lo hi:Option Int):slicePick its.toArray lo hi none=((its.drop (HT.sIx its.length 0 lo)).take (HT.sIx its.length its.length hi-HT.sIx its.length 0 lo)).toArray:=by obtain ⟨h1,h2,h3⟩:=zlu lo hi its.toArray.size;unfold slicePick;rw[h1,h2,h3];simp only[sliceRange_one,pick_run,waf] <;> rfl
def rSlL(K:W.Frag):V->Option Int->Option Int->Hp->VK->Prop:=λx lo hi H Q=>∃ a xs,x=.ref a/\SqL K H a xs/\∀ p,H p=none->Q (.ref p) (upd H p (.lst (zpl xs lo hi)))
theorem zui:SlR X (rSlL X.K):=by intro pS s Y H x v vl vu lo hi sl Q I rx hs pl pu h;obtain ⟨a,xs,rfl,hx,q⟩:=h;cases rx;obtain ⟨its,r,ht,hz⟩:=I.list hx;have hlen:=r.length;refine ⟨"list",_,slot_list_getitem.lookup,ht.isList.typeIs,?_⟩;refine wpAny_getItem_list_slice ht.isList hs pl pu .none xws ?_ (by rw[List.size_toArray] <;> lia);rw[zjR,<- hlen];refine ⟨.ref s.heap.objs.size,_,I.laid (t':=s.toks) (o:=.lst (zpl xs lo hi)) (λb ob q=>waa _ q) (wal _) ?_,rfl,q _ (I.hok.fresh (wal _))⟩;exact ⟨waN (zhU xs lo hi) hz,_,0,(r.drop (HT.sIx xs.length 0 lo)).take (HT.sIx xs.length xs.length hi-HT.sIx xs.length 0 lo),waj _ rfl⟩
theorem zfo:zcZ X (.builtin "len") (λxs H Q=>∃ p ys,xs=[.ref p]/\(SqL X.K H p ys\/SqT X.K H p ys)/\Q (.int ys.length) H):=by
 intro pS s Y H xs us Q I r h;obtain ⟨p,ys,rfl,hq,q⟩:=h;obtain ⟨u,rfl,rx⟩:=zf6 r;cases rx;have hn:=zlN;rcases hq with hq|hq
 ·obtain ⟨its,r',pl,hz⟩:=I.list hq;have hlen:=r'.length;exact Calls.call_len_list pl.isList (by simp only[waf] <;> lia) ⟨.int ys.length,H,I.tok _,⟨s.toks+1,by rw[List.size_toArray,hlen]⟩,q⟩
 ·obtain ⟨its,r',pl,hz⟩:=I.tuple hq;have hlen:=r'.length;exact len_tuple pl (by simp only[waf] <;> lia) ⟨.int ys.length,H,I.tok _,⟨s.toks+1,by rw[List.size_toArray,hlen]⟩,q⟩
theorem zgZ:zcZ X (.builtin "len") (λxs H Q=>∃ z,xs=[.str z]/\z.length<=sizeLine/\Q (.int z.length) H):=by intro pS s Y H xs us Q I r h;obtain ⟨z,rfl,hz,q⟩:=h;obtain ⟨u,rfl,t,rfl⟩:=zf6 r;have hn:=zlN;exact len_str xwl ⟨.int z.length,H,I.tok _,⟨_,rfl⟩,q⟩
theorem zcZ.or{f:Value}{r r':List V->Hp->VK->Prop}(h:zcZ X f r)(h':zcZ X f r'):zcZ X f (λxs H Q=>r xs H Q\/r' xs H Q):=by
 intro pS s Y H xs us Q I rs q;rcases q with q|q
 ·exact h pS s Y H xs us Q I rs q
 ·exact h' pS s Y H xs us Q I rs q
theorem zkZ:zcZ X (.type "list") (λxs H Q=>∃ p ys,xs=[.ref p]/\(SqL X.K H p ys\/SqT X.K H p ys)/\∀ l,H l=none->Q (.ref l) (upd H l (.lst ys))):=by
 intro pS s Y H xs us Q I r h;obtain ⟨p,ys,rfl,hq,q⟩:=h;obtain ⟨u,rfl,rx⟩:=zf6 r;cases rx;have fin:∀(its:List Value),zbf ys its->ys.length<=sizeLine->∀(h':Heap)(c':Nat),(∀ b o',s.heap.get? b=some o'->h'.get? b=some o') ->
   h'.get? s.heap.objs.size=some { cls:=.type "list",dict:=none,data:=.seq its.toArray c',slots:=#[] }->EP X pS Y Q (.ref s.heap.objs.size) { s with heap:=h' }:=λits r' hz h' c' kp e =>
  ⟨.ref s.heap.objs.size,_,I.laid (t':=s.toks) kp (wal _) (show zdP X.prog X.w _ h' _ (.lst ys) from ⟨hz,its,c',r',e⟩),rfl,q _ (I.hok.fresh (wal _))⟩
 rcases hq with hq|hq
 ·obtain ⟨its,r',pl,hz⟩:=I.list hq;have hlen:=r'.length;obtain ⟨o,ho,hc,n,hd⟩:=pl.isList;exact call_list_seq p (.inl rfl) ho hc hd (λh' c' kp e=>fin its r' hz h' c' kp e) (by simp only[waf] <;> lia)
 ·obtain ⟨its,r',pl,hz⟩:=I.tuple hq;have hlen:=r'.length;obtain ⟨o,ho,hc,n,hd⟩:=pl;exact call_list_seq p (.inr rfl) ho hc hd (λh' c' kp e=>fin its r' hz h' c' kp e) (by simp only[waf] <;> lia)
theorem zkK:zcZ X (.type "tuple") (λxs H Q=>∃ p ys,xs=[.ref p]/\((SqL X.K H p ys/\∀ l,H l=none->Q (.ref l) (upd H l (.tup ys)))\/(SqT X.K H p ys/\Q (.ref p) H))):=by
 intro pS s Y H xs us Q I r h;obtain ⟨p,ys,rfl,h⟩:=h;obtain ⟨u,rfl,rx⟩:=zf6 r;cases rx;rcases h with ⟨hq,q⟩|⟨hq,q⟩
 ·obtain ⟨its,r',pl,hz⟩:=I.list hq;have hlen:=r'.length;refine call_tuple_list pl.isList (λh' kp=>?_) (by simp only[waf] <;> lia);have I1:Inv X pS Y H { s with heap:=h' }:=I.kept (t':=s.toks) kp;have I2:Inv X pS Y (upd H h'.objs.size (.tup ys)) { s with heap:=h'.push { cls:=.type "tuple",data:=.seq its.toArray } } :=
   I1.laid (t':=s.toks) (λb o e=>waa _ e) (wal _) (show zdP X.prog X.w _ _ _ (.tup ys) from ⟨hz,its,r',_,waj _ rfl⟩)
  exact ⟨.ref h'.objs.size,_,I2,rfl,q _ (I1.hok.fresh (wal _))⟩
 ·obtain ⟨its,r',pl,hz⟩:=I.tuple hq;exact call_tuple_same pl ⟨.ref p,H,I,rfl,q⟩
def tyV(K:W.Frag)(T:String)(x:V)(H:Hp):Prop:=match x with
 |.str _=>T="str"
 |.int _=>T="int"
 |.ref p=>(T="list"/\∃ xs,SqL K H p xs)\/(T="tuple"/\∃ o,K.lookup p=some o/\o.cls=.type "tuple"/\o.dict=none) \/
   (T="dict"/\((∃ kvs,H p=some (.dK kvs))\/∃ kvs,H p=some (.dT kvs)))\/(T="set"/\∃ S n,H p=some (.set S n))
 |_=>False
theorem zwg{pS:List (Addr×Obj)}{Y:St}{H:Hp}{s:Shared}{T:String}{x:V}{v:Value}(I:Inv X pS Y H s)(r:zcs x v)(ty:tyV X.K T x H) :
  s.TypeIs v T/\∀ a,v=.ref a->∃ ob,s.heap.get? a=some ob/\ob.dict=none:=by
 cases x with
 |str z =>
  obtain ⟨t,rfl⟩:=r;cases (show T="str" from ty);exact ⟨typeIs_str s z t,λ_ e=>nomatch e⟩
 |int i =>
  obtain ⟨t,rfl⟩:=r;cases (show T="int" from ty);exact ⟨typeIs_int s i t,λ_ e=>nomatch e⟩
 |ref p =>
  cases r;rcases ty with ⟨rfl,xs,hq⟩|⟨rfl,o,hk,hc,hd⟩|⟨rfl,hk⟩|⟨rfl,S,n,hk⟩
  ·obtain ⟨its,_,pl,_⟩:=I.list hq;refine ⟨pl.isList.typeIs,λa e=>?_⟩;cases e;obtain ⟨o,n,e,c,hd,_⟩:=pl;exact ⟨o,e,hd⟩
  ·refine ⟨⟨o,I.kIn p o hk,hc⟩,λa e=>?_⟩;cases e;exact ⟨o,I.kIn _ o hk,hd⟩
  ·have z:∃ o,s.heap.get? p=some o/\o.ExactDict:=by
    rcases hk with ⟨kvs,hk⟩|⟨kvs,hk⟩
    ·obtain ⟨_,_,_,_,o,_,_,e,ex,_⟩:=I.hok p _ hk;exact ⟨o,e,ex⟩
    ·obtain ⟨_,_,_,_,o,_,_,e,ex,_⟩:=I.hok p _ hk;exact ⟨o,e,ex⟩
   obtain ⟨o,e,ex⟩:=z;refine ⟨⟨o,e,ex.1⟩,λa e2=>?_⟩;cases e2;exact ⟨o,e,ex.2.1⟩
  ·obtain ⟨o,_,_,_,e,ex,_⟩:=I.hok p _ hk;refine ⟨⟨o,e,ex.1⟩,λa e2=>?_⟩;cases e2;exact ⟨o,e,ex.2.1⟩
 |_=>exact waO ty
def tBM(K:W.Frag)(T:String)(r:V->List V->Hp->VK->Prop)(to:TE)(t:TA):TE:=λY H Q=>to Y H λx H1=>tyV K T x H1/\t Y H1 λxs H2=>r x xs H2 Q
variable{o e:Expr}{es:List Expr}{to:TE}{t:TA}{name:Str}{apos cpos:Pos}{T id:String}{r:V->List V->Hp->VK->Prop}
theorem zqA(pa:PlainAttrs T)(slot:Slot T name id)(hty:typeOf (.builtin id)=pure (.type "method_descriptor"))(hm:MtR X id r)(ho:PE X o to)(ha:PA X (e::es) t)
  (hbase:attributeBase o name X.env (eval o X.env)=eval o X.env:=by rfl)
  (hfew:((backTo cpos (starEach (e::es) X.env)).all (λx=>!x.1) && (backToKw cpos (keywordEach [] X.env)).all (λx=>x.1.isSome)
   && decide ((e::es).length+([]:List Keyword).length+(if ([]:List Keyword).isEmpty then 0 else 1)<30))=true:=by rfl)
  (hline:(apos.endLine == cpos.line)=true:=by rfl) (hs:starEach (e::es) X.env=(false,eval e X.env)::starEach es X.env:=by rfl) (hplain:(backTo cpos (starEach es X.env)).any (·.1)=false:=by rfl) :
  PE X (.Call (.Attribute o name apos) (e::es) [] cpos) (tBM X.K T r to t):=by
 intro pS s Y H Q I h;refine wpAny_Call_method_late hbase hfew hline rfl (thn (ho pS s Y H _ I h) λv s1 ⟨x,H1,I1,r1,ty,q1⟩=>?_);obtain ⟨h1,h2⟩:=zwg I1 r1 ty;refine ⟨T,id,pa,slot,hty,h1,h2,?_⟩;have hA:=ha cpos pS s1 Y H1 _ I1 q1;rw[hs] at hA ⊢;refine Calls.callWith_builtin (by show (false || (backTo cpos (starEach es X.env)).any (·.1))=false;rw[hplain] <;> rfl) (Calls.evalArgs_plain ?_);exact thn hA λus s2 ⟨vs,H2,I2,r2,q2⟩=>hm pS s2 Y H2 x vs v us Q I2 r1 r2 q2
end
end L2
namespace L2
open PySem PySem.Spec PyProof.Rows
def MtM(X:Cx)(id:String)(r:V->List V->Hp->VK->Prop):Prop :=
 ∀(pS:List (Addr×Obj))(s:Shared)(Y:St)(H:Hp)(x:V)(xs:List V)(v:Value)(us:List Value)(Q:VK),Inv X pS Y H s->zcs x v->zbf xs us->r x xs H Q ->
  wpAny (model X.prog X.w) X.A (call (.builtin id) (v::us)) (EP X pS Y Q) X.xe s
theorem zbf.one:∀{x:V}{us:List Value},zbf [x] us->∃ u,us=[u]/\zcs x u
 |_,_,.cons r .nil=>⟨_,rfl,r⟩
theorem zbf.two:∀{x y:V}{us:List Value},zbf [x,y] us->∃ u v,us=[u,v]/\zcs x u/\zcs y v
 |_,_,_,.cons r (.cons q .nil)=>⟨_,_,rfl,r,q⟩
theorem zbf.dropLast{xs:List V}{us:List Value}(h:zbf xs us):zbf xs.dropLast us.dropLast:=by
 induction h with
 |nil=>exact .nil
 |cons r t ih =>
  cases t with
  |nil=>exact .nil
  |cons q t'=>exact .cons r ih
theorem zbf.eraseIdx:∀{xs:List V}{us:List Value}(i:Nat),zbf xs us->zbf (xs.eraseIdx i) (us.eraseIdx i)
 |_,_,_,.nil=>.nil
 |_,_,0,.cons _ t=>t
 |_,_,i+1,.cons r t=>.cons r (zbf.eraseIdx i t)
theorem zbf.reverse{xs:List V}{us:List Value}(h:zbf xs us):zbf xs.reverse us.reverse:=by
 induction h with
 |nil=>exact .nil
 |cons r t ih=>rw[List.reverse_cons,List.reverse_cons];exact zbf.append ih (.cons r .nil)
theorem zbf.rep{xs:List V}{us:List Value}(h:zbf xs us):∀ k:Nat,zbf (List.replicate k xs).flatten (List.replicate k us).flatten
 |0=>.nil
 |k+1=>by rw[List.replicate_succ,List.replicate_succ,List.flatten_cons,List.flatten_cons];exact zbf.append h (zbf.rep h k)
theorem zmg{α:Type}:∀(l:List α)(i:Nat),(l.eraseIdx i).length<=l.length
 |[],_=>wal _
 |_::_,0=>Nat.le_succ _
 |_::r,i+1=>Nat.succ_le_succ (zmg r i)
theorem zlI(its:List Value):∀(k:Nat)(acc:List Value),
  List.foldl (λx1 x2=>x1++x2) acc.toArray (List.replicate k its.toArray)=(acc++(List.replicate k its).flatten).toArray
 |0,acc=>by simp
 |k+1,acc=>by
  have e:acc.toArray++its.toArray=(acc++its).toArray:=by simp
  have e2:(acc++its)++(List.replicate k its).flatten=acc++(List.replicate (k+1) its).flatten:=by rw[List.replicate_succ,List.flatten_cons,List.append_assoc]
  rw[<- e2,<- zlI its k (acc++its),<- e,List.replicate_succ,List.foldl_cons]
section
variable{X:Cx}{pS:List (Addr×Obj)}{Y:St}{H:Hp}{s:Shared}{l b:Addr}{xs ys zs:List V}
theorem Inv.lset{its its':List Value}{n:Nat}{f:Array Value->Array Value}{t':Nat}(I:Inv X pS Y H s)(hH:H l=some (.lst xs))
  (e:s.heap.get? l=some { cls:=.type "list",data:=.seq its.toArray n }) (hf:f its.toArray=its'.toArray) (hv:zbf ys its') (hz:ys.length<=sizeLine) :
  Inv X pS Y (upd H l (.lst ys)) { s with heap:=s.heap.update l (Obj.mapSeq f),toks:=t' }:=by
 have q:=PySem.IsL.update e f;rw[hf] at q;refine I.write (x:=l) (e:=l) (by rw[hH];exact trivial) (.inl rfl) (λb' u hb hu=>(Heap.get?_update_other s.heap (Obj.mapSeq f) (Ne.symm hb)).trans hu) ⟨_,q⟩ ?_;exact ⟨hz,its',_,hv,q⟩
theorem Inv.lnew{its:List Value}{t':Nat}(I:Inv X pS Y H s)(hv:zbf ys its)(hz:ys.length<=sizeLine) :
  Inv X pS Y (upd H s.heap.objs.size (.lst ys)) { s with heap:=s.heap.push { cls:=.type "list",data:=.seq its.toArray },toks:=t' } :=
 I.laid (λ_ _ q=>waa _ q) (wal _) ⟨hz,its,0,hv,waj _ rfl⟩
theorem Inv.fresh(I:Inv X pS Y H s):H s.heap.objs.size=none:=I.hok.fresh (wal _)
theorem Inv.lstM(I:Inv X pS Y H s)(hH:H l=some (.lst xs)):xs.length<=sizeLine/\∃(its:List Value)(n:Nat),zbf xs its/\xs.length=its.length/\s.heap.get? l=some { cls:=.type "list",data:=.seq its.toArray n }:=by obtain ⟨z,its,n,r,e⟩:=I.hok l _ hH;exact ⟨z,its,n,r,r.length,e⟩
theorem zkw{n:Nat}(h:n<=sizeLine):Builtin.List.listTooLong n=false:=by unfold Builtin.List.listTooLong;exact waw xwl
end
section
variable{X:Cx}
def zup:V->List V->Hp->VK->Prop:=λx vs H Q=>∃ l xs y,x=.ref l/\vs=[y]/\H l=some (.lst xs)/\xs.length<sizeLine/\Q .non (upd H l (.lst (xs++[y])))
theorem zh9:MtM X "list.append" zup:=by intro pS s Y H x vs v us Q I rx rv h;obtain ⟨l,xs,y,rfl,rfl,hH,hz,q⟩:=h;cases rx;obtain ⟨u,rfl,ru⟩:=rv.one;obtain ⟨z,its,n,r,hl,e⟩:=I.lstM hH;refine call_meets F.slot_list_append ⟨_,e,rfl⟩ F.entry_list_append (F.args_list_append_2 _ _) (PySem.list_append l its.toArray n u (by rw[List.size_toArray];lia)) ⟨e,?_⟩;refine ⟨.non,_,I.lset (its':=its++[u]) hH e xws (r.append (.cons ru .nil)) ?_,rfl,q⟩;rw[List.length_append,List.length_singleton];lia
def zuL:V->List V->Hp->VK->Prop:=λx vs H Q=>∃ l b xs zs,x=.ref l/\vs=[.ref b]/\H l=some (.lst xs)/\H b=some (.lst zs)/\xs.length+zs.length<=sizeLine/\Q .non (upd H l (.lst (xs++zs)))
theorem zqr:MtM X "list.extend" zuL:=by
 intro pS s Y H x vs v us Q I rx rv h;obtain ⟨l,b,xs,zs,rfl,rfl,hH,hB,hz,q⟩:=h;cases rx;obtain ⟨u,rfl,ru⟩:=rv.one;cases ru;obtain ⟨z,its,n,r,hl,e⟩:=I.lstM hH;obtain ⟨z2,its2,n2,r2,hl2,e2⟩:=I.lstM hB;have hsz:its.toArray.size+its2.toArray.size<=sizeLine:=by rw[List.size_toArray,List.size_toArray];lia
 have hlong:¬ (!its.toArray.isEmpty && Builtin.List.listTooLong (its.toArray.size+its2.toArray.size))=true:=by rw[zkw hsz,Bool.and_false];exact Bool.false_ne_true
 refine call_meets F.slot_list_extend ⟨_,e,rfl⟩ F.entry_list_extend (F.args_list_extend_2 _ _)
  (AutoSeq1.list_extend_list_list_0 l its.toArray n b its2.toArray n2 hlong (by rw[List.size_toArray];lia) xwo) ⟨e,e2,?_⟩
 refine ⟨.non,_,I.lset (its':=its++its2) hH e xws (r.append r2) ?_,rfl,q⟩;rw[List.length_append];lia
def zx5:V->List V->Hp->VK->Prop:=λx vs H Q=>∃ l xs i k y,x=.ref l/\vs=[.int i]/\H l=some (.lst xs)/\-(2 ^ 63)<=i/\i<2 ^ 63/\seqIndex? i xs.length=some k/\xs[k]? = some y/\Q y (upd H l (.lst (xs.eraseIdx k)))
theorem zsk:MtM X "list.pop" zx5:=by
 intro pS s Y H x vs v us Q I rx rv h;obtain ⟨l,xs,i,k,y,rfl,rfl,hH,h1,h2,hk,hy,q⟩:=h;cases rx;obtain ⟨u,rfl,ru⟩:=rv.one;obtain ⟨t,rfl⟩:=ru;obtain ⟨z,its,n,r,hl,e⟩:=I.lstM hH;obtain ⟨w,hw,rw'⟩:=r.get hy;refine call_meets F.slot_list_pop ⟨_,e,rfl⟩ F.entry_list_pop (F.args_list_pop_2 _ _)
  (MeetsSeq.list_pop_at l its.toArray n i t k w (fitsIndex_both h1 h2) (by rw[List.size_toArray,<- hl];exact hk) (by rw[<- Array.getElem?_toList];exact hw) (by rw[List.size_toArray];lia)) ⟨e,?_⟩
 refine ⟨y,_,I.lset (its':=its.eraseIdx k) hH e ?_ (r.eraseIdx k) ?_,rw',q⟩
 ·show its.toArray.eraseIdxIfInBounds k=(its.eraseIdx k).toArray;rw[List.eraseIdxIfInBounds_toArray]
 ·have:=zmg xs k;lia
def rCat:R2:=λx y H Q=>∃ l b xs zs,x=.ref l/\y=.ref b/\H l=some (.lst xs)/\H b=some (.lst zs)/\xs.length+zs.length<=sizeLine/\∀ p,H p=none->Q (.ref p) (upd H p (.lst (xs++zs)))
theorem zxd:OpR X (binaryOp .Add) rCat:=by
 intro pS s Y H x y v u Q I rx ry h;obtain ⟨l,b,xs,zs,rfl,rfl,hH,hB,hz,q⟩:=h;cases rx;cases ry;obtain ⟨z,its,n,r,hl,e⟩:=I.lstM hH;obtain ⟨z2,its2,n2,r2,hl2,e2⟩:=I.lstM hB;refine PySem.P.add_list e e2 ?_ (by rw[List.size_toArray,List.size_toArray];lia);have ea:its.toArray++its2.toArray=(its++its2).toArray:=by simp
 rw[ea];exact ⟨.ref _,_,I.lnew (t':=s.toks) (r.append r2) (by rw[List.length_append];lia),rfl,q _ I.fresh⟩
def rRep:R2:=λx y H Q=>∃ l k xs,x=.ref l/\y=.int k/\H l=some (.lst xs)/\-(2 ^ 63)<=k/\k<2 ^ 63/\xs.length * k.toNat<=sizeLine /\
 ∀ p,H p=none->Q (.ref p) (upd H p (.lst (List.replicate k.toNat xs).flatten))
theorem zuJ{α:Type}(xs:List α)(k:Nat):(List.replicate k xs).flatten.length=k * xs.length:=by
 induction k with
 |zero=>simp
 |succ k ih=>rw[List.replicate_succ,List.flatten_cons,List.length_append,ih,Nat.succ_mul,Nat.add_comm]
theorem zww:OpR X (binaryOp .Mult) rRep:=by
 intro pS s Y H x y v u Q I rx ry h;obtain ⟨l,k,xs,rfl,rfl,hH,h1,h2,hz,q⟩:=h;cases rx;obtain ⟨t,rfl⟩:=ry;obtain ⟨z,its,n,r,hl,e⟩:=I.lstM hH;have hlen:its.toArray.size * k.toNat<=sizeLine:=by rw[List.size_toArray,<- hl];exact hz
 have hcap:¬ its.toArray.size * k.toNat > (2 ^ 63-1) / 8:=by
  have:(sizeLine:Nat)<=(2 ^ 63-1) / 8:=by decide
  lia
 have hfit:¬ (!Builtin.List.listFitsIndex k)=true:=by rw[fitsIndex_both h1 h2];exact Bool.false_ne_true
 have hlong:¬ Builtin.List.listTooLong (its.toArray.size * k.toNat)=true:=by rw[zkw hlen];exact Bool.false_ne_true
 have hnew:List.foldl (λx1 x2=>x1++x2) #[] (List.replicate (if its.toArray.isEmpty=true then 0 else k.toNat) its.toArray)=(List.replicate k.toNat its).flatten.toArray:=by
  have f0:∀ m:Nat,List.foldl (λx1 x2=>x1++x2) #[] (List.replicate m its.toArray)=(List.replicate m its).flatten.toArray:=λm=>by have:=zlI its m [];rw[List.nil_append] at this;exact this
  rw[f0];cases its with
  |nil=>simp
  |cons a r'=>rw[if_neg xws]
 refine wpAny_binaryOp_repeat_ref (T:="list") (U:="int") xwd ⟨_,e,rfl⟩ (λs'=>typeIs_int s' k t) noFill_list_mul F.fills_int_mul F.slot_int_rmul repeat_list F.slot_int_index.lookup
  (call_meets F.slot_int_rmul (typeIs_int s k t) F.entry_int_rmul (F.args_int_rmul_2 _ _) (int___rmul___int_list k t l its.toArray n)
   ⟨e,rfl,⟨_,e,rfl⟩,call_meets F.slot_list_mul ⟨_,e,rfl⟩ F.entry_list_mul (F.args_list_mul_2 _ _) (AutoListH.list___mul___list_int_3 l its.toArray n k t hfit hcap hlong) ⟨e,?_⟩⟩)
 rw[hnew];exact ⟨.ref _,_,I.lnew (t':=s.toks) (r.rep k.toNat) (by rw[zuJ,Nat.mul_comm];exact hz),rfl,q _ I.fresh⟩
end
section
variable{prog:Program}{w:World}{A:Around}{E:Value->Shared->Prop}{s:Shared}
set_option maxRecDepth 100000 in
end
section
variable{X:Cx}
end
end L2
namespace Att
open PySem PySem.W PySem.Calls PyProof.Rows
theorem zhG{P:Params}{h:Heap}:∀(ns:List Int)(vs:List Value),WellAll P h vs (ns.map WData.int)->IntsAre vs ns:=by
 intro ns
 induction ns with
 |nil =>
  intro vs w;rw[List.map_nil] at w;cases w;exact .nil
 |cons n ns ih =>
  intro vs w;rw[List.map_cons] at w;cases w with
  |cons a b =>
   cases a;exact .cons _ _ (ih _ b)
theorem zpB{l:OpenLaw}{n:Nat}(hn:l.most=some n){P:Params}{h:Heap}{args:List WData}{vals:List Value}
  (hpre:l.row.toRowW.claim.pre args=true) (hwl:WellAll P h vals args) :
  ∃ a vs ns,vals=[Value.ref a]/\args=[WData.list (ns.map WData.int)]/\h.get? a=some { cls:=.type "list",data:=.seq vs.toArray }/\IntsAre vs ns/\ns.length<=n:=by
 have hsh:WShape.hasAll [] args [.list .int]=true:=(pre_splitW hpre).1;have hc:l.pre.holds [] { args:=args }=true:=(pre_splitW hpre).2;obtain ⟨d,r,rfl,h1,h2⟩:=hasAllW_cons hsh;obtain rfl:=hasAllW_nil h2;obtain ⟨xs,rfl,h3⟩:=hasW_list h1;obtain ⟨ns,rfl⟩:=items_int h3;have hlen:ns.length<=n:=by
  unfold OpenLaw.pre at hc;have h4:(WTm.not (.lt (.lit (.int (n:Int))) (.len (.arg 0)))).holds [] { args:=[.list (ns.map .int)] }=true:=by have h4:=(holds_andW hc).1;rw[hn] at h4;exact h4
  have h5:=condW_of h4 (w_not (w_lt w_lit (w_len_list (w_arg rfl))));rw[List.length_map] at h5;refine Nat.le_of_not_lt λq=>?_;have q':(n:Int)<((ns.length:Nat):Int):=by lia
  first
   | (rw[decide_eq_true q'] at h5;exact absurd h5 xwd)
   | (simp at h5;lia)
 cases hwl with
 |cons w1 w2 =>
  cases w2;cases w1 with
  |list ho hall=>exact ⟨_,_,ns,rfl,rfl,ho,zhG ns _ hall,hlen⟩
theorem zqc(l:OpenLaw)(args:List WData):l.row.toRowW.claim.post args (.bool true) args=true :=
 postW_of (r:=l.row.toRowW) (X:=(true == true))
  (show WShape.has [] (.bool true) .bool=true by first|rfl|decide|simp[WShape.has,WShape.arms,WShape.armsAll])
  (show (WTm.eq .res (.lit (.bool true))).value [] { args:=args,res:=some (.bool true),after:=args }=some (.bool (true == true)) from w_eq_bool (w_res rfl) w_lit) rfl
theorem attach_call{l:OpenLaw}{n:Nat}{q:Program}{loose:List Str}{XP:(Str->Option Value)->Heap->Prop}{YP:World->Heap->Prop}{d:DefRec}
  (hn:l.most=some n) (hdf:d.params.defaults=[])
  (call:∀(w:World)(s₀ s₁:Shared)(mg mb:Str->Option Value)(fa:Addr)(o:Obj)(pm cd doc:Value)(a:Addr)(vs:List Value)(ns:List Int),
   Ground q loose [] XP w s₀ mg mb s₁.heap->YP w s₁.heap ->
   s₁.heap.get? fa=some o->o.data=.func (docDef d.name d.params d.body d.scope pm cd doc)->s₁.heap.CodeRec cd d.name->mg d.name=some (.ref fa) ->
   s₁.heap.get? a=some { cls:=.type "list",data:=.seq vs.toArray }->IntsAre vs ns->ns.length<=n->s₁.gens=#[] ->
   codeAny (model l.prog w) callerA (.call (.ref fa) ⟨[.ref a],[]⟩) (λr s'=>r=.ok (.ret (.bool true))/\OldK s₁.heap s'.heap/\s'.os=s₁.os/\AllBare s'.gens) s₁) :
  WalkO q loose XP YP l.row.toRowW d [] (λf vs=>PySem.call f vs):=by
 intro w s₀ s₁ mg mb G Yq fa o pm cd doc dV kV ho hd hcd hD hmg hg args vals as hpre hlay hrd hwl hlo;obtain rfl:dV=.none:=Dflts.none hD hdf;obtain rfl:kV=.none:=Dflts.noKw hD;obtain ⟨a,vs,ns,rfl,rfl,hobj,hints,hlen⟩:=zpB hn hpre hwl;refine enter_call (codeAny_mono (call w s₀ s₁ mg mb fa o pm cd doc a vs ns G Yq ho (fd_plain hd) hcd hmg hobj hints hlen hg) λr s' hq=>?_);obtain ⟨rfl,h2,h3,h4⟩:=hq;exact ⟨.inl ⟨.bool true,.bool true,[],rfl,λ_=>rfl,.bool true,zqc l _,λ_=>⟨List.Pairwise.nil,λ_ hm=>(nomatch hm)⟩⟩,h2,h3,h4⟩
section
variable{prog:Program}{w:World}{A:Around}{E:Value->Shared->Prop}{s:Shared}{K:Frag}
end
end Att
namespace L2
open PySem PySem.Spec PyProof.Rows
theorem vals_ints:∀{vs:List Value}{ns:List Int},IntsAre vs ns->zbf (ns.map V.int) vs
 |_,_,.nil=>.nil
 |_,_,.cons n t h=>.cons ⟨t,rfl⟩ (vals_ints h)
def zym(H:Hp):Prop:=∀ b,H b=none\/∃ o xs,H b=some (.frz o (.lst xs))
theorem zsS{P:Program}{w:World}{K:W.Frag}{mg mb:Str->Option Value}{CX:CXT}{k:Nat}{fa a:Addr}{fd:FuncData}{x:Str}{sp:Sp}{s₁:Shared}{vs:List Value}{ns:List Int}
  (KX:K.In s₁.heap) (hns:s₁.heap.Ns mainGlobals mg) (hb:s₁.heap.Ns builtinsNs mb) (hbb:∀ x:Str,x≠"__name__"->mb x=bootBuiltins x) (hlim:s₁.heap.NoLimit) (hg:s₁.gens=#[])
  (ha:s₁.heap.get? a=some { cls:=.type "list",data:=.seq vs.toArray }) (hi:IntsAre vs ns) (hl:ns.length<=sizeLine) (hr:zgm k callerA)
  (F:∀ base:Heap,K.In base->base.Ns mainGlobals mg->zgu P w K mg base CX k fa fd [x] sp) (hbind:∀(s:Shared)(u:Value),BindsTo s fd ⟨[u],[]⟩ [(x,u)])
  (hsp:∀ H:Hp,zym H->SqL K H a (ns.map V.int)->sp [.ref a] H (λv _=>v=.bl true) λ_ _ _=>False)
  (hCX:∀ H e s',CX [] H s₁ (λ_ _ _=>False) e s'->False) :
  codeAny (model P w) callerA (.call (.ref fa) ⟨[.ref a],[]⟩) (λr s'=>r=.ok (.ret (.bool true))/\OldK s₁.heap s'.heap/\s'.os=s₁.os/\AllBare s'.gens) s₁:=by
 have rv:=vals_ints hi;have lenV:=hi.length;have core:∀ H:Hp,zym H->SqL K H a (ns.map V.int)->HOk P w H s₁.heap->(∀ b,H b≠none->b=a)->(H a≠none->K.lookup a=none) ->
   codeAny (model P w) callerA (.call (.ref fa) ⟨[.ref a],[]⟩) (λr s'=>r=.ok (.ret (.bool true))/\OldK s₁.heap s'.heap/\s'.os=s₁.os/\AllBare s'.gens) s₁:=by
  intro H hO hS hok hA hK;have base_of:∀{b:Addr}{o:Obj},s₁.heap.get? b=some o->H b=none->(zsa s₁.heap H).get? b=some o:=λe n=>zs9 e n;have noA:∀{b:Addr}{o:Obj}{es:Array DictEntry}{ep:Nat},s₁.heap.get? b=some o->o.data=.dict es ep->H b=none:=λ{b o es ep} e d=>by
   cases q:H b with
   |none=>rfl
   |some u =>
    have e':b=a:=hA b (by rw[q];simp);subst e';rw[ha] at e;cases e;have d':Data.seq vs.toArray _=Data.dict es ep:=d;cases d'
  have nsK:∀{b:Addr}{m:Str->Option Value},s₁.heap.Ns b m->(zsa s₁.heap H).Ns b m:=λ{b m} ⟨o,es,ep,e,d,r⟩=>⟨o,es,ep,base_of e (noA e d),d,r⟩
  have hKb:K.In (zsa s₁.heap H):=λb o e=>base_of (KX b o e) (by
   cases q:H b with
   |none=>rfl
   |some u =>
    have e':b=a:=hA b (by rw[q];simp);subst e';rw[hK (by rw[q];simp)] at e;cases e)
  have hM:Mod K mg (zsa s₁.heap H):=⟨hKb,nsK hns,⟨mb,nsK hb,hbb⟩,let ⟨mc,h1,h2⟩:=hlim;⟨mc,nsK h1,h2⟩⟩
  have e0:zuz P w K mg (zsa s₁.heap H) callerA [] s₁ H:=⟨rfl,hM,λb o e=>zvi e,Nat.le_of_eq (zqw _ _),trivial,λb hb=>absurd (show b∈([]:List Addr) from hb) xws,hok,.of_eq hg⟩
  refine codeAny_mono ((F _ hKb (nsK hns)).run callerA [] s₁ H ⟨[.ref a],[]⟩ [.ref a] [.ref a] _ _ hr e0 (hbind s₁ (.ref a)) (.cons rfl .nil) (hsp H hO hS)) λr s' h=>?_;cases r with
  |error e=>exact (hCX H e s' h).elim
  |ok fl =>
   cases fl with
   |next=>exact waO h
   |brk=>exact waO h
   |cont=>exact waO h
   |ret u =>
    obtain ⟨v,H',os,bare,un,hok',r',q⟩:=h;have q':v=.bl true:=q;subst q';obtain rfl:u=Value.bool true:=r';refine ⟨rfl,OldK.of_keep λb o e=>?_,os,bare⟩;cases q:H b with
    |none=>exact un.keep b o e q (by intro z;exact absurd (show b∈([]:List Addr) from z) xws) xws
    |some u =>
     rcases hO b with z|⟨ob,xs,z⟩
     ·rw[q] at z;cases z
     ·have z2:=un.frzs b ob _ z;obtain ⟨e1,_⟩:=hok b _ z;obtain ⟨e2,_⟩:=hok' b _ z2;rw[e] at e1;cases e1;exact e2
 cases hk:K.lookup a with
 |some o =>
  have e:=KX a o hk;rw[ha] at e;cases e;refine core (λ_=>none) (λ_=>.inl rfl) (.inr ⟨_,vs.toArray,_,hk,rfl,rfl,rfl,by rw[List.size_toArray,lenV];exact hl,by simpa using rv⟩) (λb u z=>by have z':(none:Option HO)=some u:=z;cases z') (λb z=>absurd rfl z) λz=>absurd rfl z
 |none =>
  refine core (λb=>if b=a then some (.frz { cls:=.type "list",data:=.seq vs.toArray } (.lst (ns.map V.int))) else none) (λb=>?_) (.inl (.inr ⟨{ cls:=.type "list",data:=.seq vs.toArray },if_pos rfl⟩)) (λb u z=>?_) (λb z=>?_) λ_=>hk
  ·by_cases hb:b=a
   ·exact .inr ⟨_,_,if_pos hb⟩
   ·exact .inl (if_neg hb)
  ·by_cases hb:b=a
   ·have z':=(if_pos hb).symm.trans z;cases z';subst hb;exact ⟨ha,by rw[List.length_map];exact hl,vs,_,rv,ha⟩
   ·have z':=(if_neg hb).symm.trans z;cases z'
  ·by_cases hb:b=a
   ·exact hb
   ·exact absurd (if_neg hb) z
end L2
namespace L2
open PySem PySem.Spec PyProof.Rows
theorem walk_of{l:W.OpenLaw}{n k:Nat}{q:Program}{loose:List Str}{XP:(Str->Option Value)->Heap->Prop}{YP:World->Heap->Prop}{d:DefRec}{K:Params->W.Frag}{CX:World->CXT}{sp:World->Sp}{x:Str}
  (hn:l.most=some n) (hn2:n<=sizeLine) (hdf:d.params.defaults=[]) (hr:zgm k callerA)
  (hY:∀(w:World)(h:Heap),YP w h->(K w.params).In h)
  (F:∀(w:World)(mg:Str->Option Value)(fa:Addr)(h:Heap),(K w.params).In h->h.Ns mainGlobals mg->mg d.name=some (.ref fa) ->
   ∃ fd:FuncData,(∀(s:Shared)(u:Value),BindsTo s fd ⟨[u],[]⟩ [(x,u)]) /\
    ∀ base:Heap,(K w.params).In base->base.Ns mainGlobals mg->zgu l.prog w (K w.params) mg base (CX w) k fa fd [x] (sp w))
  (hsp:∀(w:World)(H:Hp)(a:Addr)(ns:List Int),ns.length<=n->zym H->SqL (K w.params) H a (ns.map V.int)->sp w [.ref a] H (λv _=>v=.bl true) λ_ _ _=>False)
  (hCX:∀(w:World)(H:Hp)(s:Shared)(e:Value)(s':Shared),CX w [] H s (λ_ _ _=>False) e s'->False) :
  W.WalkO q loose XP YP l.row.toRowW d [] (λf vs=>PySem.call f vs):=by
 refine Att.attach_call hn hdf λw s₀ s₁ mg mb fa o pm cd doc a vs ns G Yq ho hd hcd hmg hobj hints hlen hg=>?_;have KX:=hY w _ Yq;obtain ⟨fd,hb,hF⟩:=F w mg fa _ KX G.T.g hmg;exact zsS KX G.T.g G.T.b G.T.builtins G.T.nolimit hg hobj hints (waN hlen hn2) hr hF hb (λH hO hS=>hsp w H a ns hlen hO hS) λH e s'=>hCX w H s₁ e s'
end L2
namespace L2
open PySem PySem.Spec PyProof.Rows
def zfH(s:Stmt):Arguments:=match s with
 |.FunctionDef _ a _ _ _ _ _ _ _ _=>a
 |_=>{ posonlyargs:=[],args:=[],vararg:=none,kwonlyargs:=[],kw_defaults:=[],kwarg:=none,defaults:=[] }
def zem(s:Stmt):List Stmt:=match s with
 |.FunctionDef _ _ b _ _ _ _ _ _ _=>b
 |_=>[]
def zan(s:Stmt):Scope:=match s with
 |.FunctionDef _ _ _ _ _ _ sc _ _ _=>sc
 |_=>{ kind:=.function,names:=[],isGenerator:=false,isCoroutine:=false }
abbrev CX0:CXT:=λ_ _ _ _ _ _=>False
structure Fun(K:W.Frag)(x qual:Str)(st:Stmt)(f:Addr)(fd:FuncData):Prop where
 ex:∃(oc:Value)(od:Option Addr)(kV doc pm:Value)(an:Option Addr)(cdv ct:Value)(osl:Array (Option Value)),
  fd=W.fnOf x qual (zfH st) (zem st) (zan st) .none kV doc pm an cdv ct/\K.lookup f=some ⟨oc,od,.func fd,osl⟩/\W.codeIn K cdv qual=true
 kp:W.keepIn K (.ref f)=true
section
variable{P:Program}{w:World}{K:W.Frag}{mg:Str->Option Value}{base:Heap}
theorem Fun.ok{x qual:Str}{st:Stmt}{f:Addr}{fd:FuncData}{N ps:List Str}{k:Nat}{sp:Sp}(F:Fun K x qual st f fd)(S:za4 N ps (zan st))(len:∀ vs H Q E,sp vs H Q E->vs.length=ps.length)
  (hbody:∀(cdv:Value)(A:Around)(outer:List Env)(s:Shared)(H:Hp)(vs:List V)(Q:VK)(E:XK),zgm k (A.deeper (envOfC qual (zan st) s.heap.objs.size f cdv))->sp vs H Q E ->
   ∃ t,PSs (zs7 CX0 P w K mg base N qual (zan st) f cdv A outer s H E).nox (zem st) t/\t { nx:=λ_ H'=>Q .non H',rt:=Q } (start N vs) H):zgu P w K mg base CX0 (k+1) f fd ps sp:=by
 obtain ⟨oc,od,kV,doc,pm,an,cdv,ct,osl,rfl,lk,hcd⟩:=F.ex;refine zvQ lk hcd S len λA outer s H vs Q E hr hsp=>?_;obtain ⟨t,h,q⟩:=hbody cdv A outer s H vs Q E hr hsp;exact ⟨t,h.nox,q⟩
theorem Fun.binds{x qual:Str}{st:Stmt}{f:Addr}{fd:FuncData}{ps:List Str}(F:Fun K x qual st f fd)
  (h:∀(kV doc pm:Value)(an:Option Addr)(cdv ct:Value)(us:List Value),us.length=ps.length->bindArgs (W.fnOf x qual (zfH st) (zem st) (zan st) .none kV doc pm an cdv ct) ⟨us,[]⟩=pure (ps.zip us)):zkm K fd ps []:=by
 obtain ⟨oc,od,kV,doc,pm,an,cdv,ct,osl,rfl,lk,hcd⟩:=F.ex;exact .all (h kV doc pm an cdv ct)
theorem ztB{x qual:Str}{st:Stmt}{f:Addr}{oc:Value}{od an:Option Addr}{osl:Array (Option Value)}{kV doc pm cdv ct:Value}(l:K.lookup f=some ⟨oc,od,.func (W.fnOf x qual (zfH st) (zem st) (zan st) .none kV doc pm an cdv ct),osl⟩)
  (c:W.codeIn K cdv qual=true) (k:W.keepIn K (.ref f)=true):Fun K x qual st f (W.fnOf x qual (zfH st) (zem st) (zan st) .none kV doc pm an cdv ct):=⟨⟨oc,od,kV,doc,pm,an,cdv,ct,osl,rfl,l,c⟩,k⟩
end
section
variable{X:Cx}
end
def zdN(H H':Hp):Prop:=∀ b o,H b=some o->H' b=some o
theorem zdN.refl(H:Hp):zdN H H:=λ_ _ h=>h
theorem zdN.trans{H H1 H2:Hp}(a:zdN H H1)(b:zdN H1 H2):zdN H H2:=λc o h=>b c o (a c o h)
theorem zdN.free{H H':Hp}(e:zdN H H'){l:Addr}(h:H' l=Option.none):H l=Option.none:=by
 cases q:H l with
 |none=>rfl
 |some o =>
  rw[e l o q] at h;cases h
theorem zdN.seq{K:W.Frag}{H H':Hp}{a:Addr}{xs:List V}(e:zdN H H')(h:SqL K H a xs):SqL K H' a xs:=by
 rcases h with (h|⟨o,h⟩)|h
 ·exact .inl (.inl (e _ _ h))
 ·exact .inl (.inr ⟨o,e _ _ h⟩)
 ·exact .inr h
end L2
end
section
namespace PV
open PySem PySem.Spec L2
inductive Dt where
 |non|bl (b:Bool)|int (i:Int)|str (x:Str)|tup (l:List Dt)|lst (l:List Dt)|dct (ks:List (Int×Int))|scr (ns:List Int)
inductive B where
 |val (d:Dt)|own (l:List Dt)|own2 (l:List (List Dt))|dic (l:List (Int×Dt))|tab (q:Str)|opq|exc (C:Addr)
abbrev Ev:=List (Option B)
inductive R(α:Type) where
 |ok (a:α)|er (n:Nat)|no
def R.bind{α β:Type}(r:R α)(f:α->R β):R β:=match r with
 |.ok a=>f a
 |.er n=>.er n
 |.no=>.no
@[simp] theorem R.bind_ok {α β:Type} (a:α) (f:α->R β):(R.ok a).bind f=f a:=rfl
@[simp] theorem R.bind_er {α β:Type} (n:Nat) (f:α->R β):(R.er n).bind f=.er n:=rfl
@[simp] theorem R.bind_no {α β:Type} (f:α->R β):(R.no).bind f=.no:=rfl
theorem R.bind_assoc{α β γ:Type}(r:R α)(f:α->R β)(g:β->R γ):(r.bind f).bind g=r.bind λa=>(f a).bind g:=by
 cases r <;> rfl
def zku(K:W.Frag)(H:Hp)(a:Addr)(xs:List V):Prop :=
 H a=some (.tup xs)\/∃(its:Array Value)(n:Nat),K.lookup a=some { cls:=.type "tuple",data:=.seq its n }/\its.size<=sizeLine/\zbf xs its.toList
theorem zku.of{K:W.Frag}{H:Hp}{a:Addr}{xs:List V}(h:H a=some (.tup xs)):zku K H a xs:=.inl h
theorem zku.sq{K:W.Frag}{H:Hp}{a:Addr}{xs:List V}(h:zku K H a xs):SqT K H a xs:=by
 rcases h with h|⟨its,n,h1,h2,h3⟩
 ·exact .inl (.inl h)
 ·exact .inr ⟨_,its,n,h1,rfl,rfl,h2,h3⟩
theorem zku.same{K:W.Frag}{H H':Hp}{a:Addr}{xs:List V}(e:zdN H H')(h:zku K H a xs):zku K H' a xs:=h.elim (λz=>.inl (e _ _ z)) .inr
mutual
def Rep(K:W.Frag)(G:Hp):Dt->V->Prop
 |.non,v=>v=.non
 |.bl b,v=>v=.bl b
 |.int i,v=>v=.int i
 |.str x,v=>v=.str x
 |.tup l,v=>∃ a vs,v=.ref a/\zku K G a vs/\za6 K G l vs
 |.lst l,v=>∃ a vs,v=.ref a/\G a=some (.lst vs)/\za6 K G l vs
 |.dct ks,v=>∃ a,v=.ref a/\G a=some (.dK (ks.map λp=>(.inl p.1,.int p.2)))
 |.scr ns,v=>∃ a,v=.ref a/\SqL K G a (ns.map V.int)
def za6(K:W.Frag)(G:Hp):List Dt->List V->Prop
 |[],vs=>vs=[]
 |d::ds,vs=>∃ v r,vs=v::r/\Rep K G d v/\za6 K G ds r
end
theorem zaO{K:W.Frag}{H H':Hp}{a:Addr}{xs:List V}(e:zdN H H')(h:SqT K H a xs):SqT K H' a xs:=by
 rcases h with (h|⟨o,h⟩)|h
 ·exact .inl (.inl (e _ _ h))
 ·exact .inl (.inr ⟨o,e _ _ h⟩)
 ·exact .inr h
mutual
theorem Rep.same{K:W.Frag}{G G':Hp}(e:zdN G G'):∀{d:Dt}{v:V},Rep K G d v->Rep K G' d v
 |.non,_,h=>by unfold Rep at h ⊢;exact h
 |.bl _,_,h=>by unfold Rep at h ⊢;exact h
 |.int _,_,h=>by unfold Rep at h ⊢;exact h
 |.str _,_,h=>by unfold Rep at h ⊢;exact h
 |.tup l,_,h=>by unfold Rep at h ⊢;obtain ⟨a,vs,h1,h2,h3⟩:=h;exact ⟨a,vs,h1,h2.same e,za6.same e h3⟩
 |.lst l,_,h=>by unfold Rep at h ⊢;obtain ⟨a,vs,h1,h2,h3⟩:=h;exact ⟨a,vs,h1,e _ _ h2,za6.same e h3⟩
 |.dct _,_,h=>by unfold Rep at h ⊢;obtain ⟨a,h1,h2⟩:=h;exact ⟨a,h1,e _ _ h2⟩
 |.scr ns,_,h=>by unfold Rep at h ⊢;obtain ⟨a,h1,h2⟩:=h;exact ⟨a,h1,e.seq h2⟩
theorem za6.same{K:W.Frag}{G G':Hp}(e:zdN G G'):∀{ds:List Dt}{vs:List V},za6 K G ds vs->za6 K G' ds vs
 |[],_,h=>by unfold za6 at h ⊢;exact h
 |d::ds,_,h=>by unfold za6 at h ⊢;obtain ⟨v,r,h1,h2,h3⟩:=h;exact ⟨v,r,h1,Rep.same e h2,za6.same e h3⟩
end
theorem za6.nil{K:W.Frag}{G:Hp}:za6 K G [] []:=by unfold za6;rfl
theorem za6.cons{K:W.Frag}{G:Hp}{d:Dt}{ds:List Dt}{v:V}{vs:List V}(h:Rep K G d v)(t:za6 K G ds vs):za6 K G (d::ds) (v::vs):=by unfold za6;exact ⟨v,vs,rfl,h,t⟩
theorem za6.nil_inv{K:W.Frag}{G:Hp}{vs:List V}(h:za6 K G [] vs):vs=[]:=by unfold za6 at h;exact h
theorem za6.cons_inv{K:W.Frag}{G:Hp}{d:Dt}{ds:List Dt}{vs:List V}(h:za6 K G (d::ds) vs):∃ v r,vs=v::r/\Rep K G d v/\za6 K G ds r:=by unfold za6 at h;exact h
theorem za6.length{K:W.Frag}{G:Hp}:∀{ds:List Dt}{vs:List V},za6 K G ds vs->ds.length=vs.length
 |[],_,h=>by rw[h.nil_inv];rfl
 |d::ds,_,h=>by obtain ⟨v,r,rfl,_,h3⟩:=h.cons_inv;simp[za6.length h3]
theorem za6.get{K:W.Frag}{G:Hp}:∀{ds:List Dt}{vs:List V}{i:Nat}{d:Dt},za6 K G ds vs->ds[i]? = some d->∃ v,vs[i]? = some v/\Rep K G d v
 |[],_,_,_,_,e=>by simp at e
 |d::ds,_,0,_,h,e=>by obtain ⟨v,r,rfl,h2,h3⟩:=h.cons_inv;simp at e;subst e;exact ⟨v,rfl,h2⟩
 |d::ds,_,i+1,_,h,e=>by obtain ⟨v,r,rfl,h2,h3⟩:=h.cons_inv;obtain ⟨u,e1,e2⟩:=za6.get (i:=i) h3 (by simpa using e);exact ⟨u,by simpa using e1,e2⟩
theorem za6.append{K:W.Frag}{G:Hp}:∀{ds es:List Dt}{vs us:List V},za6 K G ds vs->za6 K G es us->za6 K G (ds++es) (vs++us)
 |[],_,_,_,h,t=>by rw[h.nil_inv];exact t
 |d::ds,_,_,_,h,t=>by obtain ⟨v,r,rfl,h2,h3⟩:=h.cons_inv;exact za6.cons h2 (za6.append h3 t)
theorem za6.take{K:W.Frag}{G:Hp}:∀(n:Nat){ds:List Dt}{vs:List V},za6 K G ds vs->za6 K G (ds.take n) (vs.take n)
 |0,_,_,_=>by simpa using za6.nil
 |n+1,[],_,h=>by rw[h.nil_inv];simpa using za6.nil
 |n+1,d::ds,_,h=>by obtain ⟨v,r,rfl,h2,h3⟩:=h.cons_inv;exact za6.cons h2 (za6.take n h3)
theorem za6.drop{K:W.Frag}{G:Hp}:∀(n:Nat){ds:List Dt}{vs:List V},za6 K G ds vs->za6 K G (ds.drop n) (vs.drop n)
 |0,_,_,h=>h
 |n+1,[],_,h=>by rw[h.nil_inv];simpa using za6.nil
 |n+1,d::ds,_,h=>by obtain ⟨v,r,rfl,h2,h3⟩:=h.cons_inv;exact za6.drop n h3
theorem za6.reverse{K:W.Frag}{G:Hp}:∀{ds:List Dt}{vs:List V},za6 K G ds vs->za6 K G ds.reverse vs.reverse
 |[],_,h=>by rw[h.nil_inv];exact za6.nil
 |d::ds,_,h=>by obtain ⟨v,r,rfl,h2,h3⟩:=h.cons_inv;rw[List.reverse_cons,List.reverse_cons];exact (za6.reverse h3).append (za6.cons h2 za6.nil)
theorem za6.set{K:W.Frag}{G:Hp}{d:Dt}{v:V}(hv:Rep K G d v):∀(i:Nat){ds:List Dt}{vs:List V},za6 K G ds vs->za6 K G (ds.set i d) (vs.set i v)
 |_,[],_,h=>by rw[h.nil_inv];exact za6.nil
 |0,d'::ds,_,h=>by obtain ⟨v,r,rfl,h2,h3⟩:=h.cons_inv;exact za6.cons hv h3
 |i+1,d'::ds,_,h=>by obtain ⟨v,r,rfl,h2,h3⟩:=h.cons_inv;exact za6.cons h2 (za6.set hv i h3)
theorem za6.eraseIdx{K:W.Frag}{G:Hp}:∀(i:Nat){ds:List Dt}{vs:List V},za6 K G ds vs->za6 K G (ds.eraseIdx i) (vs.eraseIdx i)
 |_,[],_,h=>by rw[h.nil_inv];exact za6.nil
 |0,d'::ds,_,h=>by obtain ⟨v,r,rfl,h2,h3⟩:=h.cons_inv;exact h3
 |i+1,d'::ds,_,h=>by obtain ⟨v,r,rfl,h2,h3⟩:=h.cons_inv;exact za6.cons h2 (za6.eraseIdx i h3)
theorem za6.dropLast{K:W.Frag}{G:Hp}{ds:List Dt}{vs:List V}(h:za6 K G ds vs):za6 K G ds.dropLast vs.dropLast:=by rw[List.dropLast_eq_take,List.dropLast_eq_take,h.length];exact h.take _
abbrev Wn:=Addr->Option Nat
structure zbP(G H:Hp)(w:Wn)(G' H':Hp)(w':Wn):Prop where
 g:zdN G G'
 fr:∀ b o,G' b=some o->G b≠none\/H b=none\/w b≠none
 h:∀ b o,H b=some o->w b=none->H' b=some o
 w:∀ b,w' b≠none->w b≠none\/H b=none
 k:∀ b,H' b=none->H b=none
theorem zbP.refl(G H:Hp)(w:Wn):zbP G H w G H w :=
 ⟨zdN.refl G,λb o e=>.inl (by rw[e];simp),λ_ _ e _=>e,λ_ e=>.inl e,λ_ e=>e⟩
theorem zbP.trans{G H G1 H1 G2 H2:Hp}{w w1 w2:Wn}(a:zbP G H w G1 H1 w1)(b:zbP G1 H1 w1 G2 H2 w2):zbP G H w G2 H2 w2:=by
 have hn:=a.k;refine ⟨a.g.trans b.g,λc o e=>?_,λc o e z=>?_,λc e=>?_,λc e=>a.k c (b.k c e)⟩
 ·rcases b.fr c o e with q|q|q
  ·cases q':G1 c with
   |none=>exact absurd q' q
   |some u=>exact a.fr c u q'
  ·exact .inr (.inl (hn c q))
  ·rcases a.w c q with z|z
   ·exact .inr (.inr z)
   ·exact .inr (.inl z)
 ·have e1:=a.h c o e z;refine b.h c o e1 ?_;cases q:w1 c with
  |none=>rfl
  |some k =>
   rcases a.w c (by rw[q];simp) with r|r
   ·exact absurd z r
   ·rw[e] at r;cases r
 ·rcases b.w c e with q|q
  ·exact a.w c q
  ·exact .inr (hn c q)
structure Cn where
 G₀:Hp
 H₀:Hp
 w₀:Wn
 pp:List Nat
 σ₀:St
 ex:Nat->Prop
 xv:Nat->Value
 nw:Bool
def RtG(nw:Bool)(K:W.Frag)(H0 G H:Hp)(w:Wn)(d:Dt)(v:V):Prop:=match nw with
 |false=>Rep K G d v
 |true=>∃ l p vs,d=.lst l/\v=.ref p/\H0 p=none/\H p=some (.lst vs)/\G p=none/\w p=none/\za6 K G l vs
def cHO(c:Addr)(q:Str):HO:=.ext λh=>h.CodeRec (.ref c) q
def xHO(l C:Addr):HO:=.ext λh=>∃ o vs,h.get? l=some o/\o.cls=.ref C/\o.data=.fields vs
def RB(K:W.Frag)(G H:Hp)(w:Wn)(i:Nat)(v:V):B->Prop
 |.val d=>Rep K G d v
 |.own ds=>∃ a vs,v=.ref a/\w a=some i/\H a=some (.lst vs)/\za6 K G ds vs
 |.own2 dss=>∃ a as,v=.ref a/\w a=some i/\H a=some (.lst (as.map V.ref))/\(a::as).Nodup/\Paired (λb ds=>w b=some i/\∃ vs,H b=some (.lst vs)/\za6 K G ds vs) as dss
 |.tab q=>∃ P ps,v=.ref P/\w P=some i/\H P=some (.tbl ps)/\TriplesOk ps.toList/\∀ pos cv,codeAmong pos ps.toList=some cv->∃ c,cv=.ref c/\G c=some (cHO c q)
 |.dic ds=>∃ a us,v=.ref a/\w a=some i/\H a=some (.dK us)/\Paired (λ(p:Int×Dt) (q:Key×V)=>q.1=.inl p.1/\Rep K G p.2 q.2) ds us
 |.opq=>True
 |.exc C=>∃ l,v=.ref l/\G l=some (xHO l C)
structure Rel(K:W.Frag)(C:Cn)(G:Hp)(w:Wn)(Z:Ev)(Y:St)(H:Hp):Prop where
 gh:zdN G H
 wg:∀ b,w b≠none->G b=none
 wh:∀ b,w b≠none->H b≠none
 len:Z.length = Y.length
 sl:∀ i b,Z[i]? = some (some b)->∃ v,Y[i]? = some (some v)/\RB K G H w i v b
 en:zbP C.G₀ C.H₀ C.w₀ G H w
 pin:∀ i∈C.pp,Y[i]? = C.σ₀[i]?
structure zeC(G H G' H':Hp):Prop where
 g:zdN G G'
 h:zdN H H'
 gh:zdN G' H'
 fr:∀ b o,G' b=some o->G b≠none\/H b=none
theorem zeC.refl{G H:Hp}(e:zdN G H):zeC G H G H:=⟨.refl _,.refl _,e,λb o q=>.inl (by rw[q];simp)⟩
theorem zeC.trans{G H G1 H1 G2 H2:Hp}(a:zeC G H G1 H1)(b:zeC G1 H1 G2 H2):zeC G H G2 H2 :=
 ⟨a.g.trans b.g,a.h.trans b.h,b.gh,λc o e=>by
  rcases b.fr c o e with q|q
  ·cases q':G1 c with
   |none=>exact absurd q' q
   |some u=>exact a.fr c u q'
  ·exact .inr (a.h.free q)⟩
theorem zeC.step{G H G' H':Hp}{w:Wn}(a:zeC G H G' H'):zbP G H w G' H' w :=
 ⟨a.g,λb o e=>(a.fr b o e).elim .inl λz=>.inr (.inl z),λb o e _=>a.h b o e,λ_ e=>.inl e,λ_ e=>a.h.free e⟩
theorem zfp{α β:Type}{F F':α->β->Prop}(f:∀ a b,F a b->F' a b):∀{l₁:List α}{l₂:List β},Paired F l₁ l₂->Paired F' l₁ l₂
 |_,_,.nil=>.nil
 |_,_,.cons r t=>.cons (f _ _ r) (zfp f t)
theorem RB.grow{K:W.Frag}{G H G' H':Hp}{w w':Wn}{i j:Nat}{v:V}{b:B}(g:zdN G G')(h:∀ a o,w a=some i->H a=some o->H' a=some o/\w' a=some j)(r:RB K G H w i v b):RB K G' H' w' j v b:=by
 cases b with
 |val d=>exact Rep.same g r
 |own ds =>
  obtain ⟨a,vs,h1,h2,h3,h4⟩:=r;obtain ⟨e1,e2⟩:=h a _ h2 h3;exact ⟨a,vs,h1,e2,e1,za6.same g h4⟩
 |own2 dss =>
  obtain ⟨a,as,h1,h2,h3,h4,h5⟩:=r;obtain ⟨e1,e2⟩:=h a _ h2 h3;refine ⟨a,as,h1,e2,e1,h4,zfp (λb ds ⟨q1,vs,q2,q3⟩=>?_) h5⟩;obtain ⟨e1,e2⟩:=h b _ q1 q2;exact ⟨e2,vs,e1,za6.same g q3⟩
 |tab q =>
  obtain ⟨P,ps,h1,h2,h3,h4,h5⟩:=r;obtain ⟨e1,e2⟩:=h P _ h2 h3;exact ⟨P,ps,h1,e2,e1,h4,λpos cv e=>let ⟨c,q1,q2⟩:=h5 pos cv e;⟨c,q1,g _ _ q2⟩⟩
 |dic ds =>
  obtain ⟨a,us,h1,h2,h3,h4⟩:=r;obtain ⟨e1,e2⟩:=h a _ h2 h3;exact ⟨a,us,h1,e2,e1,zfp (λp q z=>⟨z.1,Rep.same g z.2⟩) h4⟩
 |opq=>exact trivial
 |exc C =>
  obtain ⟨l,h1,h2⟩:=r;exact ⟨l,h1,g _ _ h2⟩
theorem Rel.grow{K:W.Frag}{C:Cn}{G H G' H':Hp}{w:Wn}{Z:Ev}{Y:St}(r:Rel K C G w Z Y H)(a:zeC G H G' H'):Rel K C G' w Z Y H':=by
 refine ⟨a.gh,λb e=>?_,λb e z=>r.wh b e (a.h.free z),r.len,λi b e=>?_,r.en.trans a.step,r.pin⟩
 ·cases q:G' b with
  |none=>rfl
  |some o =>
   rcases a.fr b o q with z|z
   ·exact absurd (r.wg b e) z
   ·exact absurd z (r.wh b e)
 ·obtain ⟨v,h1,h2⟩:=r.sl i b e;exact ⟨v,h1,h2.grow a.g λa' o e1 e2=>⟨a.h _ _ e2,e1⟩⟩
theorem zeC.new{G H:Hp}{p:Addr}{o:HO}(gh:zdN G H)(hp:H p=none):zeC G H (upd G p o) (upd H p o):=by
 refine ⟨λb u e=>?_,λb u e=>?_,λb u e=>?_,λb u e=>?_⟩
 ·rw[zau (zav (gh b u e) hp)];exact e
 ·rw[zau (zav e hp)];exact e
 ·by_cases hb:b=p
  ·subst hb;rw[zat] at e ⊢;exact e
  ·rw[zau hb] at e ⊢;exact gh b u e
 ·by_cases hb:b=p
  ·subst hb;exact .inr hp
  ·rw[zau hb] at e;exact .inl (by rw[e];simp)
theorem zeC.newH{G H:Hp}{p:Addr}{o:HO}(gh:zdN G H)(hp:H p=none):zeC G H G (upd H p o):=by
 refine ⟨.refl _,λb u e=>?_,λb u e=>?_,λb u e=>.inl (by rw[e];simp)⟩
 ·rw[zau (zav e hp)];exact e
 ·rw[zau (zav (gh b u e) hp)];exact gh b u e
def zc1{α:Type}(ex:Nat->Prop)(κ:α->Prop):R α->Prop
 |.ok a=>κ a
 |.er n=>ex n
 |.no=>False
def kE(K:W.Frag)(C:Cn)(Y:St)(Q:VK)(G H:Hp)(w:Wn)(a:Dt×Ev):Prop :=
 ∀ v G' H' w',zbP G H w G' H' w'->Rel K C G' w' a.2 Y H'->Rep K G' a.1 v->Q v H'
def kT(K:W.Frag)(C:Cn)(Y:St)(Q:Bool->Hp->Prop)(G H:Hp)(w:Wn)(a:Bool×Ev):Prop :=
 ∀ G' H' w',zbP G H w G' H' w'->Rel K C G' w' a.2 Y H'->Q a.1 H'
def kN(K:W.Frag)(C:Cn)(Y:St)(Q:VK)(G H:Hp)(w:Wn)(a:List Dt×Ev):Prop :=
 ∀ p vs G' H' w',zbP G H w G' H' w'->Rel K C G' w' a.2 Y H'->H p=none->H' p=some (.lst vs)->G' p=none->w' p=none->za6 K G' a.1 vs->Q (.ref p) H'
inductive Fl where
 |nx|bk|ct|rt (d:Dt)
def kS(K:W.Frag)(C:Cn)(D:ztN)(G H:Hp)(w:Wn)(a:Fl×Ev):Prop :=
 match a.1 with
 |.nx=>∀ Y' G' H' w',zbP G H w G' H' w'->Rel K C G' w' a.2 Y' H'->D.nx Y' H'
 |.bk=>∀ Y' G' H' w',zbP G H w G' H' w'->Rel K C G' w' a.2 Y' H'->D.bk Y' H'
 |.ct=>∀ Y' G' H' w',zbP G H w G' H' w'->Rel K C G' w' a.2 Y' H'->D.ct Y' H'
 |.rt d=>∀ v Y' G' H' w',zbP G H w G' H' w'->Rel K C G' w' a.2 Y' H'->RtG C.nw K C.H₀ G' H' w' d v->D.rt v H'
abbrev De:=Ev->R (Dt×Ev)
abbrev DT:=Ev->R (Bool×Ev)
abbrev DN:=Ev->R (List Dt×Ev)
abbrev DS:=Ev->R (Fl×Ev)
def tE(K:W.Frag)(C:Cn)(f:De):TE:=λY H Q=>∃ G w Z,Rel K C G w Z Y H/\zc1 C.ex (kE K C Y Q G H w) (f Z)
def tT(K:W.Frag)(C:Cn)(f:DT):TT:=λY H Q=>∃ G w Z,Rel K C G w Z Y H/\zc1 C.ex (kT K C Y Q G H w) (f Z)
def tN(K:W.Frag)(C:Cn)(f:DN):TE:=λY H Q=>∃ G w Z,Rel K C G w Z Y H/\zc1 C.ex (kN K C Y Q G H w) (f Z)
def tS(K:W.Frag)(C:Cn)(f:DS):TS:=λD Y H=>∃ G w Z,Rel K C G w Z Y H/\zc1 C.ex (kS K C D G H w) (f Z)
abbrev JE(X:Cx)(C:Cn)(e:Expr)(f:De):Prop:=PE X e (tE X.K C f)
abbrev JT(X:Cx)(C:Cn)(e:Expr)(f:DT):Prop:=PT X e (tT X.K C f)
abbrev JW(X:Cx)(C:Cn)(e:Expr)(f:DT):Prop:=PW X e (tT X.K C f)
abbrev JN(X:Cx)(C:Cn)(e:Expr)(f:DN):Prop:=PE X e (tN X.K C f)
abbrev JS(X:Cx)(C:Cn)(st:Stmt)(f:DS):Prop:=PS X st (tS X.K C f)
abbrev JSs(X:Cx)(C:Cn)(st:List Stmt)(f:DS):Prop:=PSs X st (tS X.K C f)
abbrev zrN(α:Type):=Hp->Hp->Wn->α->Prop
def Stp{α:Type}(κ:zrN α):Prop:=∀ G H w G1 H1 w1 a,zbP G H w G1 H1 w1->κ G H w a->κ G1 H1 w1 a
section
variable{K:W.Frag}{C:Cn}{Y:St}
theorem zcy{Q:VK}:Stp (λG H w=>kE K C Y Q G H w):=λ_ _ _ _ _ _ _ s k v G' H' w' s'=>k v G' H' w' (s.trans s')
theorem zoB{Q:Bool->Hp->Prop}:Stp (λG H w=>kT K C Y Q G H w):=λ_ _ _ _ _ _ _ s k G' H' w' s'=>k G' H' w' (s.trans s')
theorem zf4{Q:VK}:Stp (λG H w=>kN K C Y Q G H w):=λG H w G1 H1 w1 _ s k p vs G' H' w' s' r q1 q2 q3 q4 q5 =>
 k p vs G' H' w' (s.trans s') r (s.k p q1) q2 q3 q4 q5
theorem zfj{D:ztN}:Stp (λG H w=>kS K C D G H w):=λG H w G1 H1 w1 a s k=>by
 obtain ⟨f,Z⟩:=a;cases f with
 |nx=>exact λY' G' H' w' s'=>k Y' G' H' w' (s.trans s')
 |bk=>exact λY' G' H' w' s'=>k Y' G' H' w' (s.trans s')
 |ct=>exact λY' G' H' w' s'=>k Y' G' H' w' (s.trans s')
 |rt d=>exact λv Y' G' H' w' s'=>k v Y' G' H' w' (s.trans s')
theorem zc1.step{α:Type}{ex:Nat->Prop}{κ:zrN α}(st:Stp κ){G H G1 H1:Hp}{w w1:Wn}(s:zbP G H w G1 H1 w1):∀{r:R α},zc1 ex (κ G H w) r->zc1 ex (κ G1 H1 w1) r
 |.ok _,p=>st _ _ _ _ _ _ _ s p
 |.er _,p=>p
 |.no,p=>p
theorem zeL{α:Type}{κ:zrN α}(st:Stp κ){G H:Hp}{w:Wn}{Z:Ev}{fa:De}{g:Dt×Ev->R α}{Q:VK}(r:Rel K C G w Z Y H)(p:zc1 C.ex (κ G H w) ((fa Z).bind g))
  (k:∀ d Z1 v G1 H1 w1,Rel K C G1 w1 Z1 Y H1->zbP G H w G1 H1 w1->Rep K G1 d v->zc1 C.ex (κ G1 H1 w1) (g (d,Z1))->Q v H1):tE K C fa Y H Q:=by
 refine ⟨G,w,Z,r,?_⟩;cases e:fa Z with
 |ok a =>
  rw[e] at p;intro v G' H' w' s' r' q;exact k a.1 a.2 v G' H' w' r' s' q (zc1.step st s' p)
 |er n=>rw[e] at p;exact p
 |no=>rw[e] at p;exact p
theorem zvN{α:Type}{κ:zrN α}(st:Stp κ){G H:Hp}{w:Wn}{Z:Ev}{fa:DT}{g:Bool×Ev->R α}{Q:Bool->Hp->Prop}(r:Rel K C G w Z Y H)(p:zc1 C.ex (κ G H w) ((fa Z).bind g))
  (k:∀ b Z1 G1 H1 w1,Rel K C G1 w1 Z1 Y H1->zbP G H w G1 H1 w1->zc1 C.ex (κ G1 H1 w1) (g (b,Z1))->Q b H1):tT K C fa Y H Q:=by
 refine ⟨G,w,Z,r,?_⟩;cases e:fa Z with
 |ok a =>
  rw[e] at p;intro G' H' w' s' r';exact k a.1 a.2 G' H' w' r' s' (zc1.step st s' p)
 |er n=>rw[e] at p;exact p
 |no=>rw[e] at p;exact p
theorem zxK{α:Type}{κ:zrN α}{G H:Hp}{w:Wn}{Z:Ev}{fa:DN}{g:List Dt×Ev->R α}{Q:VK}(r:Rel K C G w Z Y H)(p:zc1 C.ex (κ G H w) ((fa Z).bind g))
  (k:∀ ds Z1 a vs G1 H1 w1,Rel K C G1 w1 Z1 Y H1->zbP G H w G1 H1 w1->H a=none->H1 a=some (.lst vs)->G1 a=none->w1 a=none->za6 K G1 ds vs->zc1 C.ex (κ G H w) (g (ds,Z1))->Q (.ref a) H1):tN K C fa Y H Q:=by
 refine ⟨G,w,Z,r,?_⟩;cases e:fa Z with
 |ok a =>
  rw[e] at p;intro v vs G' H' w' s' r' q1 q2 q3 q4 q5;exact k a.1 a.2 v vs G' H' w' r' s' q1 q2 q3 q4 q5 p
 |er n=>rw[e] at p;exact p
 |no=>rw[e] at p;exact p
end
section
variable{X:Cx}
theorem _root_.L2.PE.weak{e:Expr}{t t':TE}(h:PE X e t)(k:∀ Y H Q,t' Y H Q->t Y H Q):PE X e t':=λpS s Y H Q I q=>h pS s Y H Q I (k Y H Q q)
theorem _root_.L2.PT.weak{e:Expr}{t t':TT}(h:PT X e t)(k:∀ Y H Q,t' Y H Q->t Y H Q):PT X e t':=λpS s Y H Q I q=>h pS s Y H Q I (k Y H Q q)
theorem _root_.L2.PW.weak{e:Expr}{t t':TT}(h:PW X e t)(k:∀ Y H Q,t' Y H Q->t Y H Q):PW X e t':=λwh pS s Y H Q I q=>h wh pS s Y H Q I (k Y H Q q)
theorem _root_.L2.PA.weak{e:List Expr}{t t':TA}(h:PA X e t)(k:∀ Y H Q,t' Y H Q->t Y H Q):PA X e t':=λpos pS s Y H Q I q=>h pos pS s Y H Q I (k Y H Q q)
theorem _root_.L2.PS.weak{e:Stmt}{t t':TS}(h:PS X e t)(k:∀ D Y H,t' D Y H->t D Y H):PS X e t':=λpS s Y H D I q=>h pS s Y H D I (k D Y H q)
theorem _root_.L2.PSs.weak{e:List Stmt}{t t':TS}(h:PSs X e t)(k:∀ D Y H,t' D Y H->t D Y H):PSs X e t':=λpS s Y H D I q=>h pS s Y H D I (k D Y H q)
end
section
variable{K:W.Frag}{C:Cn}{Y:L2.St}{G H:Hp}{w:Wn}{Z:Ev}{i:Nat}{v:V}
theorem Rel.freeze{d:Dt}{b0:B}(r:Rel K C G w Z Y H)(S:List Addr)(hS:∀ b∈S,w b=some i)(hi:Z[i]? = some (some b0))(hv:Y[i]? = some (some v))
  (hr:Rep K (λb=>if b∈S then H b else G b) d v) :
  Rel K C (λb=>if b∈S then H b else G b) (λb=>if b∈S then none else w b) (Z.set i (some (.val d))) Y H /\
   zbP G H w (λb=>if b∈S then H b else G b) H (λb=>if b∈S then none else w b):=by
 have gS:∀ b∈S,G b=none:=λb hb=>r.wg b (by rw[hS b hb];simp);have st:zbP G H w (λb=>if b∈S then H b else G b) H (λb=>if b∈S then none else w b):=by
  refine ⟨λb o e=>?_,λb o e=>?_,λb o e _=>e,λb e=>?_,λ_ e=>e⟩
  ·have:b∉S:=λz=>by rw[gS b z] at e;cases e
   simp[this,e]
  ·by_cases hb:b∈S
   ·exact .inr (.inr (by rw[hS b hb];simp))
   ·simp[hb] at e;exact .inl (by rw[e];simp)
  ·by_cases hb:b∈S
   ·simp[hb] at e
   ·simp[hb] at e;exact .inl e
 refine ⟨⟨λb o e=>?_,λb e=>?_,λb e=>?_,by simpa using r.len,λj b e=>?_,r.en.trans st,r.pin⟩,st⟩
 ·by_cases hb:b∈S
  ·simp[hb] at e;exact e
  ·simp[hb] at e;exact r.gh b o e
 ·by_cases hb:b∈S
  ·simp[hb] at e
  ·simp[hb] at e ⊢;exact r.wg b e
 ·by_cases hb:b∈S
  ·simp[hb] at e
  ·simp[hb] at e;exact r.wh b e
 ·by_cases hj:j=i
  ·subst hj;rw[List.getElem?_set_self (List.getElem?_eq_some_iff.mp hi).1] at e;cases e;exact ⟨v,hv,hr⟩
  ·rw[List.getElem?_set_ne (Ne.symm hj)] at e;obtain ⟨v',h1,h2⟩:=r.sl j b e;refine ⟨v',h1,h2.grow st.g λa o e1 e2=>⟨e2,?_⟩⟩;have:a∉S:=λz=>by rw[hS a z] at e1;exact hj (waA e1).symm
   simp[this,e1]
end
def zab(i:Nat):De:=λZ=>match Z[i]? with
 |some (some (.val d))=>.ok (d,Z)
 |_=>.no
def zgC(i:Nat):De:=λZ=>match Z[i]? with
 |some (some (.val d))=>.ok (d,Z)
 |some (some (.own ds))=>.ok (.lst ds,Z.set i (some (.val (.lst ds))))
 |some (some (.own2 dss))=>.ok (.lst (dss.map .lst),Z.set i (some (.val (.lst (dss.map .lst)))))
 |_=>.no
theorem zia{K:W.Frag}{G:Hp}:∀{as:List Addr}{dss:List (List Dt)},Paired (λb ds=>∃ vs,G b=some (.lst vs)/\za6 K G ds vs) as dss->za6 K G (dss.map .lst) (as.map V.ref)
 |_,_,.nil=>za6.nil
 |a::as,ds::dss,.cons ⟨vs,h1,h2⟩ t=>za6.cons (by unfold Rep;exact ⟨a,vs,rfl,h1,h2⟩) (zia t)
theorem zed{α β:Type}{F:α->β->Prop}:∀{l₁:List α}{l₂:List β},Paired F l₁ l₂->∀ a∈l₁,∃ b,F a b
 |_,_,.cons r t,a,h=>by
  rcases wap.mp h with rfl|h
  ·exact ⟨_,r⟩
  ·exact zed t a h
theorem zbY{α β:Type}{F F':α->β->Prop}:∀{l₁:List α}{l₂:List β},Paired F l₁ l₂->(∀ a b,a∈l₁->F a b->F' a b)->Paired F' l₁ l₂
 |_,_,.nil,_=>.nil
 |_,_,.cons r t,f=>.cons (f _ _ wau r) (zbY t λa b h=>f a b (wah _ h))
section
variable{X:Cx}{C:Cn}
theorem zaa(i:Nat){x:Str}{pos:Pos}(hN:X.N[i]? = some x:=by rfl)(hv:Vis X.env.scope x:=by exact xwV)(hd:(x == ("__debug__" : Str))=false:=by decide)
  (hcd:(x == ("__classdict__" : Str))=false:=by decide):JE X C (.Name x pos) (zab i):=(zd2 hN hv hd hcd).weak λY H Q ⟨G,w,Z,r,p⟩=>by
 unfold zab at p;split at p
 ·rename_i d e;obtain ⟨v,h1,h2⟩:=r.sl i _ e;exact ⟨v,h1,p v G H w (.refl _ _ _) r h2⟩
 ·exact p.elim
theorem zgv(i:Nat){x:Str}{pos:Pos}(hN:X.N[i]? = some x:=by rfl)(hv:Vis X.env.scope x:=by exact xwV)(hd:(x == ("__debug__" : Str))=false:=by decide)
  (hcd:(x == ("__classdict__" : Str))=false:=by decide):JE X C (.Name x pos) (zgC i):=(zd2 hN hv hd hcd).weak λY H Q ⟨G,w,Z,r,p⟩=>by
 unfold zgC at p;split at p
 ·rename_i d e;obtain ⟨v,h1,h2⟩:=r.sl i _ e;exact ⟨v,h1,p v G H w (.refl _ _ _) r h2⟩
 ·rename_i ds e;obtain ⟨v,h1,a,vs,rfl,h2,h3,h4⟩:=r.sl i _ e;have hr:Rep X.K (λb=>if b∈[a] then H b else G b) (.lst ds) (.ref a):=by
   unfold Rep;refine ⟨a,vs,rfl,(by simp[h3]),za6.same (λb o e=>?_) h4⟩;have:b≠a:=λz=>by subst z;rw[r.wg b (by rw[h2];simp)] at e;cases e
   simp[this,e]
  obtain ⟨r',s'⟩:=r.freeze [a] (λb hb=>by simp at hb;subst hb;exact h2) e h1 hr;exact ⟨_,h1,p _ _ _ _ s' r' hr⟩
 ·rename_i dss e;obtain ⟨v,h1,a,as,rfl,h2,h3,h4,h5⟩:=r.sl i _ e;have hS:∀ b∈a::as,w b=some i:=λb hb=>by
   rcases wap.mp hb with rfl|hb
   ·exact h2
   ·obtain ⟨_,z,_⟩:=zed h5 b hb;exact z
  have sg:zdN G (λb=>if b∈a::as then H b else G b):=λb o e=>by
   have:b∉a::as:=λz=>by rw[r.wg b (by rw[hS b z];simp)] at e;cases e
   simp only[this,if_false];exact e
  have hr:Rep X.K (λb=>if b∈a::as then H b else G b) (.lst (dss.map .lst)) (.ref a):=by unfold Rep;refine ⟨a,as.map V.ref,rfl,(by simp[h3]),zia (zbY h5 λb ds hb ⟨q1,vs,q2,q3⟩=>⟨vs,?_,za6.same sg q3⟩)⟩;simp[hb,q2]
  obtain ⟨r',s'⟩:=r.freeze (a::as) hS e h1 hr;exact ⟨_,h1,p _ _ _ _ s' r' hr⟩
 ·exact p.elim
def dC(d:Dt):De:=λZ=>.ok (d,Z)
theorem zam{i j pos}:JE X C (.Constant (.int i) j pos) (dC (.int i)):=PE.weak ztf λY H Q ⟨G,w,Z,r,p⟩=>p _ G H w (.refl _ _ _) r (by unfold Rep;rfl)
theorem zf5{b j pos}:JE X C (.Constant (.bool b) j pos) (dC (.bl b)):=PE.weak zys λY H Q ⟨G,w,Z,r,p⟩=>p _ G H w (.refl _ _ _) r (by unfold Rep;rfl)
theorem zjC{j pos}:JE X C (.Constant .none j pos) (dC .non):=PE.weak zwz λY H Q ⟨G,w,Z,r,p⟩=>p _ G H w (.refl _ _ _) r (by unfold Rep;rfl)
theorem zdq{x j pos}:JE X C (.Constant (.str x) j pos) (dC (.str x)):=PE.weak zvT λY H Q ⟨G,w,Z,r,p⟩=>p _ G H w (.refl _ _ _) r (by unfold Rep;rfl)
theorem zbQ{x:Str}{i:Int}{t:Tok}{pos:Pos}(hg:Gl X x)(hm:X.mg x=some (.int i t))(hd:(x == ("__debug__" : Str))=false:=by decide):JE X C (.Name x pos) (dC (.int i)) :=
 (zrt (v:=.int i) hg hm ⟨t,rfl⟩ hd).weak λY H Q ⟨G,w,Z,r,p⟩=>p _ G H w (.refl _ _ _) r (by unfold Rep;rfl)
def dOp(g:Dt->Dt->R Dt)(fa fb:De):De:=λZ=>(fa Z).bind λa=>(fb a.2).bind λb=>(g a.1 b.1).bind λz=>.ok (z,b.2)
def Op2(K:W.Frag)(r:R2)(g:Dt->Dt->R Dt):Prop:=∀(G H:Hp)(x y:V)(dx dy z:Dt)(Q:VK),zdN G H->Rep K G dx x->Rep K G dy y->g dx dy=.ok z ->
 (∀ v G' H',zeC G H G' H'->Rep K G' z v->Q v H')->r x y H Q
def zmO(g:Dt->Dt->R Dt):Prop:=∀ x y n,g x y≠.er n
variable{a b:Expr}{fa fb:De}{pos:Pos}
theorem zkD{r:R2}{g:Dt->Dt->R Dt}{Y:L2.St}{H:Hp}{Q:VK}(h2:Op2 X.K r g)(he:zmO g)(h:tE X.K C (dOp g fa fb) Y H Q):tOp r (tE X.K C fa) (tE X.K C fb) Y H Q:=by
 obtain ⟨G,w,Z,rr,p⟩:=h;refine zeL (κ:=λG H w=>kE X.K C Y Q G H w) zcy rr p λd Z1 v G1 H1 w1 r1 s1 q1 p1=>?_;refine zeL (κ:=λG H w=>kE X.K C Y Q G H w) zcy r1 p1 λd2 Z2 v2 G2 H2 w2 r2 s2 q2 p2=>?_;cases e:g d d2 with
 |ok z =>
  simp only[e,R.bind_ok] at p2;refine h2 G2 H2 v v2 d d2 z Q r2.gh (q1.same s2.g) q2 e λv3 G3 H3 gr q3=>?_;exact p2 v3 G3 H3 w2 gr.step (r2.grow gr) q3
 |er n=>exact absurd e (he _ _ _)
 |no=>simp only[e,R.bind_no] at p2;exact p2.elim
theorem zmC{op:Operator}{r:R2}{g:Dt->Dt->R Dt}(ho:OpR X (binaryOp op) r)(h2:Op2 X.K r g)(he:zmO g)(ha:JE X C a fa)(hb:JE X C b fb):JE X C (.BinOp a op b pos) (dOp g fa fb) :=
 (zuG ho ha hb).weak λY H Q h=>zkD h2 he h
theorem zt6{op:CmpOp}{r:R2}{g:Dt->Dt->R Dt}(ho:OpR X (compareOp op) r)(h2:Op2 X.K r g)(he:zmO g)(ha:JE X C a fa)(hb:JE X C b fb)(hm:behindInMarks op b=false):JE X C (.Compare a [op] [b] pos) (dOp g fa fb) :=
 (zvn ho ha hb hm).weak λY H Q h=>zkD h2 he h
def dTB(f:De):DT:=λZ=>(f Z).bind λa=>match a.1 with
 |.bl b=>.ok (b,a.2)
 |_=>.no
theorem zfg{K:W.Frag}{G:Hp}{b:Bool}{v:V}(h:Rep K G (.bl b) v):v=.bl b:=by unfold Rep at h;exact h
theorem zaB{K:W.Frag}{G:Hp}{b:Int}{v:V}(h:Rep K G (.int b) v):v=.int b:=by unfold Rep at h;exact h
theorem zgH{K:W.Frag}{G:Hp}{b:Str}{v:V}(h:Rep K G (.str b) v):v=.str b:=by unfold Rep at h;exact h
theorem zi1{K:W.Frag}{G:Hp}{v:V}(h:Rep K G .non v):v=.non:=by unfold Rep at h;exact h
theorem zgd{K:W.Frag}{G:Hp}{l:List Dt}{v:V}(h:Rep K G (.tup l) v):∃ a vs,v=.ref a/\zku K G a vs/\za6 K G l vs:=by unfold Rep at h;exact h
theorem zbF{K:W.Frag}{G:Hp}{l:List Dt}{v:V}(h:Rep K G (.tup l) v):∃ a vs,v=.ref a/\SqT K G a vs/\za6 K G l vs:=by obtain ⟨a,vs,h1,h2,h3⟩:=zgd h;exact ⟨a,vs,h1,h2.sq,h3⟩
theorem zaT{K:W.Frag}{G:Hp}{l:List Dt}{v:V}(h:Rep K G (.lst l) v):∃ a vs,v=.ref a/\G a=some (.lst vs)/\za6 K G l vs:=by unfold Rep at h;exact h
theorem zkb{f:De}{Y:L2.St}{H:Hp}{Q:Bool->Hp->Prop}(h:tT X.K C (dTB f) Y H Q):tE X.K C f Y H λx H'=>∃ k,x=.bl k/\Q k H':=by
 obtain ⟨G,w,Z,r,p⟩:=h;refine zeL (κ:=λG H w=>kT X.K C Y Q G H w) zoB r p λd Z1 v G1 H1 w1 r1 s1 q1 p1=>?_;cases d with
 |bl b=>exact ⟨b,zfg q1,p1 G1 H1 w1 (.refl _ _ _) r1⟩
 |_=>exact p1.elim
theorem zir{op:CmpOp}{r:R2}{g:Dt->Dt->R Dt}(ho:OpR X (compareOp op) r)(h2:Op2 X.K r g)(he:zmO g)(ha:JE X C a fa)(hb:JE X C b fb)(hm:behindInMarks op b=false):JT X C (.Compare a [op] [b] pos) (dTB (dOp g fa fb)) :=
 (zmr ho ha hb hm).weak λY H Q h=>by have h':=zkb h;exact zkD h2 he h'
theorem zcu{e:Expr}{f:De}(h:JE X C e f)(he:∀ whole,isTrue e X.env whole=(do let v <- whole;standAt e.pos;holding [v] (truthy v)):=by intro _;rfl):JT X C e (dTB f) :=
 (zwy h he).weak λY H Q h=>zkb h
def zdx(f:DT):DT:=λZ=>(f Z).bind λa=>.ok (!a.1,a.2)
def zke(f g:DT):DT:=λZ=>(f Z).bind λa=>if a.1=true then g a.2 else .ok (false,a.2)
def zhl(f g:DT):DT:=λZ=>(f Z).bind λa=>if a.1=true then .ok (true,a.2) else g a.2
variable{tA tB':DT}{zbz:List Expr}
theorem zgl(ha:JT X C a tA):JT X C (.UnaryOp .Not a pos) (zdx tA):=(zvY ha).weak λY H Q ⟨G,w,Z,r,p⟩ =>
 zvN (κ:=λG H w=>kT X.K C Y Q G H w) zoB r p λb Z1 G1 H1 w1 r1 s1 p1=>p1 G1 H1 w1 (.refl _ _ _) r1
theorem zqX(ha:JT X C a tA):JW X C (.BoolOp .And [a] pos) tA:=zu2 ha
theorem zjl(ha:JT X C a tA):JW X C (.BoolOp .Or [a] pos) tA:=zx3 ha
theorem ztp(ha:JT X C a tA)(hb:JW X C (.BoolOp .And (b::zbz) pos) tB'):JW X C (.BoolOp .And (a::b::zbz) pos) (zke tA tB'):=(zw2 ha hb).weak λY H Q ⟨G,w,Z,r,p⟩=>by
 refine zvN (κ:=λG H w=>kT X.K C Y Q G H w) zoB r p λb Z1 G1 H1 w1 r1 s1 p1=>?_;cases b with
 |true=>exact ⟨G1,w1,Z1,r1,p1⟩
 |false=>exact p1 G1 H1 w1 (.refl _ _ _) r1
theorem ziO(ha:JT X C a tA)(hb:JW X C (.BoolOp .Or (b::zbz) pos) tB'):JW X C (.BoolOp .Or (a::b::zbz) pos) (zhl tA tB'):=(zyp ha hb).weak λY H Q ⟨G,w,Z,r,p⟩=>by
 refine zvN (κ:=λG H w=>kT X.K C Y Q G H w) zoB r p λb Z1 G1 H1 w1 r1 s1 p1=>?_;cases b with
 |true=>exact p1 G1 H1 w1 (.refl _ _ _) r1
 |false=>exact ⟨G1,w1,Z1,r1,p1⟩
theorem JW.jt{e:Expr}{f:DT}(h:JW X C e f):JT X C e f:=PW.pt h
def zrU(fa fb:De):De:=λZ=>(fa Z).bind λa=>match a.1 with
 |.bl true=>fb a.2
 |.bl false=>.ok (.bl false,a.2)
 |_=>.no
def dOr(fa fb:De):De:=λZ=>(fa Z).bind λa=>match a.1 with
 |.bl true=>.ok (.bl true,a.2)
 |.bl false=>fb a.2
 |_=>.no
def zxl(fa:De):De:=λZ=>(fa Z).bind λa=>match a.1 with
 |.bl b=>.ok (.bl (!b),a.2)
 |_=>.no
theorem zkT{op}{f:De}(h:JE X C a f):JE X C (.BoolOp op [a] pos) f:=zwV h
theorem zod(ha:JE X C a fa)(hb:JE X C (.BoolOp .And (b::zbz) pos) fb):JE X C (.BoolOp .And (a::b::zbz) pos) (zrU fa fb):=(zw0 ha hb).weak λY H Q ⟨G,w,Z,r,p⟩=>by
 refine zeL (κ:=λG H w=>kE X.K C Y Q G H w) zcy r p λd Z1 v G1 H1 w1 r1 s1 q1 p1=>?_;cases d with
 |bl b =>
  refine ⟨b,zfg q1,?_⟩;cases b with
  |true=>exact ⟨G1,w1,Z1,r1,p1⟩
  |false=>exact p1 _ G1 H1 w1 (.refl _ _ _) r1 (by unfold Rep;rfl)
 |_=>exact p1.elim
theorem zxS(ha:JE X C a fa)(hb:JE X C (.BoolOp .Or (b::zbz) pos) fb):JE X C (.BoolOp .Or (a::b::zbz) pos) (dOr fa fb):=(zxV ha hb).weak λY H Q ⟨G,w,Z,r,p⟩=>by
 refine zeL (κ:=λG H w=>kE X.K C Y Q G H w) zcy r p λd Z1 v G1 H1 w1 r1 s1 q1 p1=>?_;cases d with
 |bl b =>
  refine ⟨b,zfg q1,?_⟩;cases b with
  |true=>exact p1 _ G1 H1 w1 (.refl _ _ _) r1 (by unfold Rep;rfl)
  |false=>exact ⟨G1,w1,Z1,r1,p1⟩
 |_=>exact p1.elim
theorem zpr(ha:JE X C a fa):JE X C (.UnaryOp .Not a pos) (zxl fa):=(zwN ha).weak λY H Q ⟨G,w,Z,r,p⟩=>by
 refine zeL (κ:=λG H w=>kE X.K C Y Q G H w) zcy r p λd Z1 v G1 H1 w1 r1 s1 q1 p1=>?_;cases d with
 |bl b=>exact ⟨b,zfg q1,p1 _ G1 H1 w1 (.refl _ _ _) r1 (by unfold Rep;rfl)⟩
 |_=>exact p1.elim
def zjA(t:DT)(fa fb:De):De:=λZ=>(t Z).bind λc=>if c.1=true then fa c.2 else fb c.2
theorem zhZ{c:Expr}(hc:JT X C c tA)(ha:JE X C a fa)(hb:JE X C b fb):JE X C (.IfExp c a b pos) (zjA tA fa fb):=(zso hc ha hb).weak λY H Q ⟨G,w,Z,r,p⟩=>by
 refine zvN (κ:=λG H w=>kE X.K C Y Q G H w) zcy r p λb Z1 G1 H1 w1 r1 s1 p1=>?_;cases b with
 |true=>exact ⟨G1,w1,Z1,r1,p1⟩
 |false=>exact ⟨G1,w1,Z1,r1,p1⟩
abbrev DA:=Ev->R (List Dt×Ev)
def kA(K:W.Frag)(C:Cn)(Y:L2.St)(Q:List V->Hp->Prop)(G H:Hp)(w:Wn)(a:List Dt×Ev):Prop :=
 ∀ vs G' H' w',zbP G H w G' H' w'->Rel K C G' w' a.2 Y H'->za6 K G' a.1 vs->Q vs H'
theorem zxq{K:W.Frag}{Y:L2.St}{Q:List V->Hp->Prop}:Stp (λG H w=>kA K C Y Q G H w):=λ_ _ _ _ _ _ _ s k v G' H' w' s'=>k v G' H' w' (s.trans s')
def tAd(K:W.Frag)(C:Cn)(f:DA):TA:=λY H Q=>∃ G w Z,Rel K C G w Z Y H/\zc1 C.ex (kA K C Y Q G H w) (f Z)
abbrev JA(X:Cx)(C:Cn)(es:List Expr)(f:DA):Prop:=PA X es (tAd X.K C f)
def dA0:DA:=λZ=>.ok ([],Z)
def dA(fa:De)(fr:DA):DA:=λZ=>(fa Z).bind λa=>(fr a.2).bind λb=>.ok (a.1::b.1,b.2)
theorem zx2{K:W.Frag}{Y:L2.St}{α:Type}{κ:zrN α}(st:Stp κ){G H:Hp}{w:Wn}{Z:Ev}{fa:DA}{g:List Dt×Ev->R α}{Q:List V->Hp->Prop}(r:Rel K C G w Z Y H)(p:zc1 C.ex (κ G H w) ((fa Z).bind g))
  (k:∀ ds Z1 vs G1 H1 w1,Rel K C G1 w1 Z1 Y H1->zbP G H w G1 H1 w1->za6 K G1 ds vs->zc1 C.ex (κ G1 H1 w1) (g (ds,Z1))->Q vs H1):tAd K C fa Y H Q:=by
 refine ⟨G,w,Z,r,?_⟩;cases e:fa Z with
 |ok a =>
  rw[e] at p;intro v G' H' w' s' r' q;exact k a.1 a.2 v G' H' w' r' s' q (zc1.step st s' p)
 |er n=>rw[e] at p;exact p
 |no=>rw[e] at p;exact p
theorem za1:JA X C [] dA0:=PA.weak zde λY H Q ⟨G,w,Z,r,p⟩=>p _ G H w (.refl _ _ _) r za6.nil
theorem zao{e:Expr}{es:List Expr}{fr:DA}(ha:JE X C e fa)(hr:JA X C es fr)(hs:starEach (e::es) X.env=(false,eval e X.env)::starEach es X.env:=by rfl):JA X C (e::es) (dA fa fr) :=
 (zbn ha hr hs).weak λY H Q ⟨G,w,Z,r,p⟩=>by refine zeL (κ:=λG H w=>kA X.K C Y Q G H w) zxq r p λd Z1 v G1 H1 w1 r1 s1 q1 p1=>?_;refine zx2 (κ:=λG H w=>kA X.K C Y Q G H w) zxq r1 p1 λds Z2 vs G2 H2 w2 r2 s2 q2 p2=>?_;exact p2 _ G2 H2 w2 (.refl _ _ _) r2 (za6.cons (q1.same s2.g) q2)
def zhg{α:Type}(l:List α):Bool:=decide (l.length<=16777216)
def zdO(f:DA):De:=λZ=>(f Z).bind λa=>if zhg a.1=true then .ok (.tup a.1,a.2) else .no
def zc8(f:DA):DN:=λZ=>(f Z).bind λa=>if zhg a.1=true then .ok (a.1,a.2) else .no
theorem zka{α:Type}{l:List α}(h:zhg l=true):l.length<=sizeLine:=by have:=of_decide_eq_true h;rw[show sizeLine=16777216 from by decide];exact this
theorem zct{x1}{es:List Expr}{f:DA}(h:JA X C es f):JE X C (.Tuple es x1 pos) (zdO f):=(ztH h).weak λY H Q ⟨G,w,Z,r,p⟩=>by
 refine zx2 (κ:=λG H w=>kE X.K C Y Q G H w) zcy r p λds Z1 vs G1 H1 w1 r1 s1 q1 p1=>?_;by_cases hf:zhg ds=true
 ·simp only[hf,if_true] at p1;refine ⟨by rw[<- q1.length];exact zka hf,λa ha=>?_⟩;have gr:zeC G1 H1 (upd G1 a (.tup vs)) (upd H1 a (.tup vs)):=.new r1.gh ha;exact p1 _ _ _ w1 gr.step (r1.grow gr) (by unfold Rep;exact ⟨a,vs,rfl,zku.of zat,q1.same gr.g⟩)
 ·simp only[hf] at p1;exact p1.elim
theorem zbE{es:List Expr}{f:DA}(h:JA X C es f):JN X C (.List es pos) (zc8 f):=(zvX h).weak λY H Q ⟨G,w,Z,r,p⟩=>by
 refine zx2 (κ:=λG H w=>kN X.K C Y Q G H w) zf4 r p λds Z1 vs G1 H1 w1 r1 s1 q1 p1=>?_;by_cases hf:zhg ds=true
 ·simp only[hf,if_true] at p1;refine ⟨by rw[<- q1.length];exact zka hf,λa ha=>?_⟩;have gr:zeC G1 H1 G1 (upd H1 a (.lst vs)):=.newH r1.gh ha;exact p1 a vs _ _ w1 gr.step (r1.grow gr) ha zat (r1.gh.free ha) (by
   cases z:w1 a with
   |none=>rfl
   |some k=>exact absurd ha (r1.wh a (by rw[z];simp))) q1
 ·simp only[hf] at p1;exact p1.elim
def dFz(f:DN):De:=λZ=>(f Z).bind λa=>.ok (.lst a.1,a.2)
theorem Rel.know{K:W.Frag}{Y:L2.St}{G H:Hp}{w:Wn}{Z:Ev}{p:Addr}{o:HO}(r:Rel K C G w Z Y H)(hp:H p=some o)(hg:G p=none)(hw:w p=none)(H0:Hp)(G0:Hp)(w0:Wn)(s:zbP G0 H0 w0 G H w)(h0:H0 p=none)
  (e0:C.H₀ p=none\/C.w₀ p≠none\/C.G₀ p≠none):Rel K C (upd G p o) w Z Y H/\zbP G0 H0 w0 (upd G p o) H w:=by
 have sg:zdN G (upd G p o):=λb u e=>by rw[zau (zav e hg)];exact e
 have s1:∀{G1 H1:Hp}{w1:Wn},zbP G1 H1 w1 G H w->(H1 p=none\/w1 p≠none\/G1 p≠none)->zbP G1 H1 w1 (upd G p o) H w:=λs z=>by
  refine ⟨s.g.trans sg,λb u e=>?_,s.h,s.w,s.k⟩;by_cases hb:b=p
  ·subst hb;rcases z with z|z|z
   ·exact .inr (.inl z)
   ·exact .inr (.inr z)
   ·exact .inl z
  ·rw[zau hb] at e;exact s.fr b u e
 refine ⟨⟨λb u e=>?_,λb e=>?_,r.wh,r.len,λi b e=>?_,s1 r.en e0,r.pin⟩,s1 s (.inl h0)⟩
 ·by_cases hb:b=p
  ·subst hb;rw[zat] at e;cases e;exact hp
  ·rw[zau hb] at e;exact r.gh b u e
 ·by_cases hb:b=p
  ·subst hb;rw[hw] at e;exact absurd rfl e
  ·rw[zau hb];exact r.wg b e
 ·obtain ⟨v,h1,h2⟩:=r.sl i b e;exact ⟨v,h1,h2.grow sg λ_ _ e1 e2=>⟨e2,e1⟩⟩
end
section
variable{X:Cx}{C:Cn}{a b e:Expr}{fa fb:De}{pos:Pos}
theorem zaz{f:DN}(h:JN X C e f):JE X C e (dFz f):=PE.weak h λY H Q ⟨G,w,Z,r,p⟩=>by
 refine zxK (κ:=λG H w=>kE X.K C Y Q G H w) r p λds Z1 a vs G1 H1 w1 r1 s1 h0 h1 h2 h3 q1 p1=>?_;obtain ⟨r',s'⟩:=r1.know h1 h2 h3 H G w s1 h0 (.inl (r.en.k a h0));have sg:zdN G1 (upd G1 a (.lst vs)):=λb u e=>by rw[zau (zav e h2)];exact e
 exact p1 _ _ _ _ s' r' (by unfold Rep;exact ⟨a,vs,rfl,zat,q1.same sg⟩)
def za2(f g:DS):DS:=λZ=>(f Z).bind λa=>match a.1 with
 |.nx=>g a.2
 |fl=>.ok (fl,a.2)
def dNx:DS:=λZ=>.ok (.nx,Z)
variable{st:Stmt}{zbz:List Stmt}{fs gs:DS}
theorem zaF:JSs X C [] dNx:=PSs.weak zvG λD Y H ⟨G,w,Z,r,p⟩=>p Y G H w (.refl _ _ _) r
theorem zaf(h1:JS X C st fs)(h2:JSs X C zbz gs):JSs X C (st::zbz) (za2 fs gs):=PSs.weak (zrF h1 h2) λD Y H ⟨G,w,Z,r,p⟩=>by
 refine ⟨G,w,Z,r,?_⟩;unfold za2 at p;cases e:fs Z with
 |ok x =>
  rw[e] at p;obtain ⟨fl,Z1⟩:=x;cases fl with
  |nx=>exact λY' G' H' w' s' r'=>⟨G',w',Z1,r',zc1.step zfj s' p⟩
  |bk=>exact p
  |ct=>exact p
  |rt d=>exact p
 |er n=>rw[e] at p;exact p
 |no=>rw[e] at p;exact p
theorem zah(h1:JS X C st fs):JSs X C [st] fs:=zul h1
def dEx(f:De):DS:=λZ=>(f Z).bind λa=>.ok (.nx,a.2)
theorem zeq(he:JE X C e fa)(hs:swapsWith e none pos.line X.env=pure false:=by rfl):JS X C (.Expr e pos) (dEx fa):=PS.weak (zvd he hs) λD Y H ⟨G,w,Z,r,p⟩ =>
 zeL (κ:=λG H w=>kS X.K C D G H w) zfj r p λd Z1 v G1 H1 w1 r1 s1 q1 p1=>p1 Y G1 H1 w1 (.refl _ _ _) r1
def zbd(f:De):DS:=λZ=>(f Z).bind λa=>.ok (.rt a.1,a.2)
theorem zax(hn:C.nw=false)(he:JE X C e fa):JS X C (.Return (some e) pos) (zbd fa):=PS.weak (ztF he) λD Y H ⟨G,w,Z,r,p⟩ =>
 zeL (κ:=λG H w=>kS X.K C D G H w) zfj r p λd Z1 v G1 H1 w1 r1 s1 q1 p1=>p1 v Y G1 H1 w1 (.refl _ _ _) r1 (by rw[hn];exact q1)
def zeP(f:DN):DS:=λZ=>(f Z).bind λa=>.ok (.rt (.lst a.1),a.2)
theorem zek{f:DN}(hn:C.nw=true)(he:JN X C e f):JS X C (.Return (some e) pos) (zeP f):=PS.weak (ztF he) λD Y H ⟨G,w,Z,r,p⟩ =>
 zxK (κ:=λG H w=>kS X.K C D G H w) r p λds Z1 a vs G1 H1 w1 r1 s1 h0 h1 h2 h3 q1 p1=>p1 _ Y G1 H1 w1 s1 r1 (by rw[hn];exact ⟨ds,a,vs,rfl,rfl,r.en.k a h0,h1,h2,h3,q1⟩)
def dIf(c:DT)(f g:DS):DS:=λZ=>(c Z).bind λb=>if b.1=true then f b.2 else g b.2
theorem zbt{c:Expr}{A B:List Stmt}{tc:DT}(hc:JT X C c tc)(ha:JSs X C A fs)(hb:JSs X C B gs):JS X C (.If c A B pos) (dIf tc fs gs):=PS.weak (zyl hc ha hb) λD Y H ⟨G,w,Z,r,p⟩=>by
 refine zvN (κ:=λG H w=>kS X.K C D G H w) zfj r p λb Z1 G1 H1 w1 r1 s1 p1=>?_;cases b with
 |true=>exact ⟨G1,w1,Z1,r1,p1⟩
 |false=>exact ⟨G1,w1,Z1,r1,p1⟩
theorem Rel.setVal{K:W.Frag}{Y:L2.St}{G H:Hp}{w:Wn}{Z:Ev}{i:Nat}{d:Dt}{v:V}(r:Rel K C G w Z Y H)(hi:i < Z.length)(hp:i∉C.pp)(h:Rep K G d v):Rel K C G w (Z.set i (some (.val d))) (Y.set i (some v)) H:=by
 refine ⟨r.gh,r.wg,r.wh,by simpa using r.len,λj b e=>?_,r.en,λj hj=>?_⟩
 ·by_cases hj:j=i
  ·subst hj;rw[List.getElem?_set_self hi] at e;cases e;exact ⟨v,way (by rw[<- r.len];exact hi),h⟩
  ·rw[List.getElem?_set_ne (Ne.symm hj)] at e;obtain ⟨v',h1,h2⟩:=r.sl j b e;exact ⟨v',by rw[List.getElem?_set_ne (Ne.symm hj)];exact h1,h2⟩
 ·have:i≠j:=λz=>hp (z ▸ hj);rw[List.getElem?_set_ne this];exact r.pin j hj
theorem Rel.setOwn{K:W.Frag}{Y:L2.St}{G0 H0:Hp}{w0:Wn}{G H:Hp}{w:Wn}{Z:Ev}{i:Nat}{ds:List Dt}{p:Addr}{vs:List V}(r:Rel K C G w Z Y H)(hi:i < Z.length)(hpp:i∉C.pp)(hp:H p=some (.lst vs))(hg:G p=none)(hw:w p=none)
  (q:za6 K G ds vs) (s:zbP G0 H0 w0 G H w) (h0:H0 p=none) (en0:C.H₀ p=none) :
  Rel K C G (λb=>if b=p then some i else w b) (Z.set i (some (.own ds))) (Y.set i (some (.ref p))) H/\zbP G0 H0 w0 G H (λb=>if b=p then some i else w b):=by
 have s1:∀{G1 H1:Hp}{w1:Wn},zbP G1 H1 w1 G H w->H1 p=none->zbP G1 H1 w1 G H (λb=>if b=p then some i else w b):=λs z=>by
  refine ⟨s.g,s.fr,s.h,λb e=>?_,s.k⟩;by_cases hb:b=p
  ·subst hb;exact .inr z
  ·simp[hb] at e;exact s.w b e
 refine ⟨⟨r.gh,λb e=>?_,λb e=>?_,by simpa using r.len,λj b e=>?_,s1 r.en en0,λj hj=>?_⟩,s1 s h0⟩
 ·by_cases hb:b=p
  ·subst hb;exact hg
  ·simp[hb] at e;exact r.wg b e
 ·by_cases hb:b=p
  ·subst hb;rw[hp];simp
  ·simp[hb] at e;exact r.wh b e
 ·by_cases hj:j=i
  ·subst hj;rw[List.getElem?_set_self hi] at e;cases e;exact ⟨_,way (by rw[<- r.len];exact hi),p,vs,rfl,xws,hp,q⟩
  ·rw[List.getElem?_set_ne (Ne.symm hj)] at e;obtain ⟨v',h1,h2⟩:=r.sl j b e;refine ⟨v',by rw[List.getElem?_set_ne (Ne.symm hj)];exact h1,h2.grow (.refl _) λa o e1 e2=>⟨e2,?_⟩⟩;have:a≠p:=λz=>by subst z;rw[hw] at e1;cases e1
   simp[this,e1]
 ·have:i≠j:=λz=>hpp (z ▸ hj);rw[List.getElem?_set_ne this];exact r.pin j hj
def zaX(i:Nat)(f:De):DS:=λZ=>(f Z).bind λa=>if i<a.2.length then .ok (.nx,a.2.set i (some (.val a.1))) else .no
theorem zaM{i:Nat}{x:Str}{pos':Pos}(hN:X.N.Nodup)(hi:X.N[i]? = some x)(hx:Loc X.env.scope x)(hp:i∉C.pp)(he:JE X C e fa)(hs:swapsWith e (some (.Name x pos')) pos.line X.env=pure false:=by rfl)
  (hf:X.fn x=true\/X.env.scope.names.lookup x=some .local:=by exact xwA):JS X C (.Assign [.Name x pos'] e pos) (zaX i fa) :=
 PS.weak (ztT hN hi hx he hs) λD Y H ⟨G,w,Z,r,p⟩=>by
  refine zeL (κ:=λG H w=>kS X.K C D G H w) zfj r p λd Z1 v G1 H1 w1 r1 s1 q1 p1=>?_;by_cases hl:i < Z1.length
  ·simp only[hl,if_true] at p1;exact p1 _ G1 H1 w1 (.refl _ _ _) (r1.setVal hl hp q1)
  ·simp only[hl,if_false] at p1;exact p1.elim
def zdC(i:Nat)(f:DN):DS:=λZ=>(f Z).bind λa=>if i<a.2.length then .ok (.nx,a.2.set i (some (.own a.1))) else .no
theorem zeT{i:Nat}{x:Str}{pos':Pos}{f:DN}(hN:X.N.Nodup)(hi:X.N[i]? = some x)(hx:Loc X.env.scope x)(hp:i∉C.pp)(he:JN X C e f)(hs:swapsWith e (some (.Name x pos')) pos.line X.env=pure false:=by rfl)
  (hf:X.fn x=true\/X.env.scope.names.lookup x=some .local:=by exact xwA):JS X C (.Assign [.Name x pos'] e pos) (zdC i f) :=
 PS.weak (ztT hN hi hx he hs) λD Y H ⟨G,w,Z,r,p⟩=>by
  refine zxK (κ:=λG H w=>kS X.K C D G H w) r p λds Z1 a vs G1 H1 w1 r1 s1 h0 h1 h2 h3 q1 p1=>?_;by_cases hl:i < Z1.length
  ·simp only[hl,if_true] at p1;obtain ⟨r',s'⟩:=r1.setOwn hl hp h1 h2 h3 q1 s1 h0 (r.en.k a h0);exact p1 _ _ _ _ s' r'
  ·simp only[hl,if_false] at p1;exact p1.elim
def zpF(i:Nat)(fb:De):De:=λZ=>match Z[i]? with
 |some (some _)=>(fb Z).bind λb=>match b.2[i]?,b.1 with
  |some (some (.own ds)),.int k=>match atI ds k with
   |some d=>.ok (d,b.2)
   |none=>.no
  |_,_=>.no
 |_=>.no
theorem zkQ{K:W.Frag}{G:Hp}{ds:List Dt}{vs:List V}{k:Int}{d:Dt}(h:za6 K G ds vs)(e:atI ds k=some d):∃ v,atI vs k=some v/\Rep K G d v:=by
 unfold atI at e ⊢;rw[<- h.length];cases q:ixN ds.length k with
 |none=>rw[q] at e;cases e
 |some j =>
  rw[q] at e;exact h.get e
theorem ziy(i:Nat){x:Str}{ps:Pos}(hN:X.N[i]? = some x:=by rfl)(hb:JE X C b fb)(hv:Vis X.env.scope x:=by exact xwV)(hd:(x == ("__debug__" : Str))=false:=by decide)
  (hcd:(x == ("__classdict__" : Str))=false:=by decide) (hs:zk4 b:=by exact λ_ _=>rfl):JE X C (.Subscript (.Name x ps) b pos) (zpF i fb) :=
 PE.weak (zvA zm4 (zd2 hN hv hd hcd) hb hs) λY H Q ⟨G,w,Z,r,p⟩=>by
  unfold zpF at p;split at p
  ·rename_i b0 e0;obtain ⟨v0,h0,_⟩:=r.sl i b0 e0;refine ⟨v0,h0,?_⟩;refine zeL (κ:=λG H w=>kE X.K C Y Q G H w) zcy r p λd Z1 v G1 H1 w1 r1 s1 q1 p1=>?_;dsimp only at p1;split at p1
   ·rename_i ds k e1;obtain ⟨v1,h1,a,vs,rfl,h2,h3,h4⟩:=r1.sl i _ e1;rw[h0] at h1;cases h1;split at p1
    ·rename_i d' e2;obtain ⟨v2,h5,h6⟩:=zkQ h4 e2;exact ⟨a,vs,k,v2,rfl,zaB q1,SqL.of h3,h5,p1 v2 G1 H1 w1 (.refl _ _ _) r1 h6⟩
    ·exact p1.elim
   ·exact p1.elim
  ·exact p.elim
end
def zo4(K:W.Frag)(J:It)(G:Hp)(ds:List Dt):Prop:=∀(i:Nat)(G1 H:Hp),zdN G G1->zdN G1 H ->
 (∀ d,ds[i]? = some d->J.go i H/\∀ x H',J.yld i H x H'->∃ G2,zeC G1 H G2 H'/\Rep K G2 d x)/\(ds.length<=i->J.stop i H)
def kI(K:W.Frag)(C:Cn)(Y:L2.St)(Q:It->Hp->Prop)(G H:Hp)(w:Wn)(a:List Dt×Ev):Prop :=
 ∀ J G' H' w',zbP G H w G' H' w'->Rel K C G' w' a.2 Y H'->zo4 K J G' a.1->Q J H'
def tI(K:W.Frag)(C:Cn)(f:DA):TI:=λY H Q=>∃ G w Z,Rel K C G w Z Y H/\zc1 C.ex (kI K C Y Q G H w) (f Z)
abbrev JI(X:Cx)(C:Cn)(tg iter:Expr)(f:DA):Prop:=PI X tg iter (tI X.K C f)
section
variable{X:Cx}{C:Cn}{tg iter:Expr}{fa:De}{pos:Pos}
theorem zxF{K:W.Frag}{Y:L2.St}{α:Type}{κ:zrN α}(st:Stp κ){G H:Hp}{w:Wn}{Z:Ev}{fa:DA}{g:List Dt×Ev->R α}{Q:It->Hp->Prop}(r:Rel K C G w Z Y H)(p:zc1 C.ex (κ G H w) ((fa Z).bind g))
  (k:∀ ds Z1 J G1 H1 w1,Rel K C G1 w1 Z1 Y H1->zbP G H w G1 H1 w1->zo4 K J G1 ds->zc1 C.ex (κ G1 H1 w1) (g (ds,Z1))->Q J H1):tI K C fa Y H Q:=by
 refine ⟨G,w,Z,r,?_⟩;cases e:fa Z with
 |ok a =>
  rw[e] at p;intro v G' H' w' s' r' q;exact k a.1 a.2 v G' H' w' r' s' q (zc1.step st s' p)
 |er n=>rw[e] at p;exact p
 |no=>rw[e] at p;exact p
theorem PI.or{t t':TI}(h:PI X tg iter t)(h':PI X tg iter t'):PI X tg iter (λY H Q=>t Y H Q\/t' Y H Q):=λpS s Y H Q I q=>q.elim (h pS s Y H Q I) (h' pS s Y H Q I)
theorem PI.weak{t t':TI}(h:PI X tg iter t)(k:∀ Y H Q,t' Y H Q->t Y H Q):PI X tg iter t':=λpS s Y H Q I q=>h pS s Y H Q I (k Y H Q q)
def dIt(f:De):DA:=λZ=>(f Z).bind λa=>match a.1 with
 |.lst l=>.ok (l,a.2)
 |.tup l=>.ok (l,a.2)
 |_=>.no
theorem zw3{K:W.Frag}{G:Hp}{a:Addr}{vs:List V}{ds:List Dt}(hs:SqT K G a vs)(q:za6 K G ds vs):zo4 K (Itt K a) G ds:=λi G1 H s1 s2=>by refine ⟨λd e=>?_,λh=>⟨vs,zaO s2 (zaO s1 hs),by rw[<- q.length];exact h⟩⟩;obtain ⟨v,e1,e2⟩:=q.get e;refine ⟨⟨vs,v,zaO s2 (zaO s1 hs),e1⟩,λx H' y=>?_⟩;obtain ⟨rfl,y⟩:=y;have:=y vs (zaO s2 (zaO s1 hs));rw[e1] at this;cases this;exact ⟨G1,.refl s2,e2.same s1⟩
theorem zvE{K:W.Frag}{G:Hp}{a:Addr}{vs:List V}{ds:List Dt}(hs:SqL K G a vs)(q:za6 K G ds vs):zo4 K (Itl K a) G ds:=λi G1 H s1 s2=>by refine ⟨λd e=>?_,λh=>⟨vs,s2.seq (s1.seq hs),by rw[<- q.length];exact h⟩⟩;obtain ⟨v,e1,e2⟩:=q.get e;refine ⟨⟨vs,v,s2.seq (s1.seq hs),e1⟩,λx H' y=>?_⟩;obtain ⟨rfl,y⟩:=y;have:=y vs (s2.seq (s1.seq hs));rw[e1] at this;cases this;exact ⟨G1,.refl s2,e2.same s1⟩
theorem zcg(h:JE X C iter fa):JI X C tg iter (dIt fa):=PI.weak (PI.or (zvf h) (zvW h)) λY H Q ⟨G,w,Z,r,p⟩=>by
 unfold dIt at p;cases e:fa Z with
 |ok x =>
  obtain ⟨d,Z1⟩:=x;cases d with
  |lst l =>
   rw[e] at p;refine .inl ⟨G,w,Z,r,?_⟩;rw[e];intro v G' H' w' s' r' q;obtain ⟨a,vs,rfl,h1,h2⟩:=zaT q;exact ⟨a,rfl,⟨vs,SqL.of (r'.gh _ _ h1)⟩,p _ G' H' w' s' r' (zvE (SqL.of h1) h2)⟩
  |tup l =>
   rw[e] at p;refine .inr ⟨G,w,Z,r,?_⟩;rw[e];intro v G' H' w' s' r' q;obtain ⟨a,vs,rfl,h1,h2⟩:=zbF q;exact ⟨a,rfl,⟨vs,zaO r'.gh h1⟩,p _ G' H' w' s' r' (zw3 h1 h2)⟩
  |_=>rw[e] at p;exact p.elim
 |er n=>rw[e] at p;exact .inl ⟨G,w,Z,r,by rw[e];exact p⟩
 |no=>rw[e] at p;exact p.elim
def zca(lo:Int)(n:Nat):List Dt:=(List.range n).map λk=>.int (lo+(k:Nat))
theorem zwu{K:W.Frag}{G:Hp}{lo:Int}{n:Nat}:zo4 K (Itr lo n) G (zca lo n):=λi G1 H s1 s2=>by
 refine ⟨λd e=>?_,λh=>show n<=i by simpa [zca] using h⟩;unfold zca at e;rw[List.getElem?_map] at e;by_cases hi:i<n
 ·rw[List.getElem?_range hi] at e;cases e;refine ⟨hi,λx H' y=>?_⟩;obtain ⟨rfl,rfl⟩:=y;exact ⟨G1,.refl s2,by unfold Rep;rfl⟩
 ·rw[List.getElem?_eq_none (by simpa using hi)] at e;cases e
def zf2(j:Int):Bool:=decide (-4611686018427387904<=j) && decide (j<4611686018427387904)
theorem zhv{j:Int}(h:zf2 j=true):-(2 ^ 62)<=j/\j<2 ^ 62:=by unfold zf2 at h;rw[Bool.and_eq_true] at h;have h1:=of_decide_eq_true h.1;have h2:=of_decide_eq_true h.2;lia
def zdS(fa:De):DA:=λZ=>(fa Z).bind λa=>match a.1 with
 |.int j=>if zf2 j=true then .ok (zca 0 j.toNat,a.2) else .no
 |_=>.no
theorem zfa{e:Expr}{p ps:Pos}(hg:Gl X "range")(hm:X.mg "range"=none)(he:JE X C e fa)(hs:starEach [e] X.env=[(false,eval e X.env)]:=by rfl):JI X C tg (.Call (.Name "range" p) [e] [] ps) (zdS fa) :=
 PI.weak (zq6 hg hm (zao he za1 (by rw[hs];rfl)) hs) λY H Q ⟨G,w,Z,r,p⟩=>by
  unfold zdS at p;refine ⟨G,w,Z,r,?_⟩;unfold dA dA0;cases e:fa Z with
  |ok x =>
   obtain ⟨d,Z1⟩:=x;rw[e] at p;intro vs G' H' w' s' r' q;obtain ⟨v,t,rfl,q1,q2⟩:=q.cons_inv;rw[q2.nil_inv];cases d with
   |int j =>
    simp only[R.bind_ok] at p;by_cases hj:zf2 j=true
    ·simp only[hj,if_true] at p;exact ⟨j,by rw[zaB q1],(zhv hj).1,(zhv hj).2,p _ G' H' w' s' r' zwu⟩
    ·simp only[hj] at p;exact p.elim
   |_=>exact p.elim
  |er n=>rw[e] at p;exact p
  |no=>rw[e] at p;exact p
abbrev DG:=Dt->Ev->R Ev
def kG(K:W.Frag)(C:Cn)(Q:L2.St->Hp->Prop)(G H:Hp)(w:Wn)(Z:Ev):Prop :=
 ∀ Y' G' H' w',zbP G H w G' H' w'->Rel K C G' w' Z Y' H'->Q Y' H'
def tG(K:W.Frag)(C:Cn)(g:DG):TG:=λv Y H Q=>∃ G w Z d,Rel K C G w Z Y H/\Rep K G d v/\zc1 C.ex (kG K C Q G H w) (g d Z)
abbrev JG(X:Cx)(C:Cn)(tg:Expr)(g:DG):Prop:=PG X tg (tG X.K C g)
theorem PG.weak{t t':TG}(h:PG X tg t)(k:∀ v Y H Q,t' v Y H Q->t v Y H Q):PG X tg t':=λpS s Y H v u Q I r q=>h pS s Y H v u Q I r (k v Y H Q q)
def zb0(i:Nat):DG:=λd Z=>if i < Z.length then .ok (Z.set i (some (.val d))) else .no
theorem zbb{i:Nat}{x:Str}(hN:X.N.Nodup)(hi:X.N[i]? = some x)(hx:Loc X.env.scope x)(hp:i∉C.pp)(hf:X.fn x=true\/X.env.scope.names.lookup x=some .local:=by exact xwA):JG X C (.Name x pos) (zb0 i) :=
 PG.weak (znk hN hi hx hf) λv Y H Q ⟨G,w,Z,d,r,q,p⟩=>by
  unfold zb0 at p;by_cases hl:i < Z.length
  ·simp only[hl,if_true] at p;exact p _ G H w (.refl _ _ _) (r.setVal hl hp q)
  ·simp only[hl,if_false] at p;exact p.elim
def zhD(i j:Nat):DG:=λd Z=>match d with
 |.tup [a,b]=>if i < Z.length/\j < Z.length then .ok ((Z.set i (some (.val a))).set j (some (.val b))) else .no
 |_=>.no
theorem zru{i j k:Nat}{x y:Str}{p1 p2:Pos}(hc:X.calm=true)(hN:X.N.Nodup)(hi:X.N[i]? = some x)(hj:X.N[j]? = some y)(hx:Loc X.env.scope x)(hy:Loc X.env.scope y)(hp:i∉C.pp)(hq:j∉C.pp)
  (hf:X.fn x=true\/X.env.scope.names.lookup x=some .local:=by exact xwA) (hf2:X.fn y=true\/X.env.scope.names.lookup y=some .local:=by exact xwA)
  (hs1:(assignEach [.Name x p1,.Name y p2] X.env).map (·.2)=assign (.Name x p1) X.env::(assignEach [.Name y p2] X.env).map (·.2):=by rfl) (hs2:(assignEach [.Name y p2] X.env).map (·.2)=assign (.Name y p2) X.env::(assignEach [] X.env).map (·.2):=by rfl)
  (hn:(assignEach [.Name x p1,.Name y p2] X.env).length=2:=by rfl) (hst:(assignEach [.Name x p1,.Name y p2] X.env).findIdx? (·.1)=none:=by rfl):JG X C (.Tuple [.Name x p1,.Name y p2] k pos) (zhD i j) :=
 PG.weak (zwI hc (znt (znk hN hi hx hf) (znt (znk hN hj hy hf2) zva hs2) hs1) hn hst) λv Y H Q ⟨G,w,Z,d,r,q,p⟩=>by
  unfold zhD at p;split at p
  ·rename_i a b;obtain ⟨ad,vs,rfl,h1,h2⟩:=zbF q;obtain ⟨v1,t,rfl,q1,q2⟩:=h2.cons_inv;obtain ⟨v2,t2,rfl,q3,q4⟩:=q2.cons_inv;rw[q4.nil_inv] at h1;by_cases hl:i < Z.length/\j < Z.length
   ·simp only[hl,and_self,if_true] at p;have r1:=r.setVal hl.1 hp q1;have r2:=r1.setVal (i:=j) (by simpa using hl.2) hq q3;exact ⟨ad,_,rfl,zaO r.gh h1,rfl,v1,_,rfl,v2,_,rfl,rfl,p _ G H w (.refl _ _ _) r2⟩
   ·simp only[hl,if_false] at p;exact p.elim
  ·exact p.elim
def zoP(g:DG)(body:DS):List Dt->DS
 |[],Z=>.ok (.nx,Z)
 |d::r,Z=>(g d Z).bind λZ1=>(body Z1).bind λa=>match a.1 with
  |.nx=>zoP g body r a.2
  |.ct=>zoP g body r a.2
  |.bk=>.ok (.nx,a.2)
  |.rt v=>.ok (.rt v,a.2)
def ziF(fi:DA)(g:DG)(body:DS):DS:=λZ=>(fi Z).bind λa=>zoP g body a.1 a.2
theorem zg0{body:List Stmt}{fi:DA}{g:DG}{fb:DS}(hp:PassesOwn (model X.prog X.w) X.A X.env X.xe)(hc:X.calm=true)(hi:JI X C tg iter fi)(hg:JG X C tg g)(hb:JSs X C body fb)
  (hs:∀ x,foldedSetIterable iter X.env x=pure x:=by intro _;rfl):JS X C (.For tg iter body [] pos) (ziF fi g fb) :=
 PS.weak (zvV hp hc hi hg hb hs) λD Y H ⟨G,w,Z,r,p⟩=>by
  refine zxF (κ:=λG H w=>kS X.K C D G H w) zfj r p λds Z1 J G1 H1 w1 r1 s1 it p1=>?_;refine ⟨λi m Y' H'=>m=ds.length-i/\i<=ds.length/\∃ G' w' Z',zdN G1 G'/\Rel X.K C G' w' Z' Y' H'/\zc1 C.ex (kS X.K C D G' H' w') (zoP g fb (ds.drop i) Z'),
   ⟨ds.length,xws,Nat.zero_le _,G1,w1,Z1,.refl _,r1,by simpa using p1⟩,?_⟩
  rintro i m Y2 H2 ⟨rfl,hi,G2,w2,Z2,s2,r2,p2⟩;obtain ⟨it1,it2⟩:=it i G2 H2 s2 r2.gh;by_cases hlt:i<ds.length
  ·have ed:ds.drop i=ds[i]::ds.drop (i+1):=List.drop_eq_getElem_cons hlt;obtain ⟨go,yl⟩:=it1 ds[i] (by simp[hlt]);rw[ed] at p2;refine .inr ⟨go,λY' H'=>(ds.length-(i+1))=ds.length-(i+1)/\i+1<=ds.length/\∃ G' w' Z',zdN G1 G'/\Rel X.K C G' w' Z' Y' H'/\zc1 C.ex (kS X.K C D G' H' w') (zoP g fb (ds.drop (i+1)) Z'),
    λY' H' h=>⟨ds.length-(i+1),xwl,h⟩,λx H' y=>?_⟩
   obtain ⟨G3,gr,q3⟩:=yl x H' y;have r3:=r2.grow gr;have p3:=zc1.step (κ:=λG H w=>kS X.K C D G H w) zfj gr.step (w1:=w2) p2;refine ⟨G3,w2,Z2,ds[i],r3,q3,?_⟩;unfold zoP at p3;cases eg:g ds[i] Z2 with
   |ok Z3 =>
    rw[eg] at p3;intro Y4 G4 H4 w4 s4 r4;have p4:=zc1.step (κ:=λG H w=>kS X.K C D G H w) zfj s4 p3;refine ⟨G4,w4,Z3,r4,?_⟩;cases eb:fb Z3 with
    |ok z =>
     obtain ⟨fl,Z5⟩:=z;rw[R.bind_ok,eb] at p4;have sG:zdN G1 G4:=(s2.trans gr.g).trans s4.g;cases fl with
     |nx=>exact λY6 G6 H6 w6 s6 r6=>⟨rfl,hlt,G6,w6,Z5,sG.trans s6.g,r6,zc1.step (κ:=λG H w=>kS X.K C D G H w) zfj s6 p4⟩
     |ct=>exact λY6 G6 H6 w6 s6 r6=>⟨rfl,hlt,G6,w6,Z5,sG.trans s6.g,r6,zc1.step (κ:=λG H w=>kS X.K C D G H w) zfj s6 p4⟩
     |bk=>exact p4
     |rt v=>exact p4
    |er n=>rw[R.bind_ok,eb] at p4;exact p4
    |no=>rw[R.bind_ok,eb] at p4;exact p4
   |er n=>rw[eg] at p3;exact p3
   |no=>rw[eg] at p3;exact p3
  ·have e:i=ds.length:=by lia
   subst e;simp only[List.drop_length] at p2;exact .inl ⟨it2 (wal _),p2 Y2 G2 H2 w2 (.refl _ _ _) r2⟩
def zbA(c:DT)(body:DS):Nat->DS
 |0,_=>.no
 |n+1,Z=>(c Z).bind λt=>if t.1=true then (body t.2).bind λa=>match a.1 with
   |.nx=>zbA c body n a.2
   |.ct=>zbA c body n a.2
   |.bk=>.ok (.nx,a.2)
   |.rt v=>.ok (.rt v,a.2)
  else .ok (.nx,t.2)
theorem znN(n:Nat){c:Expr}{body:List Stmt}{tc:DT}{fb:DS}(hp:PassesOwn (model X.prog X.w) X.A X.env X.xe)(hc:JT X C c tc)(hb:JSs X C body fb):JS X C (.While c body [] pos) (zbA tc fb n) :=
 PS.weak (zsp hp hc hb) λD Y H ⟨G,w,Z,r,p⟩=>by
  refine ⟨λm Y' H'=>∃ G' w' Z',Rel X.K C G' w' Z' Y' H'/\zc1 C.ex (kS X.K C D G' H' w') (zbA tc fb m Z'),⟨n,G,w,Z,r,p⟩,?_⟩;rintro m Y1 H1 ⟨G1,w1,Z1,r1,p1⟩;cases m with
  |zero=>exact p1.elim
  |succ m =>
   unfold zbA at p1;refine zvN (κ:=λG H w=>kS X.K C D G H w) zfj r1 p1 λb Z2 G2 H2 w2 r2 s2 p2=>?_;cases b with
   |false=>exact p2 Y1 G2 H2 w2 (.refl _ _ _) r2
   |true =>
    refine ⟨λY' H'=>∃ G' w' Z',Rel X.K C G' w' Z' Y' H'/\zc1 C.ex (kS X.K C D G' H' w') (zbA tc fb m Z'),λY' H' h=>⟨m,Nat.lt_succ_self _,h⟩,G2,w2,Z2,r2,?_⟩;have p2:zc1 C.ex (kS X.K C D G2 H2 w2) ((fb Z2).bind λa=>match a.1 with
     |.nx=>zbA tc fb m a.2
     |.ct=>zbA tc fb m a.2
     |.bk=>.ok (.nx,a.2)
     |.rt v=>.ok (.rt v,a.2)):=p2
    cases eb:fb Z2 with
    |ok z =>
     obtain ⟨fl,Z5⟩:=z;rw[eb] at p2;cases fl with
     |nx=>exact λY6 G6 H6 w6 s6 r6=>⟨G6,w6,Z5,r6,zc1.step (κ:=λG H w=>kS X.K C D G H w) zfj s6 p2⟩
     |ct=>exact λY6 G6 H6 w6 s6 r6=>⟨G6,w6,Z5,r6,zc1.step (κ:=λG H w=>kS X.K C D G H w) zfj s6 p2⟩
     |bk=>exact p2
     |rt v=>exact p2
    |er n=>rw[eb] at p2;exact p2
    |no=>rw[eb] at p2;exact p2
end
abbrev FD:=List B->R (Dt×List B)
def ztw:B->Bool
 |.val _=>false
 |_=>true
def zdE(bs:List B):List Bool:=bs.map ztw
structure PRel(K:W.Frag)(G H:Hp)(w:Wn)(bs:List B)(vs:List V):Prop where
 gh:zdN G H
 wg:∀ b,w b≠none->G b=none
 wh:∀ b,w b≠none->H b≠none
 len:bs.length=vs.length
 sl:∀(j:Nat)(b:B)(v:V),bs[j]? = some b->vs[j]? = some v->RB K G H w j v b
structure zsL(K:W.Frag)(G H:Hp)(w:Wn)(ks:List Bool)(bs:List B)(vs:List V):Prop where
 gh:zdN G H
 wg:∀ b,w b≠none->G b=none
 wh:∀ b,w b≠none->H b≠none
 sl:∀(j:Nat)(v:V),ks[j]? = some true->vs[j]? = some v->∃ b,bs[j]? = some b/\RB K G H w j v b
def zqn(nw:Bool)(K:W.Frag)(xv:Nat->Value)(ks:List Bool)(F:FD):Sp:=λvs H Q E=>∃ G w bs,vs.length=ks.length/\zdE bs=ks/\PRel K G H w bs vs /\
 match F bs with
 |.ok a=>∀ v G' H' w',zbP G H w G' H' w'->zsL K G' H' w' ks a.2 vs->RtG nw K H G' H' w' a.1 v->Q v H'
 |.er n=>∀ G' H' w',zbP G H w G' H' w'->E (xv n) none H'
 |.no=>False
def EXc(C:Cn):XK:=λu a H'=>a=none/\∃ n,u=C.xv n/\C.ex n/\∃ G' w',zbP C.G₀ C.H₀ C.w₀ G' H' w'
inductive Arg where
 |d (x:Dt)|s (i:Nat)
def zdU(K:W.Frag)(G:Hp)(Y:L2.St):List Arg->List V->Prop
 |[],vs=>vs=[]
 |.d x::r,vs=>∃ v t,vs=v::t/\Rep K G x v/\zdU K G Y r t
 |.s i::r,vs=>∃ v t,vs=v::t/\Y[i]? = some (some v)/\zdU K G Y r t
theorem zdU.same{K:W.Frag}{G G':Hp}{Y:L2.St}(e:zdN G G'):∀{as:List Arg}{vs:List V},zdU K G Y as vs->zdU K G' Y as vs
 |[],_,h=>h
 |.d _::_,_,⟨v,t,h1,h2,h3⟩=>⟨v,t,h1,h2.same e,zdU.same e h3⟩
 |.s _::_,_,⟨v,t,h1,h2,h3⟩=>⟨v,t,h1,h2,zdU.same e h3⟩
abbrev DAr:=Ev->R (List Arg×Ev)
def kAr(K:W.Frag)(C:Cn)(Y:L2.St)(Q:List V->Hp->Prop)(G H:Hp)(w:Wn)(a:List Arg×Ev):Prop :=
 ∀ vs G' H' w',zbP G H w G' H' w'->Rel K C G' w' a.2 Y H'->zdU K G' Y a.1 vs->Q vs H'
def tAr(K:W.Frag)(C:Cn)(f:DAr):TA:=λY H Q=>∃ G w Z,Rel K C G w Z Y H/\zc1 C.ex (kAr K C Y Q G H w) (f Z)
abbrev JAr(X:Cx)(C:Cn)(es:List Expr)(f:DAr):Prop:=PA X es (tAr X.K C f)
theorem zp9{K:W.Frag}{C:Cn}{Y:L2.St}{Q:List V->Hp->Prop}:Stp (λG H w=>kAr K C Y Q G H w):=λ_ _ _ _ _ _ _ s k v G' H' w' s'=>k v G' H' w' (s.trans s')
theorem zs1{K:W.Frag}{C:Cn}{Y:L2.St}{α:Type}{κ:zrN α}(st:Stp κ){G H:Hp}{w:Wn}{Z:Ev}{fa:DAr}{g:List Arg×Ev->R α}{Q:List V->Hp->Prop}(r:Rel K C G w Z Y H)(p:zc1 C.ex (κ G H w) ((fa Z).bind g))
  (k:∀ as Z1 vs G1 H1 w1,Rel K C G1 w1 Z1 Y H1->zbP G H w G1 H1 w1->zdU K G1 Y as vs->zc1 C.ex (κ G1 H1 w1) (g (as,Z1))->Q vs H1):tAr K C fa Y H Q:=by
 refine ⟨G,w,Z,r,?_⟩;cases e:fa Z with
 |ok a =>
  rw[e] at p;intro v G' H' w' s' r' q;exact k a.1 a.2 v G' H' w' r' s' q (zc1.step st s' p)
 |er n=>rw[e] at p;exact p
 |no=>rw[e] at p;exact p
def dR0:DAr:=λZ=>.ok ([],Z)
def dR(fa:De)(fr:DAr):DAr:=λZ=>(fa Z).bind λa=>(fr a.2).bind λb=>.ok (.d a.1::b.1,b.2)
def dRO(i:Nat)(fr:DAr):DAr:=λZ=>match Z[i]? with
 |some (some _)=>(fr Z).bind λb=>.ok (.s i::b.1,b.2)
 |_=>.no
section
variable{X:Cx}{C:Cn}{fa:De}{fr:DAr}{pos:Pos}
theorem zaq:JAr X C [] dR0:=PA.weak zde λY H Q ⟨G,w,Z,r,p⟩=>p _ G H w (.refl _ _ _) r rfl
theorem zac{e:Expr}{es:List Expr}(ha:JE X C e fa)(hr:JAr X C es fr)(hs:starEach (e::es) X.env=(false,eval e X.env)::starEach es X.env:=by rfl):JAr X C (e::es) (dR fa fr) :=
 PA.weak (zbn ha hr hs) λY H Q ⟨G,w,Z,r,p⟩=>by refine zeL (κ:=λG H w=>kAr X.K C Y Q G H w) zp9 r p λd Z1 v G1 H1 w1 r1 s1 q1 p1=>?_;refine zs1 (κ:=λG H w=>kAr X.K C Y Q G H w) zp9 r1 p1 λas Z2 vs G2 H2 w2 r2 s2 q2 p2=>?_;exact p2 _ G2 H2 w2 (.refl _ _ _) r2 ⟨v,vs,rfl,q1.same s2.g,q2⟩
theorem zcU(i:Nat){x:Str}{ps:Pos}{es:List Expr}(hr:JAr X C es fr)(hN:X.N[i]? = some x:=by rfl)(hv:Vis X.env.scope x:=by exact xwV)(hd:(x == ("__debug__" : Str))=false:=by decide)
  (hcd:(x == ("__classdict__" : Str))=false:=by decide) (hs:starEach (.Name x ps::es) X.env=(false,eval (.Name x ps) X.env)::starEach es X.env:=by rfl):JAr X C (.Name x ps::es) (dRO i fr) :=
 PA.weak (zbn (zd2 hN hv hd hcd) hr hs) λY H Q ⟨G,w,Z,r,p⟩=>by
  unfold dRO at p;split at p
  ·rename_i b e;obtain ⟨v,h1,_⟩:=r.sl i b e;refine ⟨v,h1,?_⟩;refine zs1 (κ:=λG H w=>kAr X.K C Y Q G H w) zp9 r p λas Z2 vs G2 H2 w2 r2 s2 q2 p2=>?_;exact p2 _ G2 H2 w2 (.refl _ _ _) r2 ⟨v,vs,rfl,h1,q2⟩
  ·exact p.elim
end
def ztQ(as:List Arg)(j:Nat):Option Nat:=match as[j]? with
 |some (.s i)=>some i
 |_=>none
def zeR(i:Nat):Nat->List Arg->Option Nat
 |_,[]=>none
 |j,.s i'::r=>if i'=i then some j else zeR i (j+1) r
 |j,.d _::r=>zeR i (j+1) r
def zeU(as:List Arg)(i:Nat):Option Nat:=zeR i 0 as
def zbB(as:List Arg):Nat->List Arg->Bool
 |_,[]=>true
 |j,.s i::r=>(zeU as i == some j) && zbB as (j+1) r
 |j,.d _::r=>zbB as (j+1) r
def zpc(as:List Arg):Bool:=zbB as 0 as
theorem zfX{as:List Arg}:∀{l:List Arg}{j k:Nat}{i:Nat},zbB as j l=true->l[k]? = some (.s i)->zeU as i=some (j+k)
 |[],_,_,_,_,e=>by simp at e
 |.s i'::r,j,0,i,h,e=>by simp at e;subst e;unfold zbB at h;rw[Bool.and_eq_true] at h;simpa using h.1
 |.s i'::r,j,k+1,i,h,e=>by unfold zbB at h;rw[Bool.and_eq_true] at h;have:=zfX (k:=k) h.2 (by simpa using e);rw[this];congr 1;lia
 |.d x::r,j,0,i,h,e=>by simp at e
 |.d x::r,j,k+1,i,h,e=>by unfold zbB at h;have:=zfX (k:=k) h (by simpa using e);rw[this];congr 1;lia
theorem zgR{i:Nat}:∀{l:List Arg}{j m:Nat},zeR i j l=some m->∃ k,m=j+k/\l[k]? = some (.s i)
 |[],_,_,h=>by simp[zeR] at h
 |.s i'::r,j,m,h=>by
  unfold zeR at h;split at h
  ·rename_i e;subst e;cases h;exact ⟨0,rfl,rfl⟩
  ·obtain ⟨k,h1,h2⟩:=zgR h;exact ⟨k+1,xwl,by simpa using h2⟩
 |.d x::r,j,m,h=>by unfold zeR at h;obtain ⟨k,h1,h2⟩:=zgR h;exact ⟨k+1,xwl,by simpa using h2⟩
theorem zsc{as:List Arg}{i j:Nat}(h:zeU as i=some j):as[j]? = some (.s i):=by
 obtain ⟨k,h1,h2⟩:=zgR h;have:j=k:=by lia
 subst this;exact h2
theorem znG{as:List Arg}{i j:Nat}(u:zpc as=true)(h:as[j]? = some (.s i)):zeU as i=some j:=by have:=zfX (j:=0) u h;simpa using this
def zaE(Z:Ev):List Arg->R (List B)
 |[]=>.ok []
 |.d x::r=>(zaE Z r).bind λbs=>.ok (.val x::bs)
 |.s i::r=>match Z[i]? with
  |some (some b)=>if ztw b=true then (zaE Z r).bind λbs=>.ok (b::bs) else .no
  |_=>.no
def ziH(as:List Arg)(bs:List B):Nat->Ev->Ev
 |_,[]=>[]
 |i,o::r=>(match zeU as i with|some j=>bs[j]?|none=>o)::ziH as bs (i+1) r
theorem zow{as:List Arg}{bs:List B}:∀{Z:Ev}{k i:Nat},(ziH as bs k Z)[i]? = Z[i]?.map λo=>match zeU as (k+i) with|some j=>bs[j]?|none=>o
 |[],_,_=>by simp[ziH]
 |o::r,k,0=>by simp[ziH]
 |o::r,k,i+1=>by
  have:=zow (as:=as) (bs:=bs) (Z:=r) (k:=k+1) (i:=i);simp only[ziH,List.getElem?_cons_succ];rw[this];have e:k+1+i=k+(i+1):=by lia
  rw[e]
theorem zn9{as:List Arg}{bs:List B}:∀{Z:Ev}{k:Nat},(ziH as bs k Z).length = Z.length
 |[],_=>rfl
 |o::r,k=>by simp[ziH,zn9 (Z:=r)]
def zai(F:FD)(fa:DAr):De:=λZ=>(fa Z).bind λa=>if zpc a.1=true then (zaE a.2 a.1).bind λbs=>(F bs).bind λz=>.ok (z.1,ziH a.1 z.2 0 a.2) else .no
theorem zfd{Z:Ev}:∀{as:List Arg}{bs:List B}{j i:Nat},zaE Z as=.ok bs->as[j]? = some (.s i)->∃ b,Z[i]? = some (some b)/\bs[j]? = some b/\ztw b=true
 |[],bs,j,i,h,e=>by simp at e
 |.d x::r,bs,j,i,h,e=>by
  unfold zaE at h;cases q:zaE Z r with
  |ok l =>
   rw[q] at h;simp only[R.bind_ok,R.ok.injEq] at h;subst h;cases j with
   |zero=>simp at e
   |succ j =>
    obtain ⟨b,h1,h2,h3⟩:=zfd (j:=j) q (by simpa using e);exact ⟨b,h1,by simpa using h2,h3⟩
  |er n=>rw[q] at h;simp at h
  |no=>rw[q] at h;simp at h
 |.s i'::r,bs,j,i,h,e=>by
  unfold zaE at h;split at h
  ·rename_i b eb;split at h
   ·rename_i ob;cases q:zaE Z r with
    |ok l =>
     rw[q] at h;simp only[R.bind_ok,R.ok.injEq] at h;subst h;cases j with
     |zero=>simp at e;subst e;exact ⟨b,eb,rfl,ob⟩
     |succ j =>
      obtain ⟨b,h1,h2,h3⟩:=zfd (j:=j) q (by simpa using e);exact ⟨b,h1,by simpa using h2,h3⟩
    |er n=>rw[q] at h;simp at h
    |no=>rw[q] at h;simp at h
   ·cases h
  ·cases h
theorem zfv{Z:Ev}:∀{as:List Arg}{n:Nat},zaE Z as≠.er n
 |[],n,h=>by simp[zaE] at h
 |.d x::r,n,h=>by
  unfold zaE at h;cases q:zaE Z r with
  |ok l=>rw[q] at h;simp at h
  |er m=>exact zfv q
  |no=>rw[q] at h;simp at h
 |.s i::r,n,h=>by
  unfold zaE at h;split at h
  ·split at h
   ·cases q:zaE Z r with
    |ok l=>rw[q] at h;simp at h
    |er m=>exact zfv q
    |no=>rw[q] at h;simp at h
   ·cases h
  ·cases h
def wIn(w:Wn)(as:List Arg):Wn:=λb=>(w b).bind (zeU as)
def zrJ(w w':Wn)(as:List Arg):Wn:=λb=>match w' b with
 |some j=>ztQ as j
 |none=>if (w b).bind (zeU as)=none then w b else none
section
variable{K:W.Frag}{C:Cn}{Y:L2.St}{G H:Hp}{w:Wn}{Z:Ev}
theorem zkJ(r:Rel K C G w Z Y H):∀{as l:List Arg}{vs:List V}{bs:List B}{k j:Nat}{b:B}{v:V},(∀ m i,l[m]? = some (.s i)->zeU as i=some (k+m))->zdU K G Y l vs->zaE Z l=.ok bs->bs[j]? = some b->vs[j]? = some v->RB K G H (wIn w as) (k+j) v b
 |as,[],vs,bs,k,j,b,v,hu,ha,hr,hb,hv=>by simp[zaE] at hr;subst hr;simp at hb
 |as,.d x::l,vs,bs,k,j,b,v,hu,ha,hr,hb,hv=>by
  obtain ⟨v0,t,rfl,h2,h3⟩:=ha;unfold zaE at hr;cases q:zaE Z l with
  |ok l' =>
   rw[q] at hr;simp only[R.bind_ok,R.ok.injEq] at hr;subst hr;cases j with
   |zero=>simp at hb hv;subst hb;subst hv;exact h2
   |succ j =>
    have:=zkJ r (as:=as) (k:=k+1) (j:=j) (λm i e=>by rw[hu (m+1) i (by simpa using e)];congr 1;lia) h3 q (by simpa using hb) (by simpa using hv);have e:k+1+j=k+(j+1):=by lia
    rw[e] at this;exact this
  |er n=>rw[q] at hr;simp at hr
  |no=>rw[q] at hr;simp at hr
 |as,.s i::l,vs,bs,k,j,b,v,hu,ha,hr,hb,hv=>by
  obtain ⟨v0,t,rfl,h2,h3⟩:=ha;unfold zaE at hr;split at hr
  ·rename_i b0 eb;split at hr
   ·rename_i ob;cases q:zaE Z l with
    |ok l' =>
     rw[q] at hr;simp only[R.bind_ok,R.ok.injEq] at hr;subst hr;cases j with
     |zero =>
      simp at hb hv;subst hb;subst hv;obtain ⟨v1,h4,h5⟩:=r.sl i _ eb;rw[h2] at h4;cases h4;exact h5.grow (.refl _) λa o e1 e2=>⟨e2,by unfold wIn;rw[e1];exact hu 0 i rfl⟩
     |succ j =>
      have:=zkJ r (as:=as) (k:=k+1) (j:=j) (λm i e=>by rw[hu (m+1) i (by simpa using e)];congr 1;lia) h3 q (by simpa using hb) (by simpa using hv);have e:k+1+j=k+(j+1):=by lia
      rw[e] at this;exact this
    |er n=>rw[q] at hr;simp at hr
    |no=>rw[q] at hr;simp at hr
   ·cases hr
  ·cases hr
theorem zh5:∀{as:List Arg}{vs:List V}{bs:List B},zdU K G Y as vs->zaE Z as=.ok bs->bs.length=vs.length
 |[],vs,bs,ha,hr=>by simp[zaE] at hr;subst hr;cases ha;rfl
 |.d x::l,vs,bs,ha,hr=>by
  obtain ⟨v0,t,rfl,h2,h3⟩:=ha;unfold zaE at hr;cases q:zaE Z l with
  |ok l'=>rw[q] at hr;simp only[R.bind_ok,R.ok.injEq] at hr;subst hr;simp[zh5 h3 q]
  |er n=>rw[q] at hr;simp at hr
  |no=>rw[q] at hr;simp at hr
 |.s i::l,vs,bs,ha,hr=>by
  obtain ⟨v0,t,rfl,h2,h3⟩:=ha;unfold zaE at hr;split at hr
  ·split at hr
   ·cases q:zaE Z l with
    |ok l'=>rw[q] at hr;simp only[R.bind_ok,R.ok.injEq] at hr;subst hr;simp[zh5 h3 q]
    |er n=>rw[q] at hr;simp at hr
    |no=>rw[q] at hr;simp at hr
   ·cases hr
  ·cases hr
theorem ziv:∀{as:List Arg}{vs:List V}{j i:Nat},zdU K G Y as vs->as[j]? = some (.s i)->∃ v,vs[j]? = some v/\Y[i]? = some (some v)
 |[],_,_,_,_,e=>by simp at e
 |.d x::l,vs,j,i,ha,e=>by
  obtain ⟨v0,t,rfl,h2,h3⟩:=ha;cases j with
  |zero=>simp at e
  |succ j=>obtain ⟨v,e1,e2⟩:=ziv (j:=j) h3 (by simpa using e);exact ⟨v,by simpa using e1,e2⟩
 |.s i'::l,vs,j,i,ha,e=>by
  obtain ⟨v0,t,rfl,h2,h3⟩:=ha;cases j with
  |zero=>simp at e;subst e;exact ⟨v0,rfl,h2⟩
  |succ j=>obtain ⟨v,e1,e2⟩:=ziv (j:=j) h3 (by simpa using e);exact ⟨v,by simpa using e1,e2⟩
theorem Rel.back{as:List Arg}{vs:List V}{bs bs':List B}{ks:List Bool}{G' H':Hp}{w':Wn}(r:Rel K C G w Z Y H)(u:zpc as=true)(ha:zdU K G Y as vs)(hr:zaE Z as=.ok bs)(hk:zdE bs=ks)
  (s:zbP G H (wIn w as) G' H' w') (pb:zsL K G' H' w' ks bs' vs):Rel K C G' (zrJ w w' as) (ziH as bs' 0 Z) Y H'/\zbP G H w G' H' (zrJ w w' as):=by
 have wi:∀ b,wIn w as b≠none->w b≠none:=λb e z=>e (by unfold wIn;rw[z];rfl);have wi2:∀ b,w b=none->wIn w as b=none:=λb z=>by unfold wIn;rw[z];rfl
 have st:zbP G H w G' H' (zrJ w w' as):=by
  refine ⟨s.g,λb o e=>?_,λb o e z=>s.h b o e (wi2 b z),λb e=>?_,s.k⟩
  ·rcases s.fr b o e with q|q|q
   ·exact .inl q
   ·exact .inr (.inl q)
   ·exact .inr (.inr (wi b q))
  ·unfold zrJ at e;split at e
   ·rename_i j ej;rcases s.w b (by rw[ej];simp) with q|q
    ·exact .inl (wi b q)
    ·exact .inr q
   ·split at e
    ·exact .inl e
    ·exact absurd rfl e
 have keep:∀ a o,w a≠none->(w a).bind (zeU as)=none->H a=some o->H' a=some o/\w' a=none/\G' a=none:=λa o e1 e2 e3=>by
  have e4:wIn w as a=none:=e2;have e5:=s.h a o e3 e4;have e6:w' a=none:=by
   cases q:w' a with
   |none=>rfl
   |some j =>
    rcases s.w a (by rw[q];simp) with z|z
    ·exact absurd e4 z
    ·rw[e3] at z;cases z
  refine ⟨e5,e6,?_⟩;cases q:G' a with
  |none=>rfl
  |some o' =>
   rcases s.fr a o' q with z|z|z
   ·exact absurd (r.wg a e1) z
   ·rw[e3] at z;cases z
   ·exact absurd e4 z
 refine ⟨⟨pb.gh,λb e=>?_,λb e=>?_,by rw[zn9];exact r.len,λi b e=>?_,r.en.trans st,r.pin⟩,st⟩
 ·unfold zrJ at e;split at e
  ·rename_i j ej;exact pb.wg b (by rw[ej];simp)
  ·split at e
   ·rename_i e2;cases q:H b with
    |none=>exact absurd q (r.wh b e)
    |some o=>exact (keep b o e e2 q).2.2
   ·exact absurd rfl e
 ·unfold zrJ at e;split at e
  ·rename_i j ej;exact pb.wh b (by rw[ej];simp)
  ·split at e
   ·rename_i e2;cases q:H b with
    |none=>exact absurd q (r.wh b e)
    |some o=>rw[(keep b o e e2 q).1];simp
   ·exact absurd rfl e
 ·rw[zow,Nat.zero_add] at e;cases q:zeU as i with
  |some j =>
   have ej:=zsc q;obtain ⟨v,e1,e2⟩:=ziv ha ej;obtain ⟨b0,h1,h2,h3⟩:=zfd hr ej;have hkj:ks[j]? = some true:=by rw[<- hk];unfold zdE;rw[List.getElem?_map,h2];simp[h3]
   obtain ⟨b',h4,h5⟩:=pb.sl j v hkj e1;rw[h1] at e;simp only[q,Option.map_some] at e;rw[h4] at e;have e':b'=b:=by simpa using e
   subst e';refine ⟨v,e2,h5.grow (.refl _) λa o q1 q2=>⟨q2,?_⟩⟩;unfold zrJ ztQ;rw[q1];simp only;rw[ej]
  |none =>
   cases e1:Z[i]? with
   |none=>rw[e1] at e;simp at e
   |some o0 =>
    rw[e1] at e;simp only[q,Option.map_some,Option.some.injEq] at e;subst e;obtain ⟨v,h1,h2⟩:=r.sl i b e1;refine ⟨v,h1,h2.grow s.g λa o q1 q2=>?_⟩;have z:(w a).bind (zeU as)=none:=by rw[q1];exact q
    obtain ⟨k1,k2,_⟩:=keep a o (by rw[q1];simp) z q2;refine ⟨k1,?_⟩;unfold zrJ;rw[k2];simp only;rw[if_pos z];exact q1
end
section
variable{X:Cx}{C:Cn}{CX:CXT}{k:Nat}{f:Addr}{fd:FuncData}{ps:List Str}{ks:List Bool}{Fd:FD}{x:Str}{p pos:Pos}{e:Expr}{es:List Expr}{far:DAr}
theorem zr5{Y:L2.St}{H:Hp}{Q:VK}(h:tE X.K C (zai Fd far) Y H Q)(hks:∀ bs,Fd bs≠.no->zdE bs=ks):zuy (zqn false X.K C.xv ks Fd) [] (EXc C) (tAr X.K C far) Y H Q:=by
 obtain ⟨G,w,Z,r,p⟩:=h;refine zs1 (κ:=λG H w=>kE X.K C Y Q G H w) zcy r p λas Z1 vs G1 H1 w1 r1 s1 q1 p1=>?_;rw[List.append_nil];by_cases hu:zpc as=true
 ·simp only[hu,if_true] at p1;cases er:zaE Z1 as with
  |ok bs =>
   rw[er,R.bind_ok] at p1;have hk:zdE bs=ks:=by refine hks bs λz=>?_;rw[z] at p1;exact p1
   have hl:bs.length=vs.length:=zh5 q1 er;refine ⟨G1,wIn w1 as,bs,by rw[<- hk,<- hl];simp[zdE],hk,⟨r1.gh,λb e=>r1.wg b λz=>e (by unfold wIn;rw[z];rfl),λb e=>r1.wh b λz=>e (by unfold wIn;rw[z];rfl),hl,λj b v e1 e2=>?_⟩,?_⟩
   ·have:=zkJ r1 (as:=as) (k:=0) (j:=j) (λm i e=>by rw[Nat.zero_add];exact znG hu e) q1 er e1 e2;rw[Nat.zero_add] at this;exact this
   ·cases ef:Fd bs with
    |ok z =>
     rw[ef,R.bind_ok] at p1;intro v G' H' w' s' pb q;obtain ⟨r',st⟩:=r1.back hu q1 er hk s' pb;exact p1 v G' H' _ st r' q
    |er n =>
     rw[ef] at p1;intro G' H' w' s';refine ⟨rfl,n,rfl,p1,G',λ_=>none,r1.en.trans ⟨s'.g,λb o e=>?_,λb o e z=>s'.h b o e (by unfold wIn;rw[z];rfl),λb e=>absurd rfl e,s'.k⟩⟩;rcases s'.fr b o e with q|q|q
     ·exact .inl q
     ·exact .inr (.inl q)
     ·exact .inr (.inr λz=>q (by unfold wIn;rw[z];rfl))
    |no=>rw[ef] at p1;exact p1.elim
  |er n=>exact absurd er zfv
  |no=>rw[er] at p1;exact p1.elim
 ·simp only[hu] at p1;exact p1.elim
theorem zu3(F:zgu X.prog X.w X.K X.mg X.base CX k f fd ps (zqn false X.K C.xv ks Fd))(hr:zgm k X.A)(hg:Gl X x)(hm:X.mg x=some (.ref f))(hk:W.keepIn X.K (.ref f)=true)(hb:zkm X.K fd ps [])(hx:zfe CX X (EXc C))(hks:∀ bs,Fd bs≠.no->zdE bs=ks)
  (ha:JAr X C (e::es) far) (hdb:(x == ("__debug__" : Str))=false:=by decide) (he:starEach (e::es) X.env=(false,eval e X.env)::starEach es X.env:=by rfl) (hpl:(backTo pos (starEach es X.env)).any (·.1)=false:=by rfl) :
  JE X C (.Call (.Name x p) (e::es) [] pos) (zai Fd far) :=
 PE.weak (zmP F hr hg hm hk hb .nil hx ha hdb he hpl) λY H Q h=>zr5 h hks
def zbm(F:FD)(fa:DAr):DN:=λZ=>(fa Z).bind λa=>if zpc a.1=true then (zaE a.2 a.1).bind λbs=>(F bs).bind λz=>match z.1 with
  |.lst l=>.ok (l,ziH a.1 z.2 0 a.2)
  |_=>.no
 else .no
theorem zoS{Y:L2.St}{H:Hp}{Q:VK}(h:tN X.K C (zbm Fd far) Y H Q)(hks:∀ bs,Fd bs≠.no->zdE bs=ks):zuy (zqn true X.K C.xv ks Fd) [] (EXc C) (tAr X.K C far) Y H Q:=by
 obtain ⟨G,w,Z,r,p⟩:=h;refine zs1 (κ:=λG H w=>kN X.K C Y Q G H w) zf4 r p λas Z1 vs G1 H1 w1 r1 s1 q1 p1=>?_;rw[List.append_nil];by_cases hu:zpc as=true
 ·simp only[hu,if_true] at p1;cases er:zaE Z1 as with
  |ok bs =>
   rw[er,R.bind_ok] at p1;have hk:zdE bs=ks:=by refine hks bs λz=>?_;rw[z] at p1;exact p1
   have hl:bs.length=vs.length:=zh5 q1 er;refine ⟨G1,wIn w1 as,bs,by rw[<- hk,<- hl];simp[zdE],hk,⟨r1.gh,λb e=>r1.wg b λz=>e (by unfold wIn;rw[z];rfl),λb e=>r1.wh b λz=>e (by unfold wIn;rw[z];rfl),hl,λj b v e1 e2=>?_⟩,?_⟩
   ·have:=zkJ r1 (as:=as) (k:=0) (j:=j) (λm i e=>by rw[Nat.zero_add];exact znG hu e) q1 er e1 e2;rw[Nat.zero_add] at this;exact this
   ·cases ef:Fd bs with
    |ok z =>
     rw[ef,R.bind_ok] at p1;intro v G' H' w' s' pb q;obtain ⟨r',st⟩:=r1.back hu q1 er hk s' pb;obtain ⟨l,pp,us,e1,e2,e3,e4,e5,e6,e7⟩:=q;subst e2;rw[e1] at p1;refine p1 pp us G' H' _ st r' e3 e4 e5 ?_ e7;have w1p:w1 pp=none:=by
      cases zz:w1 pp with
      |none=>rfl
      |some k=>exact absurd e3 (r1.wh pp (by rw[zz];simp))
     unfold zrJ;rw[e6,w1p];rfl
    |er n =>
     rw[ef] at p1;intro G' H' w' s';refine ⟨rfl,n,rfl,p1,G',λ_=>none,r1.en.trans ⟨s'.g,λb o e=>?_,λb o e z=>s'.h b o e (by unfold wIn;rw[z];rfl),λb e=>absurd rfl e,s'.k⟩⟩;rcases s'.fr b o e with q|q|q
     ·exact .inl q
     ·exact .inr (.inl q)
     ·exact .inr (.inr λz=>q (by unfold wIn;rw[z];rfl))
    |no=>rw[ef] at p1;exact p1.elim
  |er n=>exact absurd er zfv
  |no=>rw[er] at p1;exact p1.elim
 ·simp only[hu] at p1;exact p1.elim
theorem zvL(F:zgu X.prog X.w X.K X.mg X.base CX k f fd ps (zqn true X.K C.xv ks Fd))(hr:zgm k X.A)(hg:Gl X x)(hm:X.mg x=some (.ref f))(hk:W.keepIn X.K (.ref f)=true)(hb:zkm X.K fd ps [])(hx:zfe CX X (EXc C))(hks:∀ bs,Fd bs≠.no->zdE bs=ks)
  (ha:JAr X C (e::es) far) (hdb:(x == ("__debug__" : Str))=false:=by decide) (he:starEach (e::es) X.env=(false,eval e X.env)::starEach es X.env:=by rfl) (hpl:(backTo pos (starEach es X.env)).any (·.1)=false:=by rfl) :
  JN X C (.Call (.Name x p) (e::es) [] pos) (zbm Fd far) :=
 PE.weak (zmP F hr hg hm hk hb .nil hx ha hdb he hpl) λY H Q h=>zoS h hks
def zaL:List Bool->Ev->R (List B)
 |[],_=>.ok []
 |false::ks,_::Z=>(zaL ks Z).bind λl=>.ok (.val .non::l)
 |true::ks,some b::Z=>(zaL ks Z).bind λl=>.ok (b::l)
 |_,_=>.no
def za0(nw:Bool)(ks:List Bool)(m:Nat)(body:DS):FD:=λbs=>if zdE bs=ks then (body (bs.map some++List.replicate m none)).bind λa=>match a.1 with
  |.nx=>if nw=true then .no else (zaL ks a.2).bind λl=>.ok (.non,l)
  |.rt d=>(zaL ks a.2).bind λl=>.ok (d,l)
  |_=>.no
 else .no
theorem zas{nw:Bool}{ks:List Bool}{m:Nat}{body:DS}:∀ bs,za0 nw ks m body bs≠.no->zdE bs=ks:=λbs h=>by
 unfold za0 at h;by_cases e:zdE bs=ks
 ·exact e
 ·rw[if_neg e] at h;exact absurd rfl h
theorem zfM:∀{ks:List Bool}{Z:Ev}{l:List B}{j:Nat},zaL ks Z=.ok l->ks[j]? = some true->∃ b,l[j]? = some b/\Z[j]? = some (some b)
 |[],_,_,_,_,e=>by simp at e
 |false::ks,[],l,j,h,e=>by simp[zaL] at h
 |true::ks,[],l,j,h,e=>by simp[zaL] at h
 |false::ks,o::Z,l,j,h,e=>by
  unfold zaL at h;cases q:zaL ks Z with
  |ok l' =>
   rw[q] at h;simp only[R.bind_ok,R.ok.injEq] at h;subst h;cases j with
   |zero=>simp at e
   |succ j=>obtain ⟨b,h1,h2⟩:=zfM (j:=j) q (by simpa using e);exact ⟨b,by simpa using h1,by simpa using h2⟩
  |er n=>rw[q] at h;simp at h
  |no=>rw[q] at h;simp at h
 |true::ks,none::Z,l,j,h,e=>by simp[zaL] at h
 |true::ks,some b::Z,l,j,h,e=>by
  unfold zaL at h;cases q:zaL ks Z with
  |ok l' =>
   rw[q] at h;simp only[R.bind_ok,R.ok.injEq] at h;subst h;cases j with
   |zero=>exact ⟨b,rfl,rfl⟩
   |succ j=>obtain ⟨b,h1,h2⟩:=zfM (j:=j) q (by simpa using e);exact ⟨b,by simpa using h1,by simpa using h2⟩
  |er n=>rw[q] at h;simp at h
  |no=>rw[q] at h;simp at h
theorem zfz:∀{ks:List Bool}{Z:Ev}{n:Nat},zaL ks Z≠.er n
 |[],_,_,h=>by simp[zaL] at h
 |false::ks,[],n,h=>by simp[zaL] at h
 |true::ks,[],n,h=>by simp[zaL] at h
 |false::ks,o::Z,n,h=>by
  unfold zaL at h;cases q:zaL ks Z with
  |ok l'=>rw[q] at h;simp at h
  |er m=>exact zfz q
  |no=>rw[q] at h;simp at h
 |true::ks,none::Z,n,h=>by simp[zaL] at h
 |true::ks,some b::Z,n,h=>by
  unfold zaL at h;cases q:zaL ks Z with
  |ok l'=>rw[q] at h;simp at h
  |er m=>exact zfz q
  |no=>rw[q] at h;simp at h
def zsC(ks:List Bool):List Nat:=(List.range ks.length).filter λj=>ks[j]? == some true
def ztG(CX:CXT)(P:Program)(w:World)(K:W.Frag)(mg:Str->Option Value)(base:Heap):Prop :=
 ∀(N:List Str)(qual:Str)(scope:Scope)(f:Addr)(cdv:Value)(A:Around)(outer:List Env)(s:Shared)(H:Hp)(E E':XK),scope.kind=.function->(∀ u a H',E' u a H'->E u a H') ->
  zfe CX (zs7 CX P w K mg base N qual scope f cdv A outer s H E) E'
theorem za9{P:Program}{w:World}{K:W.Frag}{mg:Str->Option Value}{base:Heap}:ztG CX0 P w K mg base:=λ_ _ _ _ _ _ _ _ _ _ _ _ _ _ _ _ _ _ _ _ h=>h.elim
theorem zaA{P:Program}{w:World}{K:W.Frag}{mg:Str->Option Value}{base:Heap}{xq qual:Str}{st:Stmt}{N:List Str}{xv:Nat->Value}{m:Nat}{fb:DS}(nw:Bool)(lv:ztG CX P w K mg base)(F:Fun K xq qual st f fd)(S:za4 N ps (zan st))(hl:ps.length=ks.length)(hm:N.length=ks.length+m)
  (hbody:∀(X:Cx)(C:Cn),(∃ cdv A outer s H E,X=zs7 CX P w K mg base N qual (zan st) f cdv A outer s H E)->C.pp=zsC ks->C.xv=xv->C.nw=nw->zgm k X.A->zfe CX X (EXc C)->PassesOwn (model X.prog X.w) X.A X.env X.xe->JSs X C (zem st) fb) :
  zgu P w K mg base CX (k+1) f fd ps (zqn nw K xv ks (za0 nw ks m fb)):=by
 obtain ⟨oc,od,kV,doc,pm,an,cdv,ct,osl,rfl,lk,hcd⟩:=F.ex;refine zvQ lk hcd S (λvs H Q E ⟨_,_,_,h,_⟩=>h.trans hl.symm) λA outer s H vs Q E hr hsp=>?_;obtain ⟨G,w0,bs,hv,hk,pr,hF⟩:=hsp;let X:=zs7 CX P w K mg base N qual (zan st) f cdv A outer s H E;let C:Cn:=⟨G,H,w0,zsC ks,L2.start N vs,λn=>za0 nw ks m fb bs=.er n,xv,nw⟩
 have hE:∀ u a H',EXc C u a H'->E u a H':=λu a H' ⟨ea,n,eu,en,G',w',s'⟩=>by subst ea;subst eu;have en':za0 nw ks m fb bs=.er n:=en;rw[en'] at hF;exact hF G' H' w' s'
 have hb:=hbody X C ⟨cdv,A,outer,s,H,E,rfl⟩ rfl rfl rfl hr (lv N qual (zan st) f cdv A outer s H E (EXc C) S.kind hE) PassesOwn.leaving;refine ⟨_,hb,G,w0,bs.map some++List.replicate m none,?_,?_⟩
 ·refine ⟨pr.gh,pr.wg,pr.wh,?_,λi b e=>?_,.refl _ _ _,λi _=>rfl⟩
  ·unfold L2.start;simp only[wav,wag,List.length_replicate];have:=pr.len;lia
  ·have hi:i<bs.length:=by
    by_cases hi:i<bs.length
    ·exact hi
    ·rw[List.getElem?_append_right (by simpa using hi),List.getElem?_replicate] at e;split at e <;> cases e
   rw[List.getElem?_append_left (by simpa using hi),List.getElem?_map] at e;have eb:bs[i]? = some b:=by
    cases q:bs[i]? with
    |none=>rw[q] at e;cases e
    |some z=>rw[q] at e;cases e;rfl
   have hiv:i<vs.length:=by rw[<- pr.len];exact hi
   refine ⟨vs[i],?_,pr.sl i b vs[i] eb (by simp[hiv])⟩;unfold L2.start;rw[List.getElem?_append_left (by simpa using hiv),List.getElem?_map];simp[hiv]
 ·have hF':match za0 nw ks m fb bs with
   |.ok a=>∀ v G' H' w',zbP G H w0 G' H' w'->zsL K G' H' w' ks a.2 vs->RtG nw K H G' H' w' a.1 v->Q v H'
   |.er n=>∀ G' H' w',zbP G H w0 G' H' w'->E (xv n) none H'
   |.no=>False:=hF
  have er:za0 nw ks m fb bs=(fb (bs.map some++List.replicate m none)).bind λa=>match a.1 with
   |.nx=>if nw=true then .no else (zaL ks a.2).bind λl=>.ok (.non,l)
   |.rt d=>(zaL ks a.2).bind λl=>.ok (d,l)
   |_=>.no:=by unfold za0;rw[if_pos hk]
  have back:∀{Z':Ev}{l:List B}{Y':L2.St}{G' H':Hp}{w':Wn},zaL ks Z'=.ok l->Rel K C G' w' Z' Y' H'->zsL K G' H' w' ks l vs:=λ{Z' l Y' G' H' w'} eb r'=>by
   refine ⟨r'.gh,r'.wg,r'.wh,λj v e1 e2=>?_⟩;obtain ⟨b,h1,h2⟩:=zfM eb e1;obtain ⟨v',h3,h4⟩:=r'.sl j b h2;have hj:j<ks.length:=(wam.mp e1).1;have hp:Y'[j]? = (L2.start N vs)[j]? := r'.pin j (by show j∈zsC ks;unfold zsC;rw[List.mem_filter];exact ⟨List.mem_range.mpr hj,by simp[e1]⟩)
   have hs:(L2.start N vs)[j]? = some (some v):=by unfold L2.start;rw[List.getElem?_append_left (by simpa using (List.getElem?_eq_some_iff.mp e2).1),List.getElem?_map,e2];rfl
   rw[hp,hs] at h3;cases h3;exact ⟨b,h1,h4⟩
  cases ef:fb (bs.map some++List.replicate m none) with
  |ok z =>
   obtain ⟨fl,Z'⟩:=z;rw[ef,R.bind_ok] at er;cases fl with
   |nx =>
    cases nw with
    |true=>rw[er] at hF';exact hF'.elim
    |false =>
     intro Y' G' H' w' s' r';have er:za0 false ks m fb bs=(zaL ks Z').bind λl=>.ok (.non,l):=er;cases eb:zaL ks Z' with
     |ok l =>
      rw[er] at hF';simp only[eb,R.bind_ok] at hF';exact hF' _ G' H' w' s' (back eb r') (by unfold RtG Rep;rfl)
     |er n=>exact absurd eb zfz
     |no=>rw[er] at hF';simp only[eb,R.bind_no] at hF'
   |rt d =>
    intro v Y' G' H' w' s' r' q;cases eb:zaL ks Z' with
    |ok l =>
     rw[er] at hF';simp only[eb,R.bind_ok] at hF';exact hF' _ G' H' w' s' (back eb r') q
    |er n=>exact absurd eb zfz
    |no=>rw[er] at hF';simp only[eb,R.bind_no] at hF'
   |bk=>rw[er] at hF';exact hF'.elim
   |ct=>rw[er] at hF';exact hF'.elim
  |er n =>
   show za0 nw ks m fb bs=.er n;rw[er,ef];rfl
  |no=>rw[er,ef] at hF';exact hF'.elim
theorem xwQ{P:Program}{w:World}{K:W.Frag}{mg:Str->Option Value}{base:Heap}{xq qual:Str}{st:Stmt}{N:List Str}{xv:Nat->Value}{m:Nat}{fb:DS}(nw:Bool)(lv:ztG CX P w K mg base)(F:Fun K xq qual st f fd)(S:za4 N ps (zan st))(hl:ps.length=ks.length)(hm:N.length=ks.length+m)
  (hbody:∀ cdv A outer s H E cG cH cw cσ cex,nw=nw->zgm k (zs7 CX P w K mg base N qual (zan st) f cdv A outer s H E).A->zfe CX (zs7 CX P w K mg base N qual (zan st) f cdv A outer s H E) (EXc (⟨cG,cH,cw,zsC ks,cσ,cex,xv,nw⟩:Cn))->PassesOwn (model (zs7 CX P w K mg base N qual (zan st) f cdv A outer s H E).prog (zs7 CX P w K mg base N qual (zan st) f cdv A outer s H E).w) (zs7 CX P w K mg base N qual (zan st) f cdv A outer s H E).A (zs7 CX P w K mg base N qual (zan st) f cdv A outer s H E).env (zs7 CX P w K mg base N qual (zan st) f cdv A outer s H E).xe->JSs (zs7 CX P w K mg base N qual (zan st) f cdv A outer s H E) (⟨cG,cH,cw,zsC ks,cσ,cex,xv,nw⟩:Cn) (zem st) fb) :
  zgu P w K mg base CX (k+1) f fd ps (zqn nw K xv ks (za0 nw ks m fb)):=zaA nw lv F S hl hm λX ⟨cG,cH,cw,_,cσ,cex,_,_⟩ ⟨cdv,A,outer,s,H,E,e⟩ h1 h2 h3=>by subst e;dsimp only at h1 h2 h3;subst h1 h2 h3;exact hbody cdv A outer s H E cG cH cw cσ cex rfl
end
mutual
def zfP:Dt->PyData
 |.non=>.none
 |.bl b=>.bool b
 |.int i=>.int i
 |.str x=>.str x
 |.tup l=>.tuple (zf3 l)
 |.lst l=>.list (zf3 l)
 |.dct _=>.dict []
 |.scr ns=>.list (ns.map .int)
def zf3:List Dt->List PyData
 |[]=>[]
 |d::ds=>zfP d::zf3 ds
end
def okN:Nat->Dt->Bool
 |_,.non=>true
 |_,.bl _=>true
 |_,.int _=>true
 |_,.str x=>PySem.PyData.strOk x
 |0,.tup _=>false
 |0,.lst _=>false
 |n+1,.tup l=>l.all (okN n)
 |n+1,.lst l=>l.all (okN n)
 |_,.dct _=>false
 |_,.scr _=>false
mutual
def eqD:Dt->Dt->Bool
 |.non,.non=>true
 |.bl a,.bl b=>a == b
 |.bl a,.int j=>(if a then 1 else 0) == j
 |.int i,.bl b=>i == (if b then 1 else 0)
 |.int i,.int j=>i == j
 |.str x,.str y=>x == y
 |.lst xs,.lst ys=>zgf xs ys
 |.tup xs,.tup ys=>zgf xs ys
 |_,_=>false
def zgf:List Dt->List Dt->Bool
 |[],[]=>true
 |x::xs,y::ys=>eqD x y && zgf xs ys
 |_,_=>false
end
theorem zk6{n:Nat}(ih:∀ d,okN n d=true->(zfP d).canLay0=true/\(zfP d).depth<=n):∀ l:List Dt,l.all (okN n)=true->PyData.canLayAll0 (zf3 l)=true/\PyData.depthAll (zf3 l)<=n
 |[],_=>by simp[zf3,PyData.canLayAll0,PyData.depthAll]
 |d::ds,h=>by simp only[List.all_cons,wae] at h;obtain ⟨h1,h2⟩:=ih d h.1;obtain ⟨h3,h4⟩:=zk6 ih ds h.2;simp only[zf3,PyData.canLayAll0,PyData.depthAll,h1,h3,Bool.and_self,true_and];lia
theorem zlg:∀(n:Nat)(d:Dt),okN n d=true->(zfP d).canLay0=true/\(zfP d).depth<=n
 |n,.non,_=>by simp[zfP,PyData.canLay0,PyData.depth]
 |n,.bl _,_=>by simp[zfP,PyData.canLay0,PyData.depth]
 |n,.int _,_=>by simp[zfP,PyData.canLay0,PyData.depth]
 |n,.str x,h=>by
  have h:PySem.PyData.strOk x=true:=by cases n <;> simpa [okN] using h
  simp[zfP,PyData.canLay0,PyData.depth,h]
 |0,.tup _,h=>by simp[okN] at h
 |0,.lst _,h=>by simp[okN] at h
 |n+1,.tup l,h=>by obtain ⟨h1,h2⟩:=zk6 (zlg n) l (by simpa [okN] using h);simp only[zfP,PyData.canLay0,PyData.depth,h1,true_and];lia
 |n+1,.lst l,h=>by obtain ⟨h1,h2⟩:=zk6 (zlg n) l (by simpa [okN] using h);simp only[zfP,PyData.canLay0,PyData.depth,h1,true_and];lia
 |n,.dct _,h=>by cases n <;> simp[okN] at h
 |n,.scr _,h=>by cases n <;> simp[okN] at h
mutual
theorem zoa:∀(n:Nat)(x y:Dt),okN n x=true->okN n y=true->PyData.eqv (zfP x) (zfP y)=eqD x y
 |n,.non,y,h,h'=>by cases y <;> first|(cases n <;> simp[okN] at h';done)|simp[zfP,PyData.eqv,eqD]
 |n,.bl _,y,h,h'=>by cases y <;> first|(cases n <;> simp[okN] at h';done)|simp[zfP,PyData.eqv,eqD]
 |n,.int _,y,h,h'=>by cases y <;> first|(cases n <;> simp[okN] at h';done)|simp[zfP,PyData.eqv,eqD]
 |n,.str _,y,h,h'=>by cases y <;> first|(cases n <;> simp[okN] at h';done)|simp[zfP,PyData.eqv,eqD]
 |0,.tup _,y,h,h'=>by simp[okN] at h
 |0,.lst _,y,h,h'=>by simp[okN] at h
 |n+1,.tup l,y,h,h'=>by
  cases y with
  |tup l'=>simp only[zfP,PyData.eqv,eqD];exact zm2 n l l' (by simpa [okN] using h) (by simpa [okN] using h')
  |dct _=>simp[okN] at h'
  |scr _=>simp[okN] at h'
  |_=>simp[zfP,PyData.eqv,eqD]
 |n+1,.lst l,y,h,h'=>by
  cases y with
  |lst l'=>simp only[zfP,PyData.eqv,eqD];exact zm2 n l l' (by simpa [okN] using h) (by simpa [okN] using h')
  |dct _=>simp[okN] at h'
  |scr _=>simp[okN] at h'
  |_=>simp[zfP,PyData.eqv,eqD]
 |n,.dct _,y,h,h'=>by cases n <;> simp[okN] at h
 |n,.scr _,y,h,h'=>by cases n <;> simp[okN] at h
theorem zm2:∀(n:Nat)(x y:List Dt),x.all (okN n)=true->y.all (okN n)=true->PyData.eqvAll (zf3 x) (zf3 y)=zgf x y
 |n,[],[],_,_=>by simp[zf3,PyData.eqvAll,zgf]
 |n,[],_::_,_,_=>by simp[zf3,PyData.eqvAll,zgf]
 |n,_::_,[],_,_=>by simp[zf3,PyData.eqvAll,zgf]
 |n,a::as,b::bs,h,h'=>by simp only[List.all_cons,wae] at h h';simp only[zf3,PyData.eqvAll,zgf];rw[zoa n a b h.1 h'.1,zm2 n as bs h.2 h'.2]
end
section
variable{X:Cx}{pS:List (Addr×Obj)}{Y:L2.St}{H:Hp}{s:Shared}
mutual
theorem zet(I:L2.Inv X pS Y H s):∀(n:Nat)(d:Dt)(v:V)(u:Value),okN n d=true->Rep X.K H d v->zcs v u->∃ as,Reads s.heap u (zfP d) as
 |n,.non,v,u,_,h,r=>by rw[zi1 h] at r;cases r;exact ⟨[],by simp only[zfP];exact .none⟩
 |n,.bl b,v,u,_,h,r=>by rw[zfg h] at r;cases r;exact ⟨[],by simp only[zfP];exact .bool _⟩
 |n,.int b,v,u,_,h,r=>by rw[zaB h] at r;obtain ⟨t,rfl⟩:=r;exact ⟨[],by simp only[zfP];exact .int _ _⟩
 |n,.str b,v,u,_,h,r=>by rw[zgH h] at r;obtain ⟨t,rfl⟩:=r;exact ⟨[],by simp only[zfP];exact .str _ _⟩
 |0,.tup l,v,u,hk,h,r=>by simp[okN] at hk
 |0,.lst l,v,u,hk,h,r=>by simp[okN] at hk
 |n+1,.tup l,v,u,hk,h,r=>by obtain ⟨a,vs,rfl,h1,h2⟩:=zbF h;cases r;obtain ⟨its,rv,⟨o,e,c,k,dd⟩,_⟩:=I.tuple h1;obtain ⟨as,q⟩:=zfO I n l vs its (by simpa [okN] using hk) h2 rv;exact ⟨as,by simp only[zfP];exact .tuple e c dd (by simpa using q)⟩
 |n+1,.lst l,v,u,hk,h,r=>by obtain ⟨a,vs,rfl,h1,h2⟩:=zaT h;cases r;obtain ⟨its,rv,⟨o,k,e,c,_,dd⟩,_⟩:=I.list (SqL.of h1);obtain ⟨as,q⟩:=zfO I n l vs its (by simpa [okN] using hk) h2 rv;exact ⟨a::as,by simp only[zfP];exact .list e c dd (by simpa using q)⟩
 |n,.dct _,v,u,hk,h,r=>by cases n <;> simp[okN] at hk
 |n,.scr _,v,u,hk,h,r=>by cases n <;> simp[okN] at hk
theorem zfO(I:L2.Inv X pS Y H s):∀(n:Nat)(ds:List Dt)(vs:List V)(us:List Value),ds.all (okN n)=true->za6 X.K H ds vs->zbf vs us->∃ as,ReadsAll s.heap us (zf3 ds) as
 |n,[],vs,us,_,h,r=>by rw[h.nil_inv] at r;cases r;exact ⟨[],by simp only[zf3];exact .nil⟩
 |n,d::ds,vs,us,hk,h,r=>by
  obtain ⟨v,t,rfl,h1,h2⟩:=h.cons_inv;cases r with
  |cons r1 r2 =>
   simp only[List.all_cons,wae] at hk;obtain ⟨as,q1⟩:=zet I n d v _ hk.1 h1 r1;obtain ⟨bs,q2⟩:=zfO I n ds t _ hk.2 h2 r2;exact ⟨as++bs,by simp only[zf3];exact .cons q1 q2⟩
end
mutual
theorem zr0(I:L2.Inv X pS Y H s):∀(n:Nat)(d d':Dt)(v:V),okN n d=true->okN n d'=true->Rep X.K H d v->Rep X.K H d' v->d=d'
 |n,.non,d',v,hk,hk',h,h'=>by rw[zi1 h] at h';cases d' <;> unfold Rep at h' <;> first|(obtain ⟨a,vs,z,_⟩:=h';cases z;done)|(obtain ⟨a,z,_⟩:=h';cases z;done)|(cases h';rfl)|(cases h';done)|rfl
 |n,.bl b,d',v,hk,hk',h,h'=>by rw[zfg h] at h';cases d' <;> unfold Rep at h' <;> first|(obtain ⟨a,vs,z,_⟩:=h';cases z;done)|(obtain ⟨a,z,_⟩:=h';cases z;done)|(cases h';rfl)|(cases h';done)|rfl
 |n,.int b,d',v,hk,hk',h,h'=>by rw[zaB h] at h';cases d' <;> unfold Rep at h' <;> first|(obtain ⟨a,vs,z,_⟩:=h';cases z;done)|(obtain ⟨a,z,_⟩:=h';cases z;done)|(cases h';rfl)|(cases h';done)|rfl
 |n,.str b,d',v,hk,hk',h,h'=>by rw[zgH h] at h';cases d' <;> unfold Rep at h' <;> first|(obtain ⟨a,vs,z,_⟩:=h';cases z;done)|(obtain ⟨a,z,_⟩:=h';cases z;done)|(cases h';rfl)|(cases h';done)|rfl
 |0,.tup l,d',v,hk,_,h,h'=>by simp[okN] at hk
 |0,.lst l,d',v,hk,_,h,h'=>by simp[okN] at hk
 |n+1,.tup l,d',v,hk,hk',h,h'=>by
  obtain ⟨a,vs,rfl,h1,h2⟩:=zbF h;cases d' with
  |tup l' =>
   obtain ⟨a',vs',e,h3,h4⟩:=zbF h';cases e;rw[I.tuple_inj h3 h1] at h4;rw[zjW I n l l' vs (by simpa [okN] using hk) (by simpa [okN] using hk') h2 h4]
  |lst l' =>
   obtain ⟨a',vs',e,h3,h4⟩:=zaT h';cases e;obtain ⟨its,rv,⟨o,e,c,k,dd⟩,_⟩:=I.tuple h1;obtain ⟨its',rv',⟨o',k',e',c',_,dd'⟩,_⟩:=I.list (SqL.of h3);rw[e] at e';cases e';rw[c] at c';exact absurd c' xwd
  |dct _=>simp[okN] at hk'
  |scr _=>simp[okN] at hk'
  |non=>cases zi1 h'
  |bl _=>cases zfg h'
  |int _=>cases zaB h'
  |str _=>cases zgH h'
 |n+1,.lst l,d',v,hk,hk',h,h'=>by
  obtain ⟨a,vs,rfl,h1,h2⟩:=zaT h;cases d' with
  |lst l' =>
   obtain ⟨a',vs',e,h3,h4⟩:=zaT h';cases e;rw[h1] at h3;cases h3;rw[zjW I n l l' vs (by simpa [okN] using hk) (by simpa [okN] using hk') h2 h4]
  |tup l' =>
   obtain ⟨a',vs',e,h3,h4⟩:=zbF h';cases e;obtain ⟨its,rv,⟨o,e,c,k,dd⟩,_⟩:=I.tuple h3;obtain ⟨its',rv',⟨o',k',e',c',_,dd'⟩,_⟩:=I.list (SqL.of h1);rw[e] at e';cases e';rw[c] at c';exact absurd c' xwd
  |dct _=>simp[okN] at hk'
  |scr _=>simp[okN] at hk'
  |non=>cases zi1 h'
  |bl _=>cases zfg h'
  |int _=>cases zaB h'
  |str _=>cases zgH h'
 |n,.dct _,d',v,hk,_,h,h'=>by cases n <;> simp[okN] at hk
 |n,.scr _,d',v,hk,_,h,h'=>by cases n <;> simp[okN] at hk
theorem zjW(I:L2.Inv X pS Y H s):∀(n:Nat)(ds ds':List Dt)(vs:List V),ds.all (okN n)=true->ds'.all (okN n)=true->za6 X.K H ds vs->za6 X.K H ds' vs->ds=ds'
 |n,[],ds',vs,_,_,h,h'=>by
  rw[h.nil_inv] at h';cases ds' with
  |nil=>rfl
  |cons d t=>obtain ⟨v,r,z,_⟩:=h'.cons_inv;cases z
 |n,d::ds,ds',vs,hk,hk',h,h'=>by
  obtain ⟨v,t,rfl,h1,h2⟩:=h.cons_inv;cases ds' with
  |nil=>cases h'.nil_inv
  |cons d' t' =>
   obtain ⟨v',r',z,h3,h4⟩:=h'.cons_inv;cases z;simp only[List.all_cons,wae] at hk hk';rw[zr0 I n d d' v hk.1 hk'.1 h1 h3,zjW I n ds t' t hk.2 hk'.2 h2 h4]
end
end
def zxB(K:W.Frag)(neg:Bool):R2:=λx y H Q=>∃ dx dy,Rep K H dx x/\Rep K H dy y/\okN 60 dx=true/\okN 60 dy=true/\Q (.bl (if neg then !eqD dx dy else eqD dx dy)) H
theorem zg4{d:Dt}(h:okN 60 d=true):SeqAt.shaped (zfP d)=true:=by obtain ⟨h1,h2⟩:=zlg 60 d h;unfold SeqAt.shaped;rw[h1,Bool.true_and];exact wat xwl
section
variable{X:Cx}
theorem ztX(hu:X.A.units+64<cLine):OpR X (compareOp .Eq) (zxB X.K false):=by intro pS s Y H x y v u Q I rx ry h;obtain ⟨dx,dy,h1,h2,h3,h4,q⟩:=h;obtain ⟨as,ra⟩:=zet I 60 dx x v h3 h1 rx;obtain ⟨bs,rb⟩:=zet I 60 dy y u h4 h2 ry;exact PyProof.Rows.eq_dataH ra rb (zg4 h3) (zg4 h4) hu ⟨.bl (eqD dx dy),H,I,(by rw[zoa 60 dx dy h3 h4];rfl),q⟩
theorem ztt(hu:X.A.units+64<cLine):OpR X (compareOp .NotEq) (zxB X.K true):=by intro pS s Y H x y v u Q I rx ry h;obtain ⟨dx,dy,h1,h2,h3,h4,q⟩:=h;obtain ⟨as,ra⟩:=zet I 60 dx x v h3 h1 rx;obtain ⟨bs,rb⟩:=zet I 60 dy y u h4 h2 ry;exact PyProof.Rows.ne_dataH ra rb (zg4 h3) (zg4 h4) hu ⟨.bl (!eqD dx dy),H,I,(by rw[zoa 60 dx dy h3 h4];rfl),q⟩
def gEq(neg:Bool):Dt->Dt->R Dt:=λx y=>if (okN 60 x && okN 60 y)=true then .ok (.bl (if neg then !eqD x y else eqD x y)) else .no
theorem zmL(neg:Bool):zmO (gEq neg):=λx y n h=>by unfold gEq at h;split at h <;> cases h
theorem zpD{K:W.Frag}(neg:Bool):Op2 K (zxB K neg) (gEq neg):=λG H x y dx dy z Q gh hx hy e k=>by
 unfold gEq at e;split at e
 ·rename_i h;rw[Bool.and_eq_true] at h;cases e;exact ⟨dx,dy,hx.same gh,hy.same gh,h.1,h.2,k _ G H (.refl gh) (by unfold Rep;rfl)⟩
 ·cases e
theorem zvk{pS:List (Addr×Obj)}{Y:L2.St}{H:Hp}{s:Shared}(I:L2.Inv X pS Y H s){A:Around}(hu:A.units+64<cLine){dx dy:Dt}{x y:V}{v u:Value}(h3:okN 60 dx=true)(h4:okN 60 dy=true)(h1:Rep X.K H dx x)(h2:Rep X.K H dy y)(rx:zcs x v)(ry:zcs y u) :
  SeqAt.EqAt A s v u (eqD dx dy):=by
 obtain ⟨as,ra⟩:=zet I 60 dx x v h3 h1 rx;obtain ⟨bs,rb⟩:=zet I 60 dy y u h4 h2 ry;obtain ⟨k1,k2⟩:=zlg 60 dx h3;obtain ⟨k3,k4⟩:=zlg 60 dy h4;have:=SeqAt.eqAt_reads (zfP dx) (zfP dy) A s v u as bs ra rb k1 k3 xwl;rw[zoa 60 dx dy h3 h4] at this;exact this
open Classical in
noncomputable def zkR(K:W.Frag)(H:Hp)(dx:Dt)(u:Value):Bool:=if ∃ d v,okN 60 d=true/\Rep K H d v/\zcs v u/\eqD d dx=true then true else false
theorem zmw{pS:List (Addr×Obj)}{Y:L2.St}{H:Hp}{s:Shared}(I:L2.Inv X pS Y H s){d dx:Dt}{v:V}{u:Value}(hk:okN 60 d=true)(h:Rep X.K H d v)(r:zcs v u):zkR X.K H dx u=eqD d dx:=by
 unfold zkR;split
 ·rename_i q;obtain ⟨d',v',k',h',r',e'⟩:=q;have ev:v'=v:=r'.inj r;subst ev;rw[zr0 I 60 d d' v' hk k' h h'];exact e'.symm
 ·rename_i q;cases e:eqD d dx with
  |false=>rfl
  |true=>exact absurd ⟨d,v,hk,h,r,e⟩ q
theorem zgx{pS:List (Addr×Obj)}{Y:L2.St}{H:Hp}{s:Shared}(I:L2.Inv X pS Y H s){dx:Dt}:∀{ds:List Dt}{vs:List V}{us:List Value},ds.all (okN 60)=true->za6 X.K H ds vs->zbf vs us->us.any (zkR X.K H dx)=ds.any λd=>eqD d dx
 |[],vs,us,_,h,r=>by rw[h.nil_inv] at r;cases r;rfl
 |d::ds,vs,us,hk,h,r=>by
  obtain ⟨v,t,rfl,h1,h2⟩:=h.cons_inv;cases r with
  |cons r1 r2 =>
   simp only[List.all_cons,wae] at hk;simp only[List.any_cons];rw[zmw I hk.1 h1 r1,zgx I hk.2 h2 r2]
theorem zdM{pS:List (Addr×Obj)}{Y:L2.St}{H:Hp}{s:Shared}(I:L2.Inv X pS Y H s){A:Around}(hu:A.units+64<cLine){dx:Dt}{x:V}{v:Value}(hk:okN 60 dx=true)(hx:Rep X.K H dx x)(rx:zcs x v):∀{ds:List Dt}{vs:List V}{us:List Value},ds.all (okN 60)=true->za6 X.K H ds vs->zbf vs us->∀ u∈us,SeqAt.EqAt A s u v (zkR X.K H dx u)
 |[],vs,us,_,h,r,u,hu=>by rw[h.nil_inv] at r;cases r;cases hu
 |d::ds,vs,us,hks,h,r,u,hm=>by
  obtain ⟨v,t,rfl,h1,h2⟩:=h.cons_inv;cases r with
  |cons r1 r2 =>
   simp only[List.all_cons,wae] at hks;rcases wap.mp hm with rfl|hm
   ·rw[zmw I hks.1 h1 r1];exact zvk I hu hks.1 hk h1 hx r1 rx
   ·exact zdM I hu hk hx rx hks.2 h2 r2 u hm
def inD(x:Dt)(l:List Dt):Bool:=l.any λd=>eqD d x
def zxE(K:W.Frag)(neg:Bool):R2:=λx y H Q=>∃ dx ds,Rep K H dx x/\(Rep K H (.lst ds) y\/Rep K H (.tup ds) y)/\okN 60 dx=true/\ds.all (okN 60)=true/\Q (.bl (if neg then !inD dx ds else inD dx ds)) H
theorem zhL(A:Around):A.in1.units=A.units+1:=rfl
theorem zrx(hu:X.A.units+65<cLine):OpR X (compareOp .In) (zxE X.K false):=by
 intro pS s Y H x y v u Q I rx ry h;obtain ⟨dx,ds,h1,h2,h3,h4,q⟩:=h;have hu1:X.A.in1.units+64<cLine:=by rw[zhL];lia
 rcases h2 with h2|h2
 ·obtain ⟨a,vs,rfl,k1,k2⟩:=zaT h2;cases ry;obtain ⟨its,r,pl,hz⟩:=I.list (SqL.of k1);refine SeqAt.in_listAt (zkR X.K H dx) pl.isList (λw hw=>zdM I hu1 h3 h1 rx h4 k2 r w (by simpa using hw)) ⟨.bl _,H,I,rfl,?_⟩;rw[show its.toArray.any (zkR X.K H dx)=its.any (zkR X.K H dx) by simp,zgx I h4 k2 r];exact q
 ·obtain ⟨a,vs,rfl,k1,k2⟩:=zbF h2;cases ry;obtain ⟨its,r,pl,hz⟩:=I.tuple k1;refine SeqAt.in_tupleAt (zkR X.K H dx) pl (λw hw=>zdM I hu1 h3 h1 rx h4 k2 r w (by simpa using hw)) ⟨.bl _,H,I,rfl,?_⟩;rw[show its.toArray.any (zkR X.K H dx)=its.any (zkR X.K H dx) by simp,zgx I h4 k2 r];exact q
theorem zr6(hu:X.A.units+65<cLine):OpR X (compareOp .NotIn) (zxE X.K true):=by
 intro pS s Y H x y v u Q I rx ry h;obtain ⟨dx,ds,h1,h2,h3,h4,q⟩:=h;have hu1:X.A.in1.units+64<cLine:=by rw[zhL];lia
 rcases h2 with h2|h2
 ·obtain ⟨a,vs,rfl,k1,k2⟩:=zaT h2;cases ry;obtain ⟨its,r,pl,hz⟩:=I.list (SqL.of k1);refine SeqAt.notIn_listAt (zkR X.K H dx) pl.isList (λw hw=>zdM I hu1 h3 h1 rx h4 k2 r w (by simpa using hw)) ⟨.bl _,H,I,rfl,?_⟩;rw[show its.toArray.any (zkR X.K H dx)=its.any (zkR X.K H dx) by simp,zgx I h4 k2 r];exact q
 ·obtain ⟨a,vs,rfl,k1,k2⟩:=zbF h2;cases ry;obtain ⟨its,r,pl,hz⟩:=I.tuple k1;refine SeqAt.notIn_tupleAt (zkR X.K H dx) pl (λw hw=>zdM I hu1 h3 h1 rx h4 k2 r w (by simpa using hw)) ⟨.bl _,H,I,rfl,?_⟩;rw[show its.toArray.any (zkR X.K H dx)=its.any (zkR X.K H dx) by simp,zgx I h4 k2 r];exact q
def gIn(neg:Bool):Dt->Dt->R Dt:=λx y=>match y with
 |.lst ds=>if (okN 60 x && ds.all (okN 60))=true then .ok (.bl (if neg then !inD x ds else inD x ds)) else .no
 |.tup ds=>if (okN 60 x && ds.all (okN 60))=true then .ok (.bl (if neg then !inD x ds else inD x ds)) else .no
 |_=>.no
theorem znm(neg:Bool):zmO (gIn neg):=λx y n h=>by
 unfold gIn at h;split at h
 ·split at h <;> cases h
 ·split at h <;> cases h
 ·cases h
theorem zq4{K:W.Frag}(neg:Bool):Op2 K (zxE K neg) (gIn neg):=λG H x y dx dy z Q gh hx hy e k=>by
 unfold gIn at e;split at e
 ·split at e
  ·rename_i h;rw[Bool.and_eq_true] at h;cases e;exact ⟨dx,_,hx.same gh,.inl (hy.same gh),h.1,h.2,k _ G H (.refl gh) (by unfold Rep;rfl)⟩
  ·cases e
 ·split at e
  ·rename_i h;rw[Bool.and_eq_true] at h;cases e;exact ⟨dx,_,hx.same gh,.inr (hy.same gh),h.1,h.2,k _ G H (.refl gh) (by unfold Rep;rfl)⟩
  ·cases e
 ·cases e
end
def zdl(i:Int):Bool:=decide (-18446744073709551616<i) && decide (i<18446744073709551616)
theorem zj0{i:Int}(h:zdl i=true):-(2 ^ 64)<i/\i<2 ^ 64:=by unfold zdl at h;rw[Bool.and_eq_true] at h;have h1:=of_decide_eq_true h.1;have h2:=of_decide_eq_true h.2;lia
def zdu:Dt->Dt->R Dt
 |.int i,.int j=>.ok (.int (i+j))
 |_,_=>.no
def zjG:Dt->Dt->R Dt
 |.int i,.int j=>.ok (.int (i-j))
 |_,_=>.no
def zri:Dt->Dt->R Dt
 |.int i,.int j=>if (zdl i || zdl j)=true then .ok (.int (i * j)) else .no
 |_,_=>.no
def zsX:Dt->Dt->R Dt
 |.int i,.int j=>if 0<j/\j<1073741824 then .ok (.int (i / j)) else .no
 |_,_=>.no
def zo3:Dt->Dt->R Dt
 |.int i,.int j=>if 0<j then .ok (.int (i % j)) else .no
 |_,_=>.no
def zsg:Dt->Dt->R Dt
 |.int i,.int j=>if 0<=j/\j<=1000/\i.natAbs<18446744073709551616 then .ok (.int (i ^ j.toNat)) else .no
 |_,_=>.no
def zrC(f:Int->Int->Bool):Dt->Dt->R Dt
 |.int i,.int j=>.ok (.bl (f i j))
 |_,_=>.no
section
variable{K:W.Frag}
theorem zaG{G:Hp}(i:Int):Rep K G (.int i) (.int i):=by unfold Rep;rfl
theorem zdY{G:Hp}(b:Bool):Rep K G (.bl b) (.bl b):=by unfold Rep;rfl
theorem zs2:Op2 K (rI0 λi j=>.int (i+j)) zdu:=λG H x y dx dy z Q gh hx hy e k=>by
 unfold zdu at e;split at e
 ·cases e;exact ⟨_,_,zaB hx,zaB hy,k _ G H (.refl gh) (zaG _)⟩
 ·cases e
theorem zuj:Op2 K (rI0 λi j=>.int (i-j)) zjG:=λG H x y dx dy z Q gh hx hy e k=>by
 unfold zjG at e;split at e
 ·cases e;exact ⟨_,_,zaB hx,zaB hy,k _ G H (.refl gh) (zaG _)⟩
 ·cases e
theorem zu4:Op2 K (rI zx8 λi j=>.int (i * j)) zri:=λG H x y dx dy z Q gh hx hy e k=>by
 unfold zri at e;split at e
 ·split at e
  ·rename_i h;cases e;rw[Bool.or_eq_true] at h;exact ⟨_,_,zaB hx,zaB hy,h.elim (λz=>.inl (zj0 z)) (λz=>.inr (zj0 z)),k _ G H (.refl gh) (zaG _)⟩
  ·cases e
 ·cases e
theorem zvh:Op2 K (rI CDiv λi j=>.int (i / j)) zsX:=λG H x y dx dy z Q gh hx hy e k=>by
 unfold zsX at e;split at e
 ·split at e
  ·rename_i h;cases e;exact ⟨_,_,zaB hx,zaB hy,h,k _ G H (.refl gh) (zaG _)⟩
  ·cases e
 ·cases e
theorem zvz:Op2 K (rI (λ_ j=>0<j) λi j=>.int (i % j)) zo3:=λG H x y dx dy z Q gh hx hy e k=>by
 unfold zo3 at e;split at e
 ·split at e
  ·rename_i h;cases e;exact ⟨_,_,zaB hx,zaB hy,h,k _ G H (.refl gh) (zaG _)⟩
  ·cases e
 ·cases e
theorem zvt:Op2 K (rI CPow λi j=>.int (i ^ j.toNat)) zsg:=λG H x y dx dy z Q gh hx hy e k=>by
 unfold zsg at e;split at e
 ·split at e
  ·rename_i h;cases e;exact ⟨_,_,zaB hx,zaB hy,⟨h.1,xwl,by have:=h.2.2;lia⟩,k _ G H (.refl gh) (zaG _)⟩
  ·cases e
 ·cases e
theorem zng{f:Int->Int->Bool}:Op2 K (rI0 λi j=>.bl (f i j)) (zrC f):=λG H x y dx dy z Q gh hx hy e k=>by
 unfold zrC at e;split at e
 ·cases e;exact ⟨_,_,zaB hx,zaB hy,k _ G H (.refl gh) (zdY _)⟩
 ·cases e
theorem zps:zmO zdu:=λx y n h=>by unfold zdu at h;split at h <;> cases h
theorem zs3:zmO zjG:=λx y n h=>by unfold zjG at h;split at h <;> cases h
theorem zsy:zmO zri:=λx y n h=>by unfold zri at h;split at h <;> first|cases h|(split at h <;> cases h)
theorem zsq:zmO zsX:=λx y n h=>by unfold zsX at h;split at h <;> first|cases h|(split at h <;> cases h)
theorem zsY:zmO zo3:=λx y n h=>by unfold zo3 at h;split at h <;> first|cases h|(split at h <;> cases h)
theorem zsn:zmO zsg:=λx y n h=>by unfold zsg at h;split at h <;> first|cases h|(split at h <;> cases h)
theorem zkq{f:Int->Int->Bool}:zmO (zrC f):=λx y n h=>by unfold zrC at h;split at h <;> cases h
end
section
variable{X:Cx}{C:Cn}{a b:Expr}{fa fb:De}{pos:Pos}
theorem zej(ha:JE X C a fa)(hb:JE X C b fb):JE X C (.BinOp a .Add b pos) (dOp zdu fa fb):=zmC zw1 zs2 zps ha hb
theorem zjB(ha:JE X C a fa)(hb:JE X C b fb):JE X C (.BinOp a .Sub b pos) (dOp zjG fa fb):=zmC zxr zuj zs3 ha hb
theorem zlo(ha:JE X C a fa)(hb:JE X C b fb):JE X C (.BinOp a .Mult b pos) (dOp zri fa fb):=zmC zwD zu4 zsy ha hb
theorem ztg(ha:JE X C a fa)(hb:JE X C b fb):JE X C (.BinOp a .FloorDiv b pos) (dOp zsX fa fb):=zmC zun zvh zsq ha hb
theorem zjO(ha:JE X C a fa)(hb:JE X C b fb):JE X C (.BinOp a .Mod b pos) (dOp zo3 fa fb):=zmC zwE zvz zsY ha hb
theorem ztE(ha:JE X C a fa)(hb:JE X C b fb):JE X C (.BinOp a .Pow b pos) (dOp zsg fa fb):=zmC zxg zvt zsn ha hb
abbrev gLt:=zrC λi j=>decide (i<j)
abbrev gGt:=zrC λi j=>decide (j<i)
abbrev gGe:=zrC λi j=>decide (j<=i)
theorem zmy(hu:X.A.units+64<cLine)(ha:JE X C a fa)(hb:JE X C b fb):JE X C (.Compare a [.Eq] [b] pos) (dOp (gEq false) fa fb):=zt6 (ztX hu) (zpD false) (zmL false) ha hb (zik _)
theorem zw7(hu:X.A.units+65<cLine)(ha:JE X C a fa)(hb:JE X C b fb)(hm:behindInMarks .In b=false:=by rfl):JE X C (.Compare a [.In] [b] pos) (dOp (gIn false) fa fb):=zt6 (zrx hu) (zq4 false) (znm false) ha hb hm
theorem zo0(ha:JE X C a fa)(hb:JE X C b fb):JT X C (.Compare a [.Lt] [b] pos) (dTB (dOp gLt fa fb)):=zir zyt zng zkq ha hb (zik _)
theorem zr4(ha:JE X C a fa)(hb:JE X C b fb):JT X C (.Compare a [.Gt] [b] pos) (dTB (dOp gGt fa fb)):=zir zxR zng zkq ha hb (zik _)
theorem zyb(ha:JE X C a fa)(hb:JE X C b fb):JT X C (.Compare a [.GtE] [b] pos) (dTB (dOp gGe fa fb)):=zir zyd zng zkq ha hb (zik _)
theorem zdV(hu:X.A.units+64<cLine)(ha:JE X C a fa)(hb:JE X C b fb):JT X C (.Compare a [.Eq] [b] pos) (dTB (dOp (gEq false) fa fb)):=zir (ztX hu) (zpD false) (zmL false) ha hb (zik _)
theorem zjd(hu:X.A.units+64<cLine)(ha:JE X C a fa)(hb:JE X C b fb):JT X C (.Compare a [.NotEq] [b] pos) (dTB (dOp (gEq true) fa fb)):=zir (ztt hu) (zpD true) (zmL true) ha hb (zik _)
theorem zwQ(hu:X.A.units+65<cLine)(ha:JE X C a fa)(hb:JE X C b fb)(hm:behindInMarks .In b=false:=by rfl):JT X C (.Compare a [.In] [b] pos) (dTB (dOp (gIn false) fa fb)):=zir (zrx hu) (zq4 false) (znm false) ha hb hm
theorem znP(hu:X.A.units+65<cLine)(ha:JE X C a fa)(hb:JE X C b fb)(hm:behindInMarks .NotIn b=false:=by rfl):JT X C (.Compare a [.NotIn] [b] pos) (dTB (dOp (gIn true) fa fb)):=zir (zr6 hu) (zq4 true) (znm true) ha hb hm
def zpg(fa:De):De:=λZ=>(fa Z).bind λa=>match a.1 with
 |.int i=>.ok (.int (-i),a.2)
 |_=>.no
theorem zos(ha:JE X C a fa):JE X C (.UnaryOp .USub a pos) (zpg fa):=PE.weak (zwo ztm ha) λY H Q ⟨G,w,Z,r,p⟩=>by
 refine zeL (κ:=λG H w=>kE X.K C Y Q G H w) zcy r p λd Z1 v G1 H1 w1 r1 s1 q1 p1=>?_;cases d with
 |int i=>exact ⟨i,zaB q1,p1 _ G1 H1 w1 (.refl _ _ _) r1 (zaG _)⟩
 |_=>exact p1.elim
end
def FnR(K:W.Frag)(r:List V->Hp->VK->Prop)(g:List Dt->R Dt):Prop:=∀(G H:Hp)(vs:List V)(ds:List Dt)(z:Dt)(Q:VK),zdN G H->za6 K G ds vs->g ds=.ok z ->
 (∀ v G' H',zeC G H G' H'->Rep K G' z v->Q v H')->r vs H Q
def FnN(K:W.Frag)(r:List V->Hp->VK->Prop)(g:List Dt->R (List Dt)):Prop:=∀(G H:Hp)(vs:List V)(ds:List Dt)(z:List Dt)(Q:VK),zdN G H->za6 K G ds vs->g ds=.ok z ->
 (∀ p zs,H p=none->za6 K G z zs->Q (.ref p) (upd H p (.lst zs)))->r vs H Q
def znl{α:Type}(g:List Dt->R α):Prop:=∀ x n,g x≠.er n
def dFn(g:List Dt->R Dt)(fa:DA):De:=λZ=>(fa Z).bind λa=>(g a.1).bind λz=>.ok (z,a.2)
def zdL(g:List Dt->R (List Dt))(fa:DA):DN:=λZ=>(fa Z).bind λa=>(g a.1).bind λz=>.ok (z,a.2)
section
variable{X:Cx}{C:Cn}{e:Expr}{es:List Expr}{fa:DA}{p pos:Pos}{x:Str}{id T:String}{r:List V->Hp->VK->Prop}
theorem zrl{g:List Dt->R Dt}{Y:L2.St}{H:Hp}{Q:VK}(h:FnR X.K r g)(he:znl g)(t:tE X.K C (dFn g fa) Y H Q):tCB r (tAd X.K C fa) Y H Q:=by
 obtain ⟨G,w,Z,rr,p⟩:=t;refine zx2 (κ:=λG H w=>kE X.K C Y Q G H w) zcy rr p λds Z1 vs G1 H1 w1 r1 s1 q1 p1=>?_;cases e:g ds with
 |ok z =>
  simp only[e,R.bind_ok] at p1;exact h G1 H1 vs ds z Q r1.gh q1 e λv G' H' gr q=>p1 v G' H' w1 gr.step (r1.grow gr) q
 |er n=>exact absurd e (he _ _)
 |no=>simp only[e,R.bind_no] at p1;exact p1.elim
theorem znK{g:List Dt->R (List Dt)}{Y:L2.St}{H:Hp}{Q:VK}(h:FnN X.K r g)(he:znl g)(t:tN X.K C (zdL g fa) Y H Q):tCB r (tAd X.K C fa) Y H Q:=by
 obtain ⟨G,w,Z,rr,p⟩:=t;refine zx2 (κ:=λG H w=>kN X.K C Y Q G H w) zf4 rr p λds Z1 vs G1 H1 w1 r1 s1 q1 p1=>?_;cases e:g ds with
 |ok z =>
  simp only[e,R.bind_ok] at p1;refine h G1 H1 vs ds z Q r1.gh q1 e λa zs ha q=>?_;have gr:zeC G1 H1 G1 (upd H1 a (.lst zs)):=.newH r1.gh ha;exact p1 a zs G1 _ w1 gr.step (r1.grow gr) ha zat (r1.gh.free ha) (by
   cases z:w1 a with
   |none=>rfl
   |some k=>exact absurd ha (r1.wh a (by rw[z];simp))) q
 |er n=>exact absurd e (he _ _)
 |no=>simp only[e,R.bind_no] at p1;exact p1.elim
theorem zgk{g:List Dt->R Dt}(h:FnR X.K r g)(he:znl g)(hc:zcZ X (.builtin id) r)(hg:Gl X x)(hm:X.mg x=none)(hv:bootBuiltins x=some (.builtin id))(ha:JA X C (e::es) fa)(hn:x≠"__name__":=by decide)(hdb:(x == ("__debug__" : Str))=false:=by decide)
  (hs:starEach (e::es) X.env=(false,eval e X.env)::starEach es X.env:=by rfl) (hpl:(backTo pos (starEach es X.env)).any (·.1)=false:=by rfl):JE X C (.Call (.Name x p) (e::es) [] pos) (dFn g fa) :=
 PE.weak (zfq hc hg hm hv ha hn hdb hs hpl) λY H Q t=>zrl h he t
theorem zrs{g:List Dt->R Dt}(h:FnR X.K r g)(he:znl g)(hc:zcZ X (.type T) r)(hg:Gl X x)(hm:X.mg x=none)(hv:bootBuiltins x=some (.type T))(ha:JA X C (e::es) fa)(hn:x≠"__name__":=by decide)(hdb:(x == ("__debug__" : Str))=false:=by decide)
  (hs:starEach (e::es) X.env=(false,eval e X.env)::starEach es X.env:=by rfl) (hpl:(backTo pos (starEach es X.env)).any (·.1)=false:=by rfl):JE X C (.Call (.Name x p) (e::es) [] pos) (dFn g fa) :=
 PE.weak (zg5 hc hg hm hv ha hn hdb hs hpl) λY H Q t=>zrl h he t
theorem zox{g:List Dt->R (List Dt)}(h:FnN X.K r g)(he:znl g)(hc:zcZ X (.builtin id) r)(hg:Gl X x)(hm:X.mg x=none)(hv:bootBuiltins x=some (.builtin id))(ha:JA X C (e::es) fa)(hn:x≠"__name__":=by decide)(hdb:(x == ("__debug__" : Str))=false:=by decide)
  (hs:starEach (e::es) X.env=(false,eval e X.env)::starEach es X.env:=by rfl) (hpl:(backTo pos (starEach es X.env)).any (·.1)=false:=by rfl):JN X C (.Call (.Name x p) (e::es) [] pos) (zdL g fa) :=
 PE.weak (zfq hc hg hm hv ha hn hdb hs hpl) λY H Q t=>znK h he t
theorem zqI{g:List Dt->R (List Dt)}(h:FnN X.K r g)(he:znl g)(hc:zcZ X (.type T) r)(hg:Gl X x)(hm:X.mg x=none)(hv:bootBuiltins x=some (.type T))(ha:JA X C (e::es) fa)(hn:x≠"__name__":=by decide)(hdb:(x == ("__debug__" : Str))=false:=by decide)
  (hs:starEach (e::es) X.env=(false,eval e X.env)::starEach es X.env:=by rfl) (hpl:(backTo pos (starEach es X.env)).any (·.1)=false:=by rfl):JN X C (.Call (.Name x p) (e::es) [] pos) (zdL g fa) :=
 PE.weak (zg5 hc hg hm hv ha hn hdb hs hpl) λY H Q t=>znK h he t
end
def zb5:List Dt->R Dt
 |[.lst l]=>.ok (.int l.length)
 |[.tup l]=>.ok (.int l.length)
 |[.scr l]=>.ok (.int l.length)
 |[.str x]=>if x.length<=16777216 then .ok (.int x.length) else .no
 |_=>.no
def rLen(K:W.Frag):List V->Hp->VK->Prop:=λxs H Q=>(∃ p ys,xs=[.ref p]/\(SqL K H p ys\/SqT K H p ys)/\Q (.int ys.length) H)\/∃ z,xs=[.str z]/\z.length<=sizeLine/\Q (.int z.length) H
theorem zgh{K:W.Frag}{G:Hp}{d:Dt}{vs:List V}(h:za6 K G [d] vs):∃ v,vs=[v]/\Rep K G d v:=by obtain ⟨v,r,rfl,h1,h2⟩:=h.cons_inv;rw[h2.nil_inv];exact ⟨v,rfl,h1⟩
theorem zuX{K:W.Frag}{G:Hp}{d e:Dt}{vs:List V}(h:za6 K G [d,e] vs):∃ v u,vs=[v,u]/\Rep K G d v/\Rep K G e u:=by obtain ⟨v,r,rfl,h1,h2⟩:=h.cons_inv;obtain ⟨u,rfl,h3⟩:=zgh h2;exact ⟨v,u,rfl,h1,h3⟩
theorem zmz{K:W.Frag}{G:Hp}{l:List Int}{v:V}(h:Rep K G (.scr l) v):∃ a,v=.ref a/\SqL K G a (l.map V.int):=by unfold Rep at h;exact h
section
variable{K:W.Frag}
theorem zwF:FnR K (rLen K) zb5:=λG H vs ds z Q gh hr e k=>by
 unfold zb5 at e;split at e
 ·obtain ⟨v,rfl,h1⟩:=zgh hr;obtain ⟨a,us,rfl,h2,h3⟩:=zaT h1;cases e;exact .inl ⟨a,us,rfl,.inl (SqL.of (gh _ _ h2)),by rw[<- h3.length];exact k _ G H (.refl gh) (zaG _)⟩
 ·obtain ⟨v,rfl,h1⟩:=zgh hr;obtain ⟨a,us,rfl,h2,h3⟩:=zbF h1;cases e;exact .inl ⟨a,us,rfl,.inr (zaO gh h2),by rw[<- h3.length];exact k _ G H (.refl gh) (zaG _)⟩
 ·obtain ⟨v,rfl,h1⟩:=zgh hr;obtain ⟨a,rfl,h2⟩:=zmz h1;cases e;exact .inl ⟨a,_,rfl,.inl (gh.seq h2),by rw[List.length_map];exact k _ G H (.refl gh) (zaG _)⟩
 ·split at e
  ·rename_i hx;obtain ⟨v,rfl,h1⟩:=zgh hr;cases e;exact .inr ⟨_,by rw[zgH h1],by rw[show sizeLine=16777216 from by decide];exact hx,k _ G H (.refl gh) (zaG _)⟩
  ·cases e
 ·cases e
theorem zwU:znl zb5:=λx n h=>by unfold zb5 at h;split at h <;> first|cases h|(split at h <;> cases h)
def ziY:List Dt->R (List Dt)
 |[.lst l]=>.ok l
 |[.tup l]=>.ok l
 |_=>.no
theorem zuC:FnN K (λxs H Q=>∃ p ys,xs=[.ref p]/\(SqL K H p ys\/SqT K H p ys)/\∀ l,H l=none->Q (.ref l) (upd H l (.lst ys))) ziY:=λG H vs ds z Q gh hr e k=>by
 unfold ziY at e;split at e
 ·obtain ⟨v,rfl,h1⟩:=zgh hr;obtain ⟨a,us,rfl,h2,h3⟩:=zaT h1;cases e;exact ⟨a,us,rfl,.inl (SqL.of (gh _ _ h2)),λl hl=>k l us hl h3⟩
 ·obtain ⟨v,rfl,h1⟩:=zgh hr;obtain ⟨a,us,rfl,h2,h3⟩:=zbF h1;cases e;exact ⟨a,us,rfl,.inr (zaO gh h2),λl hl=>k l us hl h3⟩
 ·cases e
theorem zus:znl ziY:=λx n h=>by unfold ziY at h;split at h <;> cases h
def zbW:List Dt->R Dt
 |[.lst l]=>.ok (.tup l)
 |[.tup l]=>.ok (.tup l)
 |_=>.no
theorem zsG:FnR K (λxs H Q=>∃ p ys,xs=[.ref p]/\((SqL K H p ys/\∀ l,H l=none->Q (.ref l) (upd H l (.tup ys)))\/(SqT K H p ys/\Q (.ref p) H))) zbW:=λG H vs ds z Q gh hr e k=>by
 unfold zbW at e;split at e
 ·obtain ⟨v,rfl,h1⟩:=zgh hr;obtain ⟨a,us,rfl,h2,h3⟩:=zaT h1;cases e;refine ⟨a,us,rfl,.inl ⟨SqL.of (gh _ _ h2),λl hl=>?_⟩⟩;have gr:zeC G H (upd G l (.tup us)) (upd H l (.tup us)):=.new gh hl;exact k _ _ _ gr (by unfold Rep;exact ⟨l,us,rfl,zku.of zat,h3.same gr.g⟩)
 ·obtain ⟨v,rfl,h1⟩:=zgh hr;obtain ⟨a,us,rfl,h2,h3⟩:=zgd h1;cases e;exact ⟨a,us,rfl,.inr ⟨zaO gh h2.sq,k _ G H (.refl gh) (by unfold Rep;exact ⟨a,us,rfl,h2,h3⟩)⟩⟩
 ·cases e
theorem zsW:znl zbW:=λx n h=>by unfold zbW at h;split at h <;> cases h
def zjV:List Dt->R Dt
 |[.int i,.int j]=>.ok (.int (if j > i then j else i))
 |_=>.no
def zki:List Dt->R Dt
 |[.int i,.int j]=>.ok (.int (if j<i then j else i))
 |_=>.no
theorem zuD:FnR K (λxs H Q=>∃ i j,xs=[.int i,.int j]/\Q (.int (if j > i then j else i)) H) zjV:=λG H vs ds z Q gh hr e k=>by
 unfold zjV at e;split at e
 ·obtain ⟨v,u,rfl,h1,h2⟩:=zuX hr;cases e;exact ⟨_,_,by rw[zaB h1,zaB h2],k _ G H (.refl gh) (zaG _)⟩
 ·cases e
theorem zuT:FnR K (λxs H Q=>∃ i j,xs=[.int i,.int j]/\Q (.int (if j<i then j else i)) H) zki:=λG H vs ds z Q gh hr e k=>by
 unfold zki at e;split at e
 ·obtain ⟨v,u,rfl,h1,h2⟩:=zuX hr;cases e;exact ⟨_,_,by rw[zaB h1,zaB h2],k _ G H (.refl gh) (zaG _)⟩
 ·cases e
theorem zu9:znl zjV:=λx n h=>by unfold zjV at h;split at h <;> cases h
theorem zud:znl zki:=λx n h=>by unfold zki at h;split at h <;> cases h
end
section
variable{X:Cx}
theorem zhq{α:Type}{f:α->V}{g:α->Value->Prop}(h:∀ a u,zcs (f a) u->g a u):∀{as:List α}{us:List Value}{i:Nat}{u:Value},zbf (as.map f) us->us[i]? = some u->∃ a,as[i]? = some a/\g a u
 |[],_,_,_,r,e=>by cases r;simp at e
 |a::as,_,0,u,.cons r t,e=>by simp at e;subst e;exact ⟨a,rfl,h a _ r⟩
 |a::as,_,i+1,u,.cons r t,e=>by obtain ⟨b,h1,h2⟩:=zhq h (i:=i) t (by simpa using e);exact ⟨b,by simpa using h1,h2⟩
theorem zjX:∀(bs:List Bool),((List.range bs.length).all λi=>(bs[i]?).getD true)=bs.all id:=λbs=>by
 rw[Bool.eq_iff_iff,List.all_eq_true,List.all_eq_true];constructor
 ·intro h b hb;obtain ⟨i,hi,rfl⟩:=List.mem_iff_getElem.mp hb;have:=h i (List.mem_range.mpr hi);simpa [hi] using this
 ·intro h i hi;have hi':=List.mem_range.mp hi;simpa [hi'] using h bs[i] (List.getElem_mem hi')
theorem zqd(hc:X.calm=true):zcZ X (.builtin "all") (λxs H Q=>∃(p:Addr)(bs:List Bool),xs=[.ref p]/\SqL X.K H p (bs.map V.bl)/\Q (.bl (bs.all id)) H):=by
 intro pS s Y H xs us Q I r h;obtain ⟨p,bs,rfl,hq,q⟩:=h;obtain ⟨u,rfl,ru⟩:=zf6 r;cases ru;obtain ⟨its,rv,pl,hz⟩:=I.list hq;have hlt:p≠s.heap.objs.size:=by obtain ⟨o,n,e,_⟩:=id pl;exact waM (wai e)
 have hlen:its.length=bs.length:=by rw[<- rv.length];simp
 refine call_all_walk (wpAny_pyIter_list pl.isList ?_);refine ⟨s.heap.objs.size,_,_,_,_,_,λi=>(bs[i]?).getD true,rfl,Walks.list (A:=X.A.in1) (I.ok.hd hc) s.heap.objs.size p hlt its.toArray,⟨⟨_,waj _ rfl,rfl,rfl⟩,?_⟩,?_,λh' tk hk=>?_⟩
 ·obtain ⟨o,ho,hc',n,hd⟩:=pl.isList;exact ⟨o,waa _ ho,hc',n,hd⟩
 ·intro i v s' Q' E' hP hQ;obtain ⟨b,h1,h2⟩:=zhq (f:=V.bl) (g:=λb u=>u=Value.bool b) (λa u z=>z) rv (i:=i) (u:=v) (by simpa using hP);subst h2;simp only[h1,Option.getD_some] at hQ;exact wpAny_truthy_bool hQ
 ·refine ⟨.bl (bs.all id),H,I.kept (t':=tk) λb o e=>hk b o (λz=>?_) (waa _ e),?_,q⟩
  ·simp at z;exact absurd (z ▸ wai e) (waL _)
  ·show Value.bool _=_;rw[List.size_toArray,hlen,zjX]
def zg1:List Dt->Option (List Bool)
 |[]=>some []
 |.bl b::r=>(zg1 r).map (b::·)
 |_=>none
theorem zjy{K:W.Frag}{G:Hp}:∀{ds:List Dt}{vs:List V}{bs:List Bool},za6 K G ds vs->zg1 ds=some bs->vs=bs.map V.bl
 |[],_,_,h,e=>by rw[h.nil_inv];simp[zg1] at e;subst e;rfl
 |.bl b::r,_,bs,h,e=>by obtain ⟨v,t,rfl,h1,h2⟩:=h.cons_inv;simp only[zg1,Option.map_eq_some_iff] at e;obtain ⟨bs',e1,rfl⟩:=e;rw[zfg h1,zjy h2 e1];rfl
 |.non::_,_,_,_,e=>by simp[zg1] at e
 |.int _::_,_,_,_,e=>by simp[zg1] at e
 |.str _::_,_,_,_,e=>by simp[zg1] at e
 |.tup _::_,_,_,_,e=>by simp[zg1] at e
 |.lst _::_,_,_,_,e=>by simp[zg1] at e
 |.dct _::_,_,_,_,e=>by simp[zg1] at e
 |.scr _::_,_,_,_,e=>by simp[zg1] at e
def zuc:List Dt->R Dt
 |[.lst l]=>match zg1 l with
  |some bs=>.ok (.bl (bs.all id))
  |none=>.no
 |_=>.no
theorem zw4{K:W.Frag}:FnR K (λxs H Q=>∃(p:Addr)(bs:List Bool),xs=[.ref p]/\SqL K H p (bs.map V.bl)/\Q (.bl (bs.all id)) H) zuc:=λG H vs ds z Q gh hr e k=>by
 unfold zuc at e;split at e
 ·split at e
  ·rename_i bs eb;obtain ⟨v,rfl,h1⟩:=zgh hr;obtain ⟨a,us,rfl,h2,h3⟩:=zaT h1;cases e;rw[zjy h3 eb] at h2;exact ⟨a,bs,rfl,SqL.of (gh _ _ h2),k _ G H (.refl gh) (zdY _)⟩
  ·cases e
 ·cases e
theorem zwC:znl zuc:=λx n h=>by unfold zuc at h;split at h <;> first|cases h|(split at h <;> cases h)
def zkV:List Dt->Option (List Int)
 |[]=>some []
 |.int b::r=>(zkV r).map (b::·)
 |_=>none
theorem zjT{K:W.Frag}{G:Hp}:∀{ds:List Dt}{vs:List V}{bs:List Int},za6 K G ds vs->zkV ds=some bs->vs=bs.map V.int
 |[],_,_,h,e=>by rw[h.nil_inv];simp[zkV] at e;subst e;rfl
 |.int b::r,_,bs,h,e=>by obtain ⟨v,t,rfl,h1,h2⟩:=h.cons_inv;simp only[zkV,Option.map_eq_some_iff] at e;obtain ⟨bs',e1,rfl⟩:=e;rw[zaB h1,zjT h2 e1];rfl
 |.non::_,_,_,_,e=>by simp[zkV] at e
 |.bl _::_,_,_,_,e=>by simp[zkV] at e
 |.str _::_,_,_,_,e=>by simp[zkV] at e
 |.tup _::_,_,_,_,e=>by simp[zkV] at e
 |.lst _::_,_,_,_,e=>by simp[zkV] at e
 |.dct _::_,_,_,_,e=>by simp[zkV] at e
 |.scr _::_,_,_,_,e=>by simp[zkV] at e
theorem zrz(ns:List Int):zkV (ns.map .int)=some ns:=by
 induction ns with
 |nil=>rfl
 |cons n r ih=>simp[zkV,ih]
def zpn:List Int->Int
 |[]=>0
 |[a]=>a
 |a::b::r=>let m:=zpn (b::r);if m<a then m else a
theorem zl1:∀(l:List Int),l≠[]->zpn l∈l/\∀ a∈l,zpn l<=a
 |[],h=>absurd rfl h
 |[a],_=>by simp[zpn]
 |a::b::r,_=>by
  obtain ⟨h1,h2⟩:=zl1 (b::r) xws;simp only[zpn];split
  ·rename_i h;refine ⟨wah _ h1,λx hx=>?_⟩;rcases wap.mp hx with rfl|hx
   ·lia
   ·exact h2 x hx
  ·rename_i h;refine ⟨wau,λx hx=>?_⟩;rcases wap.mp hx with rfl|hx
   ·lia
   ·have:=h2 x hx;lia
theorem ztR{l:List Int}{m:Int}(h1:m∈l)(h2:∀ a∈l,m<=a):m=zpn l:=by obtain ⟨h3,h4⟩:=zl1 l (by intro z;subst z;cases h1);have:=h2 _ h3;have:=h4 _ h1;lia
end
section
variable{X:Cx}
theorem zqv(hc:X.calm=true):zcZ X (.builtin "min") (λxs H Q=>∃(p:Addr)(ns:List Int),xs=[.ref p]/\SqL X.K H p (ns.map V.int)/\ns≠[]/\Q (.int (zpn ns)) H):=by
 intro pS s Y H xs us Q I r h;obtain ⟨p,ns,rfl,hq,hne,q⟩:=h;obtain ⟨u,rfl,ru⟩:=zf6 r;cases ru;obtain ⟨its,rv,pl,hz⟩:=I.list hq;have hlt:p≠s.heap.objs.size:=by obtain ⟨o,n,e,_⟩:=id pl;exact waM (wai e)
 have hlen:its.length=ns.length:=by rw[<- rv.length];simp
 have hpos:0<ns.length:=by cases ns with|nil=>exact absurd rfl hne|cons a r=>simp
 refine call_min_walk (wpAny_pyIter_list pl.isList ?_);refine ⟨s.heap.objs.size,_,_,_,_,_,_,rfl,Walks.list (A:=X.A.in1) (I.ok.hd hc) s.heap.objs.size p hlt its.toArray,⟨⟨_,waj _ rfl,rfl,rfl⟩,?_⟩,?_,(by rw[List.size_toArray,hlen];exact hpos),CmpOf.ints_lt (λi=>(ns[i]?).getD 0) (λi v hP=>?_),λv h' tk hP hk=>?_⟩
 ·obtain ⟨o,ho,hc',n,hd⟩:=pl.isList;exact ⟨o,waa _ ho,hc',n,hd⟩
 ·intro b hb;rw[Heap.size_push];obtain ⟨o,n,e,_⟩:=id pl;rcases wap.mp hb with rfl|hb
  ·exact Nat.lt_succ_self _
  ·simp at hb;subst hb;exact Nat.lt_succ_of_lt (wai e)
 ·obtain ⟨a,h1,h2⟩:=zhq (f:=V.int) (g:=λa u=>∃ t,u=Value.int a t) (λa u z=>z) rv (i:=i) (u:=v) (by simpa using hP);simp only[h1,Option.getD_some];exact h2
 ·have hP:its.toArray[argBest (λi j=>decide (((ns[i]?).getD 0)<((ns[j]?).getD 0))) (its.toArray.size-1)]? = some v:=hP;obtain ⟨a,h1,t,rfl⟩:=zhq (f:=V.int) (g:=λa u=>∃ t,u=Value.int a t) (λa u z=>z) rv (u:=v) (by simpa using hP);obtain ⟨k1,k2⟩:=argBest_lt (λi=>(ns[i]?).getD 0) (its.toArray.size-1);have ea:a=zpn ns:=by refine ztR (waH h1) λb hb=>?_;obtain ⟨j,hj,rfl⟩:=List.mem_iff_getElem.mp hb;have:=k2 j (by rw[List.size_toArray,hlen];lia);rw[show its.toArray.size-1=its.length-1 from by rw[List.size_toArray]] at this;simp only[h1,wac hj,Option.getD_some] at this;exact this
  subst ea;refine ⟨.int (zpn ns),H,I.kept (t':=tk) λb o e=>hk b o (λz=>?_) (waa _ e),⟨t,rfl⟩,q⟩;simp at z;exact absurd (z ▸ wai e) (waL _)
def zkI:List Dt->R Dt
 |[.lst l]=>match zkV l with
  |some (a::r)=>.ok (.int (zpn (a::r)))
  |_=>.no
 |_=>.no
theorem zvp{K:W.Frag}:FnR K (λxs H Q=>∃(p:Addr)(ns:List Int),xs=[.ref p]/\SqL K H p (ns.map V.int)/\ns≠[]/\Q (.int (zpn ns)) H) zkI:=λG H vs ds z Q gh hr e k=>by
 unfold zkI at e;split at e
 ·split at e
  ·rename_i a r eb;obtain ⟨v,rfl,h1⟩:=zgh hr;obtain ⟨ad,us,rfl,h2,h3⟩:=zaT h1;cases e;rw[zjT h3 eb] at h2;exact ⟨ad,_,rfl,SqL.of (gh _ _ h2),xws,k _ G H (.refl gh) (zaG _)⟩
  ·cases e
 ·cases e
theorem zv5:znl zkI:=λx n h=>by unfold zkI at h;split at h <;> first|cases h|(split at h <;> cases h)
end
def tyD:Dt->String
 |.non=>"NoneType"
 |.bl _=>"bool"
 |.int _=>"int"
 |.str _=>"str"
 |.tup _=>"tuple"
 |.lst _=>"list"
 |.dct _=>"dict"
 |.scr _=>"list"
def zmp(t T:String):Bool:=(t == T) || (t == "bool" && T == "int")
section
variable{X:Cx}{pS:List (Addr×Obj)}{Y:L2.St}{H:Hp}{s:Shared}
theorem ztk(I:L2.Inv X pS Y H s):∀{d:Dt}{v:V}{u:Value},Rep X.K H d v->zcs v u->∃ P:Heap->Prop,W.KitX X.K u (.type (tyD d)) P/\P s.heap/\u≠.builtin "__main__.__loader__#opaque"
 |.non,v,u,h,r=>by rw[zi1 h] at r;cases r;exact ⟨_,W.kitx_none,True.intro,xws⟩
 |.bl b,v,u,h,r=>by rw[zfg h] at r;cases r;exact ⟨_,W.kitx_bool,True.intro,xws⟩
 |.int b,v,u,h,r=>by rw[zaB h] at r;obtain ⟨t,rfl⟩:=r;exact ⟨_,W.kitx_int,True.intro,xws⟩
 |.str b,v,u,h,r=>by rw[zgH h] at r;obtain ⟨t,rfl⟩:=r;exact ⟨_,W.kitx_str,True.intro,xws⟩
 |.tup l,v,u,h,r=>by obtain ⟨a,vs,rfl,h1,h2⟩:=zbF h;cases r;obtain ⟨its,rv,⟨o,e,c,k,dd⟩,_⟩:=I.tuple h1;exact ⟨_,W.kitx_tuple,⟨o,e,c⟩,xws⟩
 |.lst l,v,u,h,r=>by obtain ⟨a,vs,rfl,h1,h2⟩:=zaT h;cases r;obtain ⟨its,rv,⟨o,k,e,c,_,dd⟩,_⟩:=I.list (SqL.of h1);exact ⟨_,W.kitx_list,⟨o,e,c⟩,xws⟩
 |.dct _,v,u,h,r=>by
  unfold Rep at h;obtain ⟨a,rfl,h1⟩:=h;cases r;obtain ⟨_,_,vs,_,o,es,ep,e1,e2,_⟩:=(show zdP X.prog X.w H s.heap a (.dK _) from I.hok a _ h1)
  exact ⟨_,W.kitx_dict,⟨o,e1,e2.1⟩,xws⟩
 |.scr l,v,u,h,r=>by obtain ⟨a,rfl,h1⟩:=zmz h;cases r;obtain ⟨its,rv,⟨o,k,e,c,_,dd⟩,_⟩:=I.list h1;exact ⟨_,W.kitx_list,⟨o,e,c⟩,xws⟩
end
def zhP(T:String):Prop:=∀(K:W.Frag)(t:String),t∈["NoneType","bool","int","str","tuple","list","dict"]->W.kitOne K (.type t) (.type T)=some (zmp t T)
theorem zmT(d:Dt):tyD d∈["NoneType","bool","int","str","tuple","list","dict"]:=by cases d <;> simp[tyD]
theorem zgI:zhP "int":=λK t h=>by simp only[wap,wak,or_false] at h;rcases h with rfl|rfl|rfl|rfl|rfl|rfl|rfl <;> rfl
theorem zh1:zhP "bool":=λK t h=>by simp only[wap,wak,or_false] at h;rcases h with rfl|rfl|rfl|rfl|rfl|rfl|rfl <;> rfl
theorem zvu:zhP "str":=λK t h=>by simp only[wap,wak,or_false] at h;rcases h with rfl|rfl|rfl|rfl|rfl|rfl|rfl <;> rfl
theorem zdX:zhP "tuple":=λK t h=>by simp only[wap,wak,or_false] at h;rcases h with rfl|rfl|rfl|rfl|rfl|rfl|rfl <;> rfl
theorem zkl:zhP "list":=λK t h=>by simp only[wap,wak,or_false] at h;rcases h with rfl|rfl|rfl|rfl|rfl|rfl|rfl <;> rfl
def zfw(T:String)(fa:De):De:=λZ=>(fa Z).bind λa=>.ok (.bl (zmp (tyD a.1) T),a.2)
def zuO(T U:String)(fa:De):De:=λZ=>(fa Z).bind λa=>.ok (.bl (zmp (tyD a.1) T || zmp (tyD a.1) U),a.2)
section
variable{X:Cx}{C:Cn}{e:Expr}{fa:De}{p p2 pos:Pos}
theorem zsN{T:String}(ok:zhP T):zcZ X (.builtin "isinstance") (λxs H Q=>∃ d v,xs=[v,.ty T]/\Rep X.K H d v/\Q (.bl (zmp (tyD d) T)) H):=by intro pS s Y H xs us Q I r h;obtain ⟨d,v,rfl,h1,q⟩:=h;obtain ⟨u,w',rfl,r1,r2⟩:=zo8 r;cases r2;obtain ⟨P,Zq,hp,hx⟩:=ztk I h1 r1;exact W.kia_one Zq I.kIn hp (ok X.K (tyD d) (zmT d)) hx λtk=>⟨.bl _,H,I.tok tk,rfl,q⟩
theorem zrg{T U:String}(ok:zhP T)(ok2:zhP U):zcZ X (.builtin "isinstance") (λxs H Q=>∃ d v a,xs=[v,.ref a]/\Rep X.K H d v/\SqT X.K H a [.ty T,.ty U]/\Q (.bl (zmp (tyD d) T || zmp (tyD d) U)) H):=by
 intro pS s Y H xs us Q I r h;obtain ⟨d,v,a,rfl,h1,ha,q⟩:=h;obtain ⟨u,w',rfl,r1,r2⟩:=zo8 r;cases r2;obtain ⟨P,Zq,hp,hx⟩:=ztk I h1 r1;obtain ⟨its,rv,⟨o,e,c,k,dd⟩,_⟩:=I.tuple ha;obtain ⟨x1,x2,rfl,q1,q2⟩:=zo8 rv;cases q1;cases q2;obtain ⟨oc,od,odt,osl⟩:=o;simp only at c dd;subst c dd;refine W.kia_tup (its:=[Value.type T,Value.type U]) (b:=zmp (tyD d) T || zmp (tyD d) U) Zq I.kIn hp e ?_ hx λtk=>⟨.bl _,H,I.tok tk,rfl,q⟩
 unfold W.kitAny;rw[ok X.K (tyD d) (zmT d)];cases zmp (tyD d) T with
 |true=>rfl
 |false =>
  simp only[W.kitAny,ok2 X.K (tyD d) (zmT d)];cases zmp (tyD d) U <;> rfl
theorem zcv{T:String}{x2:Str}(ok:zhP T)(hg:Gl X "isinstance")(hm:X.mg "isinstance"=none)(hv:bootBuiltins "isinstance"=some (.builtin "isinstance"))(hg2:Gl X x2)(hm2:X.mg x2=none)(hv2:bootBuiltins x2=some (.type T))(ha:JE X C e fa)
  (hn:("isinstance" : Str)≠"__name__":=by decide) (hdb:(("isinstance" : Str) == ("__debug__" : Str))=false:=by decide) (hn2:x2≠"__name__":=by decide) (hdb2:(x2 == ("__debug__" : Str))=false:=by decide)
  (hs:starEach [e,.Name x2 p2] X.env=(false,eval e X.env)::starEach [.Name x2 p2] X.env:=by rfl) (hs2:starEach [.Name x2 p2] X.env=(false,eval (.Name x2 p2) X.env)::starEach [] X.env:=by rfl) (hpl:(backTo pos (starEach [.Name x2 p2] X.env)).any (·.1)=false:=by rfl) :
  JE X C (.Call (.Name "isinstance" p) [e,.Name x2 p2] [] pos) (zfw T fa) :=
 PE.weak (zfq (zsN ok) hg hm hv (zbn ha (zbn (zmU (v:=.ty T) hg2 hm2 hv2 rfl hn2 hdb2) zde hs2) hs) hn hdb hs hpl) λY H Q ⟨G,w,Z,r,p⟩=>by refine zeL (κ:=λG H w=>kE X.K C Y Q G H w) zcy r p λd Z1 v G1 H1 w1 r1 s1 q1 p1=>?_;exact ⟨d,v,rfl,q1.same r1.gh,p1 _ G1 H1 w1 (.refl _ _ _) r1 (zdY _)⟩
theorem zuH{T U:String}{x2 x3:Str}{p3 pt:Pos}{kt}(ok:zhP T)(ok2:zhP U)(hg:Gl X "isinstance")(hm:X.mg "isinstance"=none)(hv:bootBuiltins "isinstance"=some (.builtin "isinstance"))(hg2:Gl X x2)(hm2:X.mg x2=none)(hv2:bootBuiltins x2=some (.type T))(hg3:Gl X x3)(hm3:X.mg x3=none)(hv3:bootBuiltins x3=some (.type U))(ha:JE X C e fa)
  (hn:("isinstance" : Str)≠"__name__":=by decide) (hdb:(("isinstance" : Str) == ("__debug__" : Str))=false:=by decide) (hn2:x2≠"__name__":=by decide) (hdb2:(x2 == ("__debug__" : Str))=false:=by decide) (hn3:x3≠"__name__":=by decide) (hdb3:(x3 == ("__debug__" : Str))=false:=by decide)
  (hs:starEach [e,.Tuple [.Name x2 p2,.Name x3 p3] kt pt] X.env=(false,eval e X.env)::starEach [.Tuple [.Name x2 p2,.Name x3 p3] kt pt] X.env:=by rfl) (hs2:starEach [.Tuple [.Name x2 p2,.Name x3 p3] kt pt] X.env=(false,eval (.Tuple [.Name x2 p2,.Name x3 p3] kt pt) X.env)::starEach [] X.env:=by rfl) (hpl:(backTo pos (starEach [.Tuple [.Name x2 p2,.Name x3 p3] kt pt] X.env)).any (·.1)=false:=by rfl)
  (hs3:starEach [.Name x2 p2,.Name x3 p3] X.env=(false,eval (.Name x2 p2) X.env)::starEach [.Name x3 p3] X.env:=by rfl) (hs4:starEach [.Name x3 p3] X.env=(false,eval (.Name x3 p3) X.env)::starEach [] X.env:=by rfl) :
  JE X C (.Call (.Name "isinstance" p) [e,.Tuple [.Name x2 p2,.Name x3 p3] kt pt] [] pos) (zuO T U fa) :=
 PE.weak (zfq (zrg ok ok2) hg hm hv (zbn ha (zbn (ztH (zbn (zmU (v:=.ty T) hg2 hm2 hv2 rfl hn2 hdb2) (zbn (zmU (v:=.ty U) hg3 hm3 hv3 rfl hn3 hdb3) zde hs4) hs3)) zde hs2) hs) hn hdb hs hpl) λY H Q ⟨G,w,Z,r,p⟩=>by refine zeL (κ:=λG H w=>kE X.K C Y Q G H w) zcy r p λd Z1 v G1 H1 w1 r1 s1 q1 p1=>?_;refine ⟨by show 2<=sizeLine;decide,λa ha=>?_⟩;have gr:zeC G1 H1 G1 (upd H1 a (.tup [.ty T,.ty U])):=.newH r1.gh ha;exact ⟨d,v,a,rfl,(q1.same r1.gh).same gr.h,SqT.of zat,p1 _ G1 _ w1 gr.step (r1.grow gr) (zdY _)⟩
def gIx:Dt->Dt->R Dt
 |.lst l,.int i=>match atI l i with
  |some d=>.ok d
  |none=>.no
 |.tup l,.int i=>match atI l i with
  |some d=>.ok d
  |none=>.no
 |.scr l,.int i=>match atI l i with
  |some d=>.ok (.int d)
  |none=>.no
 |_,_=>.no
theorem zvC{α β:Type}{f:α->β}{l:List α}{i:Int}{d:α}(ed:atI l i=some d):atI (l.map f) i=some (f d):=by
 unfold atI at ed ⊢;rw[List.length_map];cases q:ixN l.length i with
 |none=>rw[q] at ed;cases ed
 |some j =>
  rw[q] at ed;simp only[Option.bind_some] at ed ⊢;rw[List.getElem?_map,ed];rfl
theorem zxv{K:W.Frag}:Op2 K (λx y H Q=>rIxL K x y H Q\/rIxT K x y H Q) gIx:=λG H x y dx dy z Q gh hx hy e k=>by
 unfold gIx at e;split at e
 ·split at e
  ·rename_i d ed;cases e;obtain ⟨a,vs,rfl,h1,h2⟩:=zaT hx;obtain ⟨v,e1,e2⟩:=zkQ h2 ed;exact .inl ⟨a,vs,_,v,rfl,zaB hy,SqL.of (gh _ _ h1),e1,k v G H (.refl gh) e2⟩
  ·cases e
 ·split at e
  ·rename_i d ed;cases e;obtain ⟨a,vs,rfl,h1,h2⟩:=zbF hx;obtain ⟨v,e1,e2⟩:=zkQ h2 ed;exact .inr ⟨a,vs,_,v,rfl,zaB hy,zaO gh h1,e1,k v G H (.refl gh) e2⟩
  ·cases e
 ·split at e
  ·rename_i d ed;cases e;obtain ⟨a,rfl,h1⟩:=zmz hx;exact .inl ⟨a,_,_,.int d,rfl,zaB hy,gh.seq h1,zvC ed,k _ G H (.refl gh) (zaG _)⟩
  ·cases e
 ·cases e
theorem zuo:zmO gIx:=λx y n h=>by unfold gIx at h;split at h <;> first|cases h|(split at h <;> cases h)
theorem zbc{a b:Expr}{fa fb:De}(ha:JE X C a fa)(hb:JE X C b fb)(hs:zk4 b:=by exact λ_ _=>rfl):JE X C (.Subscript a b pos) (dOp gIx fa fb) :=
 PE.weak (zvA (zm4.or zwT) ha hb hs) λY H Q h=>zkD zxv zuo h
end
theorem Rel.mutate{K:W.Frag}{C:Cn}{Y:L2.St}{G H:Hp}{w:Wn}{Z:Ev}{i:Nat}{ds ds':List Dt}{a:Addr}{vs':List V}(r:Rel K C G w Z Y H)(hi:Z[i]? = some (some (.own ds)))(hv:Y[i]? = some (some (.ref a)))(hw:w a=some i)(h':za6 K G ds' vs') :
  Rel K C G w (Z.set i (some (.own ds'))) Y (upd H a (.lst vs'))/\zbP G H w G (upd H a (.lst vs')) w:=by
 have ga:G a=none:=r.wg a (by rw[hw];simp);have st:zbP G H w G (upd H a (.lst vs')) w:=by
  refine ⟨.refl _,λb o e=>.inl (by rw[e];simp),λb o e z=>?_,λ_ e=>.inl e,λb e=>?_⟩
  ·have:b≠a:=λq=>by subst q;rw[hw] at z;cases z
   rw[zau this];exact e
  ·by_cases hb:b=a
   ·subst hb;rw[zat] at e;cases e
   ·rw[zau hb] at e;exact e
 refine ⟨⟨λb o e=>?_,r.wg,λb e=>?_,by simpa using r.len,λj b e=>?_,r.en.trans st,r.pin⟩,st⟩
 ·rw[zau (zav e ga)];exact r.gh b o e
 ·by_cases hb:b=a
  ·subst hb;rw[zat];simp
  ·rw[zau hb];exact r.wh b e
 ·by_cases hj:j=i
  ·subst hj;rw[List.getElem?_set_self (List.getElem?_eq_some_iff.mp hi).1] at e;cases e;exact ⟨_,hv,a,vs',rfl,hw,zat,h'⟩
  ·rw[List.getElem?_set_ne (Ne.symm hj)] at e;obtain ⟨v',h1,h2⟩:=r.sl j b e;refine ⟨v',h1,h2.grow (.refl _) λb' o e1 e2=>⟨?_,e1⟩⟩;have:b'≠a:=λz=>by subst z;rw[hw] at e1;exact hj (waA e1).symm
   rw[zau this];exact e2
section
variable{X:Cx}{C:Cn}{e:Expr}{fa:De}{pos ps apos:Pos}{x:Str}
theorem zd0{K:W.Frag}{Y:L2.St}{G H:Hp}{w:Wn}{Z:Ev}{i:Nat}{ds:List Dt}(r:Rel K C G w Z Y H)(e:Z[i]? = some (some (.own ds))):∃ a vs,Y[i]? = some (some (.ref a))/\w a=some i/\H a=some (.lst vs)/\za6 K G ds vs:=by obtain ⟨v,h1,a,vs,rfl,h2,h3,h4⟩:=r.sl i _ e;exact ⟨a,vs,h1,h2,h3,h4⟩
def zeK(i:Nat)(fa:De):De:=λZ=>match Z[i]? with
 |some (some (.own _))=>(fa Z).bind λa=>match a.2[i]? with
  |some (some (.own ds))=>if ds.length<16777216 then .ok (.non,a.2.set i (some (.own (ds++[a.1])))) else .no
  |_=>.no
 |_=>.no
theorem zdd:sizeLine=16777216:=by decide
theorem zkd(i:Nat)(ha:JE X C e fa)(hN:X.N[i]? = some x:=by rfl)(hv:Vis X.env.scope x:=by exact xwV)(hd:(x == ("__debug__" : Str))=false:=by decide)(hcd:(x == ("__classdict__" : Str))=false:=by decide)
  (hbase:attributeBase (.Name x ps) "append" X.env (eval (.Name x ps) X.env)=eval (.Name x ps) X.env:=by rfl)
  (hfew:((backTo pos (starEach [e] X.env)).all (λx=>!x.1) && (backToKw pos (keywordEach [] X.env)).all (λx=>x.1.isSome) && decide ([e].length+([]:List Keyword).length+(if ([]:List Keyword).isEmpty then 0 else 1)<30))=true:=by rfl)
  (hline:(apos.endLine == pos.line)=true:=by rfl) (hs:starEach [e] X.env=(false,eval e X.env)::starEach [] X.env:=by rfl) (hplain:(backTo pos (starEach [] X.env)).any (·.1)=false:=by rfl) :
  JE X C (.Call (.Attribute (.Name x ps) "append" apos) [e] [] pos) (zeK i fa) :=
 PE.weak (zqA PySem.F.plainAttrs_list PySem.F.slot_list_append PySem.F.type_list_append zh9 (zd2 hN hv hd hcd) (zbn ha zde hs) hbase hfew hline hs hplain) λY H Q ⟨G,w,Z,r,p⟩=>by
  unfold zeK at p;split at p
  ·rename_i ds0 e0;obtain ⟨a,vs,h1,h2,h3,h4⟩:=zd0 r e0;refine ⟨.ref a,h1,.inl ⟨rfl,vs,SqL.of h3⟩,?_⟩;refine zeL (κ:=λG H w=>kE X.K C Y Q G H w) zcy r p λd Z1 v G1 H1 w1 r1 s1 q1 p1=>?_;dsimp only at p1;split at p1
   ·rename_i ds e1;obtain ⟨a',vs',k1,k2,k3,k4⟩:=zd0 r1 e1;rw[h1] at k1;cases k1;split at p1
    ·rename_i hl;obtain ⟨r',s'⟩:=r1.mutate e1 h1 k2 (k4.append (za6.cons q1 za6.nil));exact ⟨a,vs',v,rfl,rfl,k3,by rw[<- k4.length,zdd];exact hl,p1 _ _ _ _ s' r' (by unfold Rep;rfl)⟩
    ·exact p1.elim
   ·exact p1.elim
  ·exact p.elim
def zs6(ds:List Dt)(k:Int):Option (Dt×List Dt):=if zf2 k=true then match ixN ds.length k with
  |some j=>match ds[j]? with
   |some d=>some (d,ds.eraseIdx j)
   |none=>none
  |none=>none
 else none
def zjw(i:Nat)(fa:De):De:=λZ=>match Z[i]? with
 |some (some (.own _))=>(fa Z).bind λa=>match a.2[i]?,a.1 with
  |some (some (.own ds)),.int k=>match zs6 ds k with
   |some z=>.ok (z.1,a.2.set i (some (.own z.2)))
   |none=>.no
  |_,_=>.no
 |_=>.no
theorem zrQ(i:Nat)(ha:JE X C e fa)(hN:X.N[i]? = some x:=by rfl)(hv:Vis X.env.scope x:=by exact xwV)(hd:(x == ("__debug__" : Str))=false:=by decide)(hcd:(x == ("__classdict__" : Str))=false:=by decide)
  (hbase:attributeBase (.Name x ps) "pop" X.env (eval (.Name x ps) X.env)=eval (.Name x ps) X.env:=by rfl)
  (hfew:((backTo pos (starEach [e] X.env)).all (λx=>!x.1) && (backToKw pos (keywordEach [] X.env)).all (λx=>x.1.isSome) && decide ([e].length+([]:List Keyword).length+(if ([]:List Keyword).isEmpty then 0 else 1)<30))=true:=by rfl)
  (hline:(apos.endLine == pos.line)=true:=by rfl) (hs:starEach [e] X.env=(false,eval e X.env)::starEach [] X.env:=by rfl) (hplain:(backTo pos (starEach [] X.env)).any (·.1)=false:=by rfl) :
  JE X C (.Call (.Attribute (.Name x ps) "pop" apos) [e] [] pos) (zjw i fa) :=
 PE.weak (zqA PySem.F.plainAttrs_list PySem.F.slot_list_pop PySem.F.type_list_pop zsk (zd2 hN hv hd hcd) (zbn ha zde hs) hbase hfew hline hs hplain) λY H Q ⟨G,w,Z,r,p⟩=>by
  unfold zjw at p;split at p
  ·rename_i ds0 e0;obtain ⟨a,vs,h1,h2,h3,h4⟩:=zd0 r e0;refine ⟨.ref a,h1,.inl ⟨rfl,vs,SqL.of h3⟩,?_⟩;refine zeL (κ:=λG H w=>kE X.K C Y Q G H w) zcy r p λd Z1 v G1 H1 w1 r1 s1 q1 p1=>?_;dsimp only at p1;split at p1
   ·rename_i ds k e1;obtain ⟨a',vs',k1,k2,k3,k4⟩:=zd0 r1 e1;rw[h1] at k1;cases k1;split at p1
    ·rename_i z ez;unfold zs6 at ez;split at ez
     ·rename_i hb;split at ez
      ·rename_i j ej;split at ez
       ·rename_i d ed;cases ez;obtain ⟨j1,j2,j3,j4⟩:=zm5 ej;obtain ⟨y,y1,y2⟩:=k4.get ed;obtain ⟨r',s'⟩:=r1.mutate e1 h1 k2 (k4.eraseIdx j);have hl:=k4.length;obtain ⟨b1,b2⟩:=zhv hb;exact ⟨a,vs',k,j,y,rfl,by rw[zaB q1],k3,xwl,xwl,by rw[<- hl];exact j1,y1,p1 _ _ _ _ s' r' y2⟩
       ·cases ez
      ·cases ez
     ·cases ez
    ·exact p1.elim
   ·exact p1.elim
  ·exact p.elim
end
theorem zvy{X:Cx}{pS:List (Addr×Obj)}{Y:L2.St}{H:Hp}{s:Shared}{a:Addr}{xs:List V}(I:L2.Inv X pS Y H s)(h:zku X.K H a xs):∃(its:List Value)(n:Nat),zbf xs its/\s.heap.get? a=some { cls:=.type "tuple",data:=.seq its.toArray n }/\xs.length<=sizeLine:=by
 rcases h with h|⟨its,n,h1,h2,h3⟩
 ·obtain ⟨z,its,r,n,e⟩:=(show zdP X.prog X.w H s.heap a (.tup xs) from I.hok a _ h)
  exact ⟨its,n,r,e,z⟩
 ·refine ⟨its.toList,n,h3,by simpa using I.kIn a _ h1,?_⟩;have:=h3.length;simp only[Array.length_toList] at this;lia
def zwA(K:W.Frag):V->List V->Hp->VK->Prop:=λx vs H Q=>∃ l b xs zs,x=.ref l/\vs=[.ref b]/\H l=some (.lst xs)/\zku K H b zs/\xs.length+zs.length<=sizeLine/\Q .non (upd H l (.lst (xs++zs)))
section
variable{X:Cx}
theorem zoG:MtM X "list.extend" (zwA X.K):=by
 intro pS s Y H x vs v us Q I rx rv h;obtain ⟨l,b,xs,zs,rfl,rfl,hH,hB,hz,q⟩:=h;cases rx;obtain ⟨u,rfl,ru⟩:=zbf.one rv;cases ru;obtain ⟨z,its,n,r,hl,e⟩:=I.lstM hH;obtain ⟨its2,n2,r2,e2,z2⟩:=zvy I hB;have hl2:=r2.length;have hsz:its.toArray.size+its2.toArray.size<=sizeLine:=by rw[List.size_toArray,List.size_toArray];lia
 have hlong:¬ (!its.toArray.isEmpty && Builtin.List.listTooLong (its.toArray.size+its2.toArray.size))=true:=by rw[zkw hsz,Bool.and_false];exact Bool.false_ne_true
 refine PySem.call_meets F.slot_list_extend ⟨_,e,rfl⟩ F.entry_list_extend (F.args_list_extend_2 _ _)
  (AutoSeq1.list_extend_list_tuple_0 l its.toArray n b its2.toArray n2 hlong (by rw[List.size_toArray];lia) xwl) ⟨e,e2,?_⟩
 refine ⟨.non,_,I.lset (its':=its++its2) hH e xws (r.append r2) ?_,rfl,q⟩;rw[List.length_append];lia
theorem MtM.or{id:String}{r r':V->List V->Hp->VK->Prop}(h:MtM X id r)(h':MtM X id r'):MtM X id (λx xs H Q=>r x xs H Q\/r' x xs H Q):=by
 intro pS s Y H x xs v us Q I rx rs q;rcases q with q|q
 ·exact h pS s Y H x xs v us Q I rx rs q
 ·exact h' pS s Y H x xs v us Q I rx rs q
variable{C:Cn}{e:Expr}{fa fb:De}{pos ps apos:Pos}{x:Str}
def zit:Dt->Option (List Dt)
 |.lst l=>some l
 |.tup l=>some l
 |_=>none
def zhi(i:Nat)(fa:De):De:=λZ=>match Z[i]? with
 |some (some (.own _))=>(fa Z).bind λa=>match a.2[i]?,zit a.1 with
  |some (some (.own ds)),some l=>if ds.length+l.length<=16777216 then .ok (.non,a.2.set i (some (.own (ds++l)))) else .no
  |_,_=>.no
 |_=>.no
theorem zm7(i:Nat)(ha:JE X C e fa)(hN:X.N[i]? = some x:=by rfl)(hv:Vis X.env.scope x:=by exact xwV)(hd:(x == ("__debug__" : Str))=false:=by decide)(hcd:(x == ("__classdict__" : Str))=false:=by decide)
  (hbase:attributeBase (.Name x ps) "extend" X.env (eval (.Name x ps) X.env)=eval (.Name x ps) X.env:=by rfl)
  (hfew:((backTo pos (starEach [e] X.env)).all (λx=>!x.1) && (backToKw pos (keywordEach [] X.env)).all (λx=>x.1.isSome) && decide ([e].length+([]:List Keyword).length+(if ([]:List Keyword).isEmpty then 0 else 1)<30))=true:=by rfl)
  (hline:(apos.endLine == pos.line)=true:=by rfl) (hs:starEach [e] X.env=(false,eval e X.env)::starEach [] X.env:=by rfl) (hplain:(backTo pos (starEach [] X.env)).any (·.1)=false:=by rfl) :
  JE X C (.Call (.Attribute (.Name x ps) "extend" apos) [e] [] pos) (zhi i fa) :=
 PE.weak (zqA PySem.F.plainAttrs_list PySem.F.slot_list_extend PySem.F.type_list_extend (MtM.or zqr zoG) (zd2 hN hv hd hcd) (zbn ha zde hs) hbase hfew hline hs hplain) λY H Q ⟨G,w,Z,r,p⟩=>by
  unfold zhi at p;split at p
  ·rename_i ds0 e0;obtain ⟨a,vs,h1,h2,h3,h4⟩:=zd0 r e0;refine ⟨.ref a,h1,.inl ⟨rfl,vs,SqL.of h3⟩,?_⟩;refine zeL (κ:=λG H w=>kE X.K C Y Q G H w) zcy r p λd Z1 v G1 H1 w1 r1 s1 q1 p1=>?_;dsimp only at p1;split at p1
   ·rename_i ds l e1 el;obtain ⟨a',vs',k1,k2,k3,k4⟩:=zd0 r1 e1;rw[h1] at k1;cases k1;split at p1
    ·rename_i hl;cases d with
     |lst l' =>
      cases el;obtain ⟨b,us,rfl,b1,b2⟩:=zaT q1;obtain ⟨r',s'⟩:=r1.mutate e1 h1 k2 (k4.append b2);exact .inl ⟨a,b,vs',us,rfl,rfl,k3,r1.gh _ _ b1,by rw[<- k4.length,<- b2.length,zdd];exact hl,p1 _ _ _ _ s' r' (by unfold Rep;rfl)⟩
     |tup l' =>
      cases el;obtain ⟨b,us,rfl,b1,b2⟩:=zgd q1;obtain ⟨r',s'⟩:=r1.mutate e1 h1 k2 (k4.append b2);exact .inr ⟨a,b,vs',us,rfl,rfl,k3,b1.same r1.gh,by rw[<- k4.length,<- b2.length,zdd];exact hl,p1 _ _ _ _ s' r' (by unfold Rep;rfl)⟩
     |_=>cases el
    ·exact p1.elim
   ·exact p1.elim
  ·exact p.elim
def zoO(i:Nat):De:=λZ=>match Z[i]? with
 |some (some (.own ds))=>.ok (.int ds.length,Z)
 |_=>.no
theorem zuh(i:Nat){p:Pos}(hg:Gl X "len")(hm:X.mg "len"=none)(hN:X.N[i]? = some x:=by rfl)(hv:Vis X.env.scope x:=by exact xwV)(hd:(x == ("__debug__" : Str))=false:=by decide)(hcd:(x == ("__classdict__" : Str))=false:=by decide)
  (hs:starEach [.Name x ps] X.env=(false,eval (.Name x ps) X.env)::starEach [] X.env:=by rfl) (hpl:(backTo pos (starEach [] X.env)).any (·.1)=false:=by rfl):JE X C (.Call (.Name "len" p) [.Name x ps] [] pos) (zoO i) :=
 PE.weak (zfq zfo hg hm PySem.boot_len (zbn (zd2 hN hv hd hcd) zde hs) xwd xwd hs hpl) λY H Q ⟨G,w,Z,r,p⟩=>by
  unfold zoO at p;split at p
  ·rename_i ds e0;obtain ⟨a,vs,h1,h2,h3,h4⟩:=zd0 r e0;exact ⟨.ref a,h1,a,vs,rfl,.inl (SqL.of h3),by rw[<- h4.length];exact p _ G H w (.refl _ _ _) r (zaG _)⟩
  ·exact p.elim
def zvO(neg:Bool)(i:Nat)(fb:De):De:=λZ=>match Z[i]? with
 |some (some (.own _))=>(fb Z).bind λb=>match b.2[i]? with
  |some (some (.own ds))=>(gEq neg (.lst ds) b.1).bind λz=>.ok (z,b.2)
  |_=>.no
 |_=>.no
theorem zs5{neg:Bool}{i:Nat}{Y:L2.St}{H:Hp}{Q:VK}(h:tE X.K C (zvO neg i fb) Y H Q):tOp (zxB X.K neg) (zyw i) (tE X.K C fb) Y H Q:=by
 obtain ⟨G,w,Z,r,p⟩:=h;unfold zvO at p;split at p
 ·rename_i ds0 e0;obtain ⟨a,vs,h1,h2,h3,h4⟩:=zd0 r e0;refine ⟨.ref a,h1,?_⟩;refine zeL (κ:=λG H w=>kE X.K C Y Q G H w) zcy r p λd Z1 v G1 H1 w1 r1 s1 q1 p1=>?_;dsimp only at p1;split at p1
  ·rename_i ds e1;obtain ⟨a',vs',k1,k2,k3,k4⟩:=zd0 r1 e1;rw[h1] at k1;cases k1;unfold gEq at p1;split at p1
   ·rename_i hk;rw[Bool.and_eq_true] at hk;exact ⟨.lst ds,d,by unfold Rep;exact ⟨a,vs',rfl,k3,k4.same r1.gh⟩,q1.same r1.gh,hk.1,hk.2,p1 _ G1 H1 w1 (.refl _ _ _) r1 (zdY _)⟩
   ·exact p1.elim
  ·exact p1.elim
 ·exact p.elim
variable{b:Expr}
theorem zwY(i:Nat)(hu:X.A.units+64<cLine)(hb:JE X C b fb)(hN:X.N[i]? = some x:=by rfl)(hv:Vis X.env.scope x:=by exact xwV)(hd:(x == ("__debug__" : Str))=false:=by decide)(hcd:(x == ("__classdict__" : Str))=false:=by decide) :
  JT X C (.Compare (.Name x ps) [.NotEq] [b] pos) (dTB (zvO true i fb)):=PT.weak (zmr (ztt hu) (zd2 hN hv hd hcd) hb (zik _)) λY H Q h=>zs5 (zkb h)
def zpm(neg:Bool)(i:Nat)(fa:De):De:=λZ=>(fa Z).bind λa=>match a.2[i]? with
 |some (some (.own ds))=>(gIn neg a.1 (.lst ds)).bind λz=>.ok (z,a.2)
 |_=>.no
theorem zrR{neg:Bool}{i:Nat}{Y:L2.St}{H:Hp}{Q:VK}(h:tE X.K C (zpm neg i fa) Y H Q):tOp (zxE X.K neg) (tE X.K C fa) (zyw i) Y H Q:=by
 obtain ⟨G,w,Z,r,p⟩:=h;refine zeL (κ:=λG H w=>kE X.K C Y Q G H w) zcy r p λd Z1 v G1 H1 w1 r1 s1 q1 p1=>?_;dsimp only at p1;split at p1
 ·rename_i ds e1;obtain ⟨a,vs,k1,k2,k3,k4⟩:=zd0 r1 e1;refine ⟨.ref a,k1,?_⟩;unfold gIn at p1;dsimp only at p1;by_cases hk:(okN 60 d && ds.all (okN 60))=true
  ·rw[if_pos hk] at p1;rw[Bool.and_eq_true] at hk;exact ⟨d,ds,q1.same r1.gh,.inl (by unfold Rep;exact ⟨a,vs,rfl,k3,k4.same r1.gh⟩),hk.1,hk.2,p1 _ G1 H1 w1 (.refl _ _ _) r1 (zdY _)⟩
  ·rw[if_neg hk] at p1;exact waO p1
 ·exact waO p1
theorem ztj(i:Nat)(hu:X.A.units+65<cLine)(ha:JE X C e fa)(hN:X.N[i]? = some x:=by rfl)(hv:Vis X.env.scope x:=by exact xwV)(hd:(x == ("__debug__" : Str))=false:=by decide)(hcd:(x == ("__classdict__" : Str))=false:=by decide)(hm:behindInMarks .In (.Name x ps)=false:=by rfl) :
  JT X C (.Compare e [.In] [.Name x ps] pos) (dTB (zpm false i fa)):=PT.weak (zmr (zrx hu) ha (zd2 hN hv hd hcd) hm) λY H Q h=>zrR (zkb h)
def zqL(i:Nat)(fv fk:De):DS:=λZ=>(fv Z).bind λv=>match v.2[i]? with
 |some (some (.own _))=>(fk v.2).bind λk=>match k.2[i]?,k.1 with
  |some (some (.own ds)),.int n=>match ixN ds.length n with
   |some j=>.ok (.nx,k.2.set i (some (.own (ds.set j v.1))))
   |none=>.no
  |_,_=>.no
 |_=>.no
theorem zp5(i:Nat){k:Expr}{fk:De}{tp:Pos}(hv:JE X C e fa)(hk:JE X C k fk)(hN:X.N[i]? = some x:=by rfl)(hvi:Vis X.env.scope x:=by exact xwV)(hd:(x == ("__debug__" : Str))=false:=by decide)(hcd:(x == ("__classdict__" : Str))=false:=by decide)
  (ha:∀ v,assign (.Subscript (.Name x ps) k tp) X.env v=(do
   let ov <- holding [v] (eval (.Name x ps) X.env);let iv <- holding [v,ov] (eval k X.env)
   standAt tp
   holding [v,ov,iv] (setItem ov iv v)
   release [v,ov,iv] []):=by intro _;rfl)
  (hs:swapsWithSole [.Subscript (.Name x ps) k tp] e pos.line X.env=pure false:=by rfl) (hw:swappedStores [.Subscript (.Name x ps) k tp] e X.env=pure none:=by rfl)
  (h1:(assignEach [.Subscript (.Name x ps) k tp] X.env).map (·.2)=[assign (.Subscript (.Name x ps) k tp) X.env]:=by rfl):JS X C (.Assign [.Subscript (.Name x ps) k tp] e pos) (zqL i fa fk) :=
 PS.weak (zxo hv (zwJ (zd2 hN hvi hd hcd) hk zsK ha) hs hw h1) λD Y H ⟨G,w,Z,r,p⟩=>by
  refine zeL (κ:=λG H w=>kS X.K C D G H w) zfj r p λd Z1 v G1 H1 w1 r1 s1 q1 p1=>?_;dsimp only at p1;split at p1
  ·rename_i ds0 e0;obtain ⟨a,vs,k1,k2,k3,k4⟩:=zd0 r1 e0;refine ⟨.ref a,k1,?_⟩;refine zeL (κ:=λG H w=>kS X.K C D G H w) zfj r1 p1 λd2 Z2 v2 G2 H2 w2 r2 s2 q2 p2=>?_;dsimp only at p2;split at p2
   ·rename_i ds n e2;obtain ⟨a',vs',m1,m2,m3,m4⟩:=zd0 r2 e2;rw[k1] at m1;cases m1;split at p2
    ·rename_i j ej;obtain ⟨r',s'⟩:=r2.mutate e2 k1 m2 (za6.set (q1.same s2.g) j m4);exact ⟨a,vs',n,j,rfl,zaB q2,m3,by rw[<- m4.length];exact ej,p2 _ _ _ _ s' r'⟩
    ·exact waO p2
   ·exact waO p2
  ·exact waO p1
end
theorem zeX{env:Env}:∀(names:List (Str×NameKind))(cs:List (Str×Addr)),(∀ y∈names,y.2=.free->∃ c,env.cells.lookup y.1=some c)->(∀ x c,cs.lookup x=some c->env.cells.lookup x=some c) ->
  ∃ cl,(forIn names cs λ(y:Str×NameKind) (r:List (Str×Addr))=>(if (y.2 == NameKind.free)=true then do let a <- cellOf env y.1;pure (ForInStep.yield ((y.1,a)::r)) else pure (ForInStep.yield r):Sem (ForInStep (List (Str×Addr)))))=pure cl /\
   (∀ x c,cl.lookup x=some c->env.cells.lookup x=some c)/\(∀ x c,cs.lookup x=some c->∃ c',cl.lookup x=some c')/\∀ y∈names,y.2=.free->∃ c,cl.lookup y.1=some c
 |[],cs,_,h2=>⟨cs,rfl,h2,λx c e=>⟨c,e⟩,λy hy=>by cases hy⟩
 | (n,k)::r,cs,h1,h2=>by
  rw[List.forIn_cons];by_cases hk:k=.free
  ·subst hk;obtain ⟨c,hc⟩:=h1 (n,.free) wau rfl;obtain ⟨cl,e1,e2,e3,e4⟩:=zeX r ((n,c)::cs) (λy hy=>h1 y (wah _ hy)) (λx c' e=>by
    rw[List.lookup_cons] at e;cases hx:x == n with
    |true=>rw[hx] at e;simp only[Option.some.injEq] at e;subst e;rw[beq_iff_eq.mp hx];exact hc
    |false=>rw[hx] at e;exact h2 x c' e)
   refine ⟨cl,?_,e2,λx c' e=>?_,λy hy hf=>?_⟩
   ·simp only[beq_self_eq_true,if_true];have:cellOf env n=pure c:=by unfold cellOf;rw[hc]
    rw[this];exact e1
   ·refine (e3 x (if x == n then c else c') ?_);rw[List.lookup_cons];cases hx:x == n with
    |true=>rfl
    |false=>exact e
   ·rcases wap.mp hy with rfl|hy
    ·exact e3 n c (by simp[List.lookup_cons])
    ·exact e4 y hy hf
  ·obtain ⟨cl,e1,e2,e3,e4⟩:=zeX r cs (λy hy=>h1 y (wah _ hy)) h2;refine ⟨cl,?_,e2,e3,λy hy hf=>?_⟩
   ·have:(k == NameKind.free)=false:=by simpa using hk
    simp only[this,Bool.false_eq_true,if_false];exact e1
   ·rcases wap.mp hy with rfl|hy
    ·exact absurd hf hk
    ·exact e4 y hy hf
theorem zgB{scope:Scope}{env:Env}(h:∀ y∈scope.names,y.2=.free->∃ c,env.cells.lookup y.1=some c):∃ cl,closureFor scope env=pure cl/\(∀ x c,cl.lookup x=some c->env.cells.lookup x=some c)/\∀ y∈scope.names,y.2=.free->∃ c,cl.lookup y.1=some c:=by obtain ⟨cl,e1,e2,_,e4⟩:=zeX (env:=env) scope.names [] h (λx c e=>by simp at e);refine ⟨cl,?_,e2,e4⟩;unfold closureFor;exact (congrArg (λz:Sem (List (Str×Addr))=>z >>= λcs=>pure cs) e1).trans rfl
section
variable{prog:Program}{w:World}{A:Around}{R:Result->Shared->Prop}{s:Shared}
theorem zlT{elt target iter:Expr}{ifs:List Expr}{scope:Scope}{pos:Pos}{it acc:Value}{env:Env}(I:Nat->Shared->Prop)
  (turn:∀ n s,I n s->wpAny (model prog w) A (pyNext it) (λr s₁=>match r with
   |none=>R (.ok .next) s₁
   |some v=>wpAny (model prog w) A (letOwnedTupleGo target it v) (λ_ s₁'=>wpAny (model prog w) A (assign target env v) (λ_ s₂ =>
     wpAny (model prog w) A (forIn ifs true λc r=>if r=true then do let ok <- isTrue c env (eval c env);pure (ForInStep.yield ok) else pure (ForInStep.yield r)) (λok s₃ =>
      if ok=true then wpAny (model prog w) A (eval elt env) (λx s₄ =>
       wpAny (model prog w) A (call (.builtin "list.append") [acc,x]) (λ_ s₅=>∃ m,m<n/\I m s₅) (λ_ _=>False) s₄) (λ_ _=>False) s₃
      else ∃ m,m<n/\I m s₃) (λ_ _=>False) s₂) (λ_ _=>False) s₁') (λ_ _=>False) s₁) (λ_ _=>False) s)
  (n:Nat) (h:I n s) :
  codeAny (model prog w) A (.compLoop (.ListComp elt [⟨target,iter,ifs,0⟩] scope pos) 0 it acc env) R s:=by
 refine codeAny_loop rfl I (λn s hI=>?_) n h;show wpAny _ A ((compTurn (.ListComp elt [⟨target,iter,ifs,0⟩] scope pos) 0 it acc env).onRaise (λx=>do noteFrame x env;theTreesLotGoes x)) _ _ s;refine wpAny_noted ?_;rw[compTurn_list];refine wab (wpAny_standAt (wab (wpAny_mono (turn n s hI) (λr s₁ h₁=>?_) λ_ _ h'=>h'.elim)));cases r with
 |none=>exact wad h₁
 |some v =>
  refine wab (wpAny_mono h₁ (λ_ s₁' h₁'=>?_) λ_ _ h'=>h'.elim);refine wab (wpAny_mono h₁' (λ_ s₂ h₂=>wab (wpAny_mono h₂ (λok s₃ h₃=>?_) λ_ _ h'=>h'.elim)) λ_ _ h'=>h'.elim);cases ok with
  |false=>exact wad ⟨rfl,h₃⟩
  |true =>
   exact wab (wab (wpAny_mono h₃ (λx s₄ h₄=>wab (wpAny_mono h₄ (λ_ s₅ h₅=>wad (wad ⟨rfl,h₅⟩)) λ_ _ h'=>h'.elim)) λ_ _ h'=>h'.elim))
end
def zf7(X:Cx)(N':List Str)(scope:Scope)(cl:List (Str×Addr))(L:Addr)(s:Shared)(H:Hp)(fp:List Addr):Cx where
 prog:=X.prog
 w:=X.w
 K:=X.K
 mg:=X.mg
 base:=X.base
 A:=X.A
 N:=N'
 s₀:=s
 H₀:=H
 env:=compEnvC scope cl L X.env
 outer:=X.stack
 stack:=X.stack
 ex:=fp
 fn:=λx=>scope.names.lookup x == some .cell
 calm:=X.calm
 pn:=[]
 xe:=λ_ _=>False
def zhf(C:Cn)(n:Nat)(G H:Hp)(w:Wn)(Y:L2.St):Cn:=⟨G,H,w,List.range n,Y,λ_=>False,C.xv,false⟩
def zhn(N N':List Str)(names:List (Str×NameKind))(m:Nat):Bool:=decide (N'.length=N.length+m) && (List.range N.length).all λi=>match N'[i]? with
 |some x=>match names.lookup x with
  |some .free=>N[i]? == some x
  |some .local=>false
  |some .cell=>false
  |_=>true
 |none=>false
theorem zc7{env:Env}{x:Str}:∀{names:List (Str×NameKind)},(names.map λ(n,k)=>if (k == NameKind.free && env.scope.kind == .function && env.kindOf n == some .cell) then (n,NameKind.cell) else (n,k)).lookup x=(names.lookup x).map λk=>if (k == NameKind.free && env.scope.kind == .function && env.kindOf x == some .cell)=true then .cell else k
 |[]=>rfl
 | (n,k)::r=>by
  have ih:=zc7 (env:=env) (x:=x) (names:=r);show List.lookup x ((if (k == NameKind.free && env.scope.kind == .function && env.kindOf n == some .cell)=true then (n,NameKind.cell) else (n,k))::_)=_;cases hx:x == n with
  |true =>
   have e:=beq_iff_eq.mp hx;subst e;simp only[List.lookup_cons,beq_self_eq_true,Option.map_some];split <;> simp[List.lookup_cons]
  |false =>
   simp only[List.lookup_cons,hx];split
   ·simp only[List.lookup_cons,hx];exact ih
   ·simp only[List.lookup_cons,hx];exact ih
theorem zcG{α β:Type} [BEq α] [LawfulBEq α] {x:α} {b:β}:∀{l:List (α×β)},l.lookup x=some b->(x,b)∈l
 |[],h=>by simp at h
 | (n,k)::r,h=>by
  rw[List.lookup_cons] at h;cases hx:x == n with
  |true=>rw[hx] at h;simp at h;subst h;rw[beq_iff_eq.mp hx];exact wau
  |false=>rw[hx] at h;exact wah _ (zcG h)
theorem zid{scope:Scope}{env:Env}{x:Str}(h:Vis (relabel scope env) x):scope.names.lookup x=some .local\/scope.names.lookup x=some .cell\/scope.names.lookup x=some .free:=by
 have e:(relabel scope env).names.lookup x=_:=zc7 (env:=env) (x:=x) (names:=scope.names);unfold Vis at h;rw[e] at h;cases q:scope.names.lookup x with
 |none=>rw[q] at h;simp at h
 |some k =>
  rw[q] at h;cases k <;> simp_all
abbrev Hcu(scope:Scope):Prop:=∀ y∈scope.names,y.2=.cell->scope.names.lookup y.1=some .cell
theorem zkc{x:Str}{c:Addr}:∀(names:List (Str×NameKind))(n:Nat)(acc:List (Str×Addr)),(cellsFrom n names acc).lookup x=some c->(acc.lookup x=some c/\(x,NameKind.cell)∉names)\/((x,NameKind.cell)∈names/\n<=c)
 |[],n,acc,h=>.inl ⟨h,xws⟩
 | (y,k)::r,n,acc,h=>by
  unfold cellsFrom at h;by_cases hk:(k == NameKind.cell)=true
  ·rw[if_pos hk] at h;have hk':=eq_of_beq hk;subst hk';rcases zkc r (n+1) _ h with ⟨h1,h2⟩|⟨h1,h2⟩
   ·rw[List.lookup_cons] at h1;by_cases hx:(x == y)=true
    ·rw[hx] at h1;cases h1;rw[beq_iff_eq.mp hx];exact .inr ⟨wau,wal _⟩
    ·simp only[hx] at h1;refine .inl ⟨h1,λz=>?_⟩;rcases wap.mp z with z|z
     ·cases z;exact hx xws
     ·exact h2 z
   ·exact .inr ⟨wah _ h1,xwo⟩
  ·rw[if_neg hk] at h;rcases zkc r n _ h with ⟨h1,h2⟩|⟨h1,h2⟩
   ·refine .inl ⟨h1,λz=>?_⟩;rcases wap.mp z with z|z
    ·cases z;exact hk xws
    ·exact h2 z
   ·exact .inr ⟨wah _ h1,h2⟩
theorem zr9{x:Str}:∀(names:List (Str×NameKind))(n:Nat)(acc:List (Str×Addr)),(x,NameKind.cell)∉names->(cellsFrom n names acc).lookup x=acc.lookup x
 |[],n,acc,_=>rfl
 | (y,k)::r,n,acc,h=>by
  unfold cellsFrom;have hr:(x,NameKind.cell)∉r:=λz=>h (wah _ z);by_cases hk:(k == NameKind.cell)=true
  ·rw[if_pos hk,zr9 r _ _ hr,List.lookup_cons];have hk':=eq_of_beq hk;subst hk';have:(x == y)=false:=by
    cases hx:x == y with
    |false=>rfl
    |true=>rw[beq_iff_eq.mp hx] at h;exact absurd wau h
   rw[this]
  ·rw[if_neg hk];exact zr9 r _ _ hr
theorem zp8:∀(names:List (Str×NameKind))(n:Nat)(acc:List (Str×Addr)),(∀ x c,acc.lookup x=some c->c<n)->(∀ x y c,acc.lookup x=some c->acc.lookup y=some c->x=y)->∀ x y c,(cellsFrom n names acc).lookup x=some c->(cellsFrom n names acc).lookup y=some c->x=y
 |[],n,acc,_,h=>h
 | (z,k)::r,n,acc,hl,hi=>by
  unfold cellsFrom;by_cases hk:(k == NameKind.cell)=true
  ·rw[if_pos hk];have one:∀ x c,((z,n)::acc).lookup x=some c->(x=z/\c=n)\/(acc.lookup x=some c/\c<n):=λx c e=>by
    rw[List.lookup_cons] at e;by_cases hx:(x == z)=true
    ·rw[hx] at e;cases e;exact .inl ⟨beq_iff_eq.mp hx,rfl⟩
    ·simp only[hx] at e;exact .inr ⟨e,hl x c e⟩
   refine zp8 r (n+1) _ (λx c e=>?_) λx y c e1 e2=>?_
   ·rcases one x c e with ⟨_,h⟩|⟨_,h⟩
    ·rw[h];exact Nat.lt_succ_self _
    ·exact Nat.lt_succ_of_lt h
   ·rcases one x c e1 with ⟨rfl,h1⟩|⟨h1,h1'⟩ <;> rcases one y c e2 with ⟨rfl,h2⟩|⟨h2,h2'⟩
    ·rfl
    ·exact absurd h2' (by rw[h1];exact waL _)
    ·exact absurd h1' (by rw[h2];exact waL _)
    ·exact hi x y c h1 h2
  ·rw[if_neg hk];exact zp8 r n acc hl hi
theorem zmF{x:Str}{c:Addr}:∀(names:List (Str×NameKind))(h:Heap)(acc:List (Str×Addr)),(cellsFrom h.objs.size names acc).lookup x=some c->acc.lookup x=some c\/(pushCells h names).IsCell c none
 |[],h,acc,e=>.inl e
 | (y,k)::r,h,acc,e=>by
  unfold cellsFrom at e;unfold pushCells;by_cases hk:(k == NameKind.cell)=true
  ·rw[if_pos hk] at e ⊢;have ez:h.objs.size+1=(h.push { cls:=.type "cell",data:=.cell none }).objs.size:=(Heap.size_push ..).symm;rw[ez] at e;rcases zmF r _ _ e with z|z
   ·rw[List.lookup_cons] at z;by_cases hx:(x == y)=true
    ·rw[hx] at z;cases z;exact .inr ⟨_,pushCells_keeps _ _ _ _ (waj _ rfl),rfl⟩
    ·simp only[hx] at z;exact .inl z
   ·exact .inr z
  ·rw[if_neg hk] at e ⊢;exact zmF r h acc e
section
variable{X:Cx}{C:Cn}
theorem zpQ{pS:List (Addr×Obj)}{Y:L2.St}{H:Hp}{s:Shared}{N':List Str}{scope:Scope}{cl:List (Str×Addr)}{m:Nat}{fp:List Addr}{h₁:Heap}{tk:Nat}{mm:Str->Option Value}(I:L2.Inv X pS Y H s)(hf:∀ b∈fp,zfA X pS H b)(ho:∀ b∈fp,∃ o,s.heap.get? b=some o)
  (hb:zhn X.N N' scope.names m=true) (hkind:scope.kind=.function) (hcell:Hcu scope) (hfr:∀ y∈scope.names,y.2=.free->X.env.kindOf y.1=some .cell\/X.env.kindOf y.1=some .free)
  (hcl:∀ x c,cl.lookup x=some c->X.env.cells.lookup x=some c) (hcf:∀ y∈scope.names,y.2=.free->∃ c,cl.lookup y.1=some c)
  (hce:∀ x c,(cellsFrom (s.heap.objs.size+1) scope.names cl).lookup x=some c->cl.lookup x=some c\/h₁.IsCell c none) (hns:h₁.Ns s.heap.objs.size mm) (hk:∀ b o,s.heap.get? b=some o->h₁.get? b=some o) :
  L2.Inv (zf7 X N' scope (cellsFrom (s.heap.objs.size+1) scope.names cl) s.heap.objs.size s H fp) [] (Y++List.replicate m none) H { s with heap:=h₁,toks:=tk }:=by
 have hb1:N'.length=X.N.length+m:=by unfold zhn at hb;rw[Bool.and_eq_true] at hb;exact of_decide_eq_true hb.1
 have hb2:∀ i x,i<X.N.length->N'[i]? = some x->Vis (relabel scope X.env) x->X.N[i]? = some x/\scope.names.lookup x=some .free:=λi x hi e v=>by
  unfold zhn at hb;rw[Bool.and_eq_true,List.all_eq_true] at hb;have q:=hb.2 i (List.mem_range.mpr hi);simp only[e] at q;rcases zid v with z|z|z
  ·simp[z] at q
  ·simp[z] at q
  ·simp[z] at q;exact ⟨q,z⟩
 have cellK:∀ c v,s.heap.IsCell c v->h₁.IsCell c v:=λc v ⟨o,e1,e2⟩=>⟨o,hk c o e1,e2⟩
 have lt:∀ x c,cl.lookup x=some c->c<s.heap.objs.size:=λx c e=>by obtain ⟨v,ic⟩:=I.cell x c (hcl x c e);exact ic.lt
 have inj:=zp8 scope.names (s.heap.objs.size+1) cl (λx c e=>Nat.lt_succ_of_lt (lt x c e)) λx y c h1 h2=>I.ok.inj x y c (hcl x c h1) (hcl y c h2);have look:∀ x c,(cellsFrom (s.heap.objs.size+1) scope.names cl).lookup x=some c->cl.lookup x=some c\/s.heap.objs.size+1<=c:=λx c e=>(zkc _ _ _ e).imp (λz=>z.1) λz=>z.2;refine ⟨⟨I.ok.mod,hkind,I.ok.glob,I.ok.blt,wal _,inj,λx hx=>?_,λx c h e=>?_,I.ok.hd,I.ok.frames,.inl rfl,λb hb=>⟨?_,λx c e=>?_⟩,I.bs,waN I.ok.bsz I.sz,λb o e hb=>?_,λb hb z=>?_,I.stack,I.stkFree⟩,
  rfl,I.bare,Un.kept hk,⟨mm,hns,λi x v e1 e2 e3=>?_⟩,λx c e=>?_,I.hok.fresh (wal _),λx c e=>?_,λp hp=>absurd hp (by simp[zf7]),I.hok.kept hk,?_⟩
 ·
  have e:(relabel scope X.env).names.lookup x=_:=zc7 (env:=X.env) (x:=x) (names:=scope.names);have hx':Vis (relabel scope X.env) x:=hx.elim (λz=>.inr (.inl z)) λz=>.inr (.inr z);rcases zid hx' with z|z|z
  ·rw[z] at e;have hx2:(relabel scope X.env).names.lookup x=some .cell\/(relabel scope X.env).names.lookup x=some .free:=hx;rw[e] at hx2;simp at hx2
  ·exact Option.isSome_iff_exists.mp (W.cellsFrom_some _ _ _ (.inl z))
  ·exact Option.isSome_iff_exists.mp (W.cellsFrom_some _ _ _ (.inr (Option.isSome_iff_exists.mpr (hcf _ (zcG z) rfl))))
 ·have h':scope.names.lookup x=some .cell:=eq_of_beq h;rcases zkc _ _ _ e with z|z
  ·exact absurd (zcG h') z.2
  ·exact Nat.le_of_succ_le z.2
 ·intro z;obtain ⟨o,e⟩:=ho b hb;exact absurd (wai e) (by rw[z];exact waL _)
 ·rcases look x c e with z|z
  ·exact (hf b hb).2.2.2.2.1 x c (hcl x c z)
  ·intro q;obtain ⟨o,e'⟩:=ho b hb;have:=wai e';rw[<- q] at this;exact absurd this (Nat.not_lt.mpr (Nat.le_of_succ_le z))
 ·rcases (hf b hb).2.2.2.1 with z|z
  ·exact I.ok.noex b o e z
  ·exact absurd (was (wai e) (waN I.ok.bsz z)) (waL _)
 ·rcases wap.mp (I.stkSub b z) with z|z
  ·exact (hf b hb).2.1 z
  ·exact (hf b hb).2.2.1 z
 ·have hi:i<X.N.length:=by
   by_cases hi:i<X.N.length
   ·exact hi
   ·rw[List.getElem?_append_right (by rw[I.len];lia),List.getElem?_replicate] at e2;split at e2 <;> cases e2
  rw[List.getElem?_append_left (by rw[I.len];exact hi)] at e2;obtain ⟨q1,q2⟩:=hb2 i x hi e1 e3;have hm:=zcG q2;obtain ⟨m0,hn0,hl0⟩:=I.loc;have kc:=hfr _ hm rfl;obtain ⟨u,ru,lk⟩:=hl0 i x v q1 e2 (kc.elim (λz=>.inr (.inl z)) λz=>.inr (.inr z));refine ⟨u,ru,.inr ⟨?_,?_⟩⟩
  ·have e:(relabel scope X.env).names.lookup x=_:=zc7 (env:=X.env) (x:=x) (names:=scope.names);show (relabel scope X.env).names.lookup x=some .cell\/(relabel scope X.env).names.lookup x=some .free;rw[e,q2];simp only[Option.map_some];split
   ·exact .inl rfl
   ·exact .inr rfl
  ·obtain ⟨c,hc⟩:=hcf _ hm rfl;have hno:(x,NameKind.cell)∉scope.names:=λz=>by have:=hcell _ z rfl;rw[q2] at this;cases this
   refine ⟨c,(zr9 _ _ _ hno).trans hc,?_⟩;rcases lk with ⟨z,_⟩|⟨_,c',e',ic⟩
   ·rcases kc with y|y <;> (rw[y] at z;cases z)
   ·rw[hcl _ _ hc] at e';cases e';exact cellK _ _ ic
 ·rcases hce x c e with z|z
  ·obtain ⟨v,ic⟩:=I.cell x c (hcl x c z);exact ⟨v,cellK _ _ ic⟩
  ·exact ⟨none,z⟩
 ·rcases look x c e with z|z
  ·exact I.freeC x c (hcl x c z)
  ·exact I.hok.fresh xwo
 ·show _=N'.length;rw[List.length_append,List.length_replicate,I.len,hb1]
theorem zum{pS:List (Addr×Obj)}{Y Y':L2.St}{H H':Hp}{s s':Shared}{N':List Str}{scope:Scope}{cl:List (Str×Addr)}{fp:List Addr}{L:Addr}{h':Heap}{ps:List (Addr×Obj)}(I:L2.Inv X pS Y H s)(hf:∀ b∈fp,zfA X pS H b)(hL:s.heap.objs.size<=L)
  (J:L2.Inv (zf7 X N' scope cl L s H fp) ps Y' H' s') (hs:Heap.SameBut L s'.heap h'):L2.Inv X pS Y H' { s' with heap:=h' }:=by
 have hne:∀ b o,s.heap.get? b=some o->b≠L:=λb o e z=>by subst z;exact absurd (was (wai e) hL) (waL _)
 have hfree:H' L=none:=J.free;have un:Un (frs X.stack) fp H H' s.heap s'.heap:=J.base;refine I.call' (s':={ s' with heap:=h' }) (ch:=fp) J.os ⟨λb o e n h1 h2=>?_,λb o e n h1 h2=>?_,un.free,λb o e h2=>?_,un.tups,un.frzs,un.tbls⟩ (λb o e=>?_) J.bare λb hb=>⟨(hf b hb).2.2.2.1,(hf b hb).2.1,(hf b hb).2.2.2.2.1,(hf b hb).2.2.2.2.2⟩
 ·exact (hs.2 b (hne b o e)).trans (un.keep b o e n h1 h2)
 ·obtain ⟨sl,q⟩:=un.slot b o e n h1 h2;exact ⟨sl,(hs.2 b (hne b o e)).trans q⟩
 ·obtain ⟨o',q⟩:=un.there b o e h2;exact ⟨o',(hs.2 b (hne b o e)).trans q⟩
 ·refine (J.hok b o e).stay (λc v hc q=>(hs.2 c ?_).trans q) (λ_ q=>q) λ_ _ q=>q;intro z;subst z;rcases hc with z|z
  ·subst z;rw[hfree] at e;cases e
  ·rw[hfree] at z;cases z
end
def zbS(g:DG)(ft:DT)(fe:De):List Dt->Ev->R (List Dt×Ev)
 |[],Z=>.ok ([],Z)
 |d::r,Z=>(g d Z).bind λZ1=>(ft Z1).bind λt=>if t.1=true then (fe t.2).bind λy=>(zbS g ft fe r y.2).bind λz=>.ok (y.1::z.1,z.2) else zbS g ft fe r t.2
def zbl(fi:DA)(g:DG)(ft:DT)(fe:De)(m:Nat):DN:=λZ=>(fi Z).bind λa=>if zhg a.1=true then match zbS g ft fe a.1 (a.2++List.replicate m none) with
  |.ok z=>.ok (z.1,z.2.take a.2.length)
  |_=>.no
 else .no
theorem zd7{α β:Type}{r:R α}{f:α->R β}{b:β}(h:r.bind f=.ok b):∃ a,r=.ok a/\f a=.ok b:=by
 cases r with
 |ok a=>exact ⟨a,rfl,h⟩
 |er n=>cases h
 |no=>cases h
def JTs(X:Cx)(C:Cn)(ifs:List Expr)(ft:DT):Prop :=
 ∀(pS:List (Addr×Obj))(s:Shared)(Y:L2.St)(H:Hp)(Q:Bool->Hp->Prop),L2.Inv X pS Y H s->tT X.K C ft Y H Q ->
  wpAny (model X.prog X.w) X.A (forIn ifs true λc r=>if r=true then do let ok <- isTrue c X.env (eval c X.env);pure (ForInStep.yield ok) else pure (ForInStep.yield r)) (TP X pS Y Q) X.xe s
def dTT:DT:=λZ=>.ok (true,Z)
abbrev Hce(scope:Scope):Prop:=Hcu scope
abbrev Hfr(X:Cx)(scope:Scope):Prop:=∀ y∈scope.names,y.2=.free->X.env.kindOf y.1=some .cell\/X.env.kindOf y.1=some .free
abbrev Hnm(scope:Scope):Prop:=∀ y∈scope.names,y.2=.local->scope.names.lookup y.1=some .local
abbrev Hbk(X:Cx)(C:Cn)(N':List Str)(scope:Scope)(tg:Expr)(ifs:List Expr)(elt:Expr)(g:DG)(ft:DT)(fe:De):Prop:=∀ cl L s H fp G H' w Y,JG (zf7 X N' scope cl L s H fp) (zhf C X.N.length G H' w Y) tg g/\JTs (zf7 X N' scope cl L s H fp) (zhf C X.N.length G H' w Y) ifs ft/\JE (zf7 X N' scope cl L s H fp) (zhf C X.N.length G H' w Y) elt fe
abbrev nL(s2:Shared):Heap:=s2.heap.push { cls:=.type "list",dict:=none,data:=.seq ([]:List Value).toArray }
def PTs(X:Cx)(ifs:List Expr)(t:TT):Prop :=
 ∀(pS:List (Addr×Obj))(s:Shared)(Y:L2.St)(H:Hp)(Q:Bool->Hp->Prop),L2.Inv X pS Y H s->t Y H Q ->
  wpAny (model X.prog X.w) X.A (forIn ifs true λc r=>if r=true then do let ok <- isTrue c X.env (eval c X.env);pure (ForInStep.yield ok) else pure (ForInStep.yield r)) (TP X pS Y Q) X.xe s
section
variable{X:Cx}{C:Cn}
theorem zff:JTs X C [] dTT:=λpS s Y H Q I ⟨G,w,Z,r,p⟩=>wpAny_tests_nil ⟨H,I,p G H w (.refl _ _ _) r⟩
theorem zdI{c:Expr}{ft:DT}(h:JT X C c ft):JTs X C [c] ft:=λpS s Y H Q I t=>wpAny_tests_one (h pS s Y H Q I t)
theorem Rel.upd_new{K:W.Frag}{Y:L2.St}{G H:Hp}{w:Wn}{Z:Ev}{p:Addr}{o:HO}(r:Rel K C G w Z Y H)(hg:G p=none)(hw:w p=none)(h0:C.H₀ p=none):Rel K C G w Z Y (upd H p o):=by
 refine ⟨λb u e=>?_,r.wg,λb e=>?_,r.len,λi b e=>?_,⟨r.en.g,r.en.fr,λb u e z=>?_,r.en.w,λb e=>?_⟩,r.pin⟩
 ·rw[zau (zav e hg)];exact r.gh b u e
 ·by_cases hb:b=p
  ·subst hb;rw[zat];simp
  ·rw[zau hb];exact r.wh b e
 ·obtain ⟨v,h1,h2⟩:=r.sl i b e;refine ⟨v,h1,h2.grow (.refl _) λa u e1 e2=>⟨?_,e1⟩⟩;have:a≠p:=λz=>by subst z;rw[hw] at e1;cases e1
  rw[zau this];exact e2
 ·rw[zau (zav e h0)];exact r.en.h b u e z
 ·by_cases hb:b=p
  ·subst hb;exact h0
  ·rw[zau hb] at e;exact r.en.k b e
theorem zbP.keep{G H G' H':Hp}{w w':Wn}{p:Addr}{o:HO}(s:zbP G H w G' H' w')(hg:G p=none)(hw:w p=none)(hp:H p=some o):G' p=none/\w' p=none/\H' p=some o:=by
 refine ⟨?_,?_,s.h p o hp hw⟩
 ·cases q:G' p with
  |none=>rfl
  |some u =>
   rcases s.fr p u q with z|z|z
   ·exact absurd hg z
   ·rw[hp] at z;cases z
   ·exact absurd hw z
 ·cases q:w' p with
  |none=>rfl
  |some k =>
   rcases s.w p (by rw[q];simp) with z|z
   ·exact absurd hw z
   ·rw[hp] at z;cases z
structure zp2(X:Cx)(pS:List (Addr×Obj))(H:Hp)(L:Addr)(s:Shared):Prop where
 fr:H L=none
 nl:L≠X.env.locals
 nw:L∈X.ex\/X.s₀.heap.objs.size<=L
 nc:∀ x c,X.env.cells.lookup x=some c->c≠L
 np:∀ p∈X.pn++pS,p.1≠L
 ns:∃ m,s.heap.Ns L m
theorem zl7{M:Model}{A:Around}{E:Value->Shared->Prop}{s:Shared}{scope:Scope}{globals b:Addr}{cl:List (Str×Addr)}{qual:Str}{env:Env}{Q:Env->Shared->Prop}
  (h:Q (newEnv scope s.heap.objs.size globals (cellsFrom (s.heap.objs.size+1) scope.names cl) qual none .none (some env) b) { s with heap:=pushCells (s.heap.push { cls:=.type "dict",data:=.dict #[] }) scope.names }) :
  wpAny M A (newFunctionEnv scope globals cl [] qual none .none (some env) b) Q E s:=by
 simp only[newFunctionEnv,Option.isSome_some,if_true];refine wab (wpAny_alloc ?_);refine wab (wpAny_layCells _ (λname kind cells=>by cases hkc:kind == NameKind.cell <;> simp[hkc]) _ _ _ _ ?_);rw[show ({ s with heap:=s.heap.push { cls:=.type "dict",data:=.dict #[] } }:Shared).heap.objs.size=s.heap.objs.size+1 from Heap.size_push ..];refine wab ?_;rw[List.forIn_nil];exact wad (wad h)
theorem zn0{tg iter elt:Expr}{ifs:List Expr}{scope:Scope}{pos:Pos}{N':List Str}{m n:Nat}{tgt:TG}{tts:TT}{te:TE}(hc:X.calm=true)(hb:zhn X.N N' scope.names m=true)
  (hkind:scope.kind=.function) (hcell:Hce scope) (hfr:Hfr X scope)
  {pS:List (Addr×Obj)} {Y:L2.St} {s2:Shared} {cl:List (Str×Addr)} {RR:Value->Addr->Result->Shared->Prop} {E:Value->Shared->Prop}
  (hblk:∀ L s H fp,L2.Inv X pS Y H s->(∀ b∈fp,zfA X pS H b)->s.heap.objs.size<=L->PG (zf7 X N' scope (cellsFrom (L+1) scope.names cl) L s H fp) tg tgt/\PTs (zf7 X N' scope (cellsFrom (L+1) scope.names cl) L s H fp) ifs tts/\PE (zf7 X N' scope (cellsFrom (L+1) scope.names cl) L s H fp) elt te)
  (hcl:∀ x c,cl.lookup x=some c->X.env.cells.lookup x=some c) (hcf:∀ y∈scope.names,y.2=.free->∃ c,cl.lookup y.1=some c)
  {it:Addr} {fp:List Addr} {tn:Nat->Heap->Prop} {J:It} {H2:Hp} (I2:L2.Inv X pS Y H2 s2) (T:zqo X.prog X.w X.K tg J fp it tn) (st2:tn 0 s2.heap) (f2:∀ b∈fp,zfA X pS H2 b)
  (W:Addr->Nat->L2.St->Hp->List V->Prop) (w0:∀ D,H2 D=none->W D 0 (Y++List.replicate m none) (upd H2 D (.lst [])) [])
  (hstep:∀ D i Y' H' vs,H2 D=none->W D i Y' H' vs->H' D=some (.lst vs)->i<n->J.go i H'/\∀ x H7,J.yld i H' x H7->tgt x Y' H7 λY8 H8=>tts Y8 H8 λb H9=>if b=true then te Y8 H9 λv H10=>H10 D=some (.lst vs)/\vs.length<sizeLine/\W D (i+1) Y8 (upd H10 D (.lst (vs++[v]))) (vs++[v]) else H9 D=some (.lst vs)/\W D (i+1) Y8 H9 vs)
  (hstop:∀ D Y' H' vs,W D n Y' H' vs->J.stop n H')
  (fin:∀(D L:Addr)(s':Shared)(vs:List V)(Y':L2.St)(H':Hp),L2.Inv X pS Y H' s'->zp2 X pS H' L s'->H2 D=none->H' D=some (.lst vs)->Y'.length=X.N.length+m->W D n Y' H' vs->RR (.ref D) L (.ok .next) s') :
  wpAny (model X.prog X.w) X.A (newList []) (λacc s₃=>wpAny (model X.prog X.w) X.A (newFunctionEnv scope X.env.globals cl [] X.env.qual none .none (some X.env)) (λcenv s₄ =>
   codeAny (model X.prog X.w) X.A (.compStart (.ListComp elt [⟨tg,iter,ifs,0⟩] scope pos) 0 (.ref it) acc { cenv with scope:=relabel scope X.env }) (RR acc cenv.locals) s₄) E s₃) E s2:=by
 have hD:H2 s2.heap.objs.size=none:=I2.hok.fresh (wal _);refine wpAny_newObj_type (zl7 ?_);generalize hh₁:pushCells ((nL s2).push { cls:=.type "dict",data:=.dict #[] }) scope.names=h₁;have hns₁:h₁.Ns (nL s2).objs.size λ_=>none:=by rw[<- hh₁];exact (Heap.Ns.new (nL s2) (.type "dict")).keeps (pushCells_keeps _ _)
 have I3:L2.Inv X pS Y (upd H2 s2.heap.objs.size (.lst [])) { s2 with heap:=nL s2 } :=
  I2.laid (t':=s2.toks) (λb u e=>waa _ e) (wal _) ⟨Nat.zero_le _,[],0,.nil,waj _ rfl⟩
 have hob:∀ b∈fp,∃ o,s2.heap.get? b=some o:=λb hb=>let ⟨o,e,_⟩:=T.obj 0 _ st2 b hb;⟨o,e⟩;have hbD:∀ b∈fp,b≠s2.heap.objs.size:=λb hb z=>by obtain ⟨o,e⟩:=hob b hb;exact absurd (wai e) (by rw[z];exact waL _)
 have f3:∀ b∈fp,zfA X pS (upd H2 s2.heap.objs.size (.lst [])) b:=λb hb=>⟨by rw[zau (hbD b hb)];exact (f2 b hb).1,(f2 b hb).2⟩
 have hk3:∀ b o,(nL s2).get? b=some o->h₁.get? b=some o:=λb o e=>by rw[<- hh₁];exact pushCells_keeps _ _ b o (waa _ e)
 have hce:∀ x c,(cellsFrom ((nL s2).objs.size+1) scope.names cl).lookup x=some c->cl.lookup x=some c\/h₁.IsCell c none:=λx c e=>by have ez:(nL s2).objs.size+1=((nL s2).push { cls:=.type "dict",data:=.dict #[] }).objs.size:=(Heap.size_push ..).symm;rw[ez] at e;rw[<- hh₁];exact zmF _ _ _ e
 have J4:=zpQ (N':=N') (scope:=scope) (cl:=cl) (m:=m) (fp:=fp) (tk:=s2.toks) I3 f3 (λb hb=>by obtain ⟨o,e⟩:=hob b hb;exact ⟨o,waa _ e⟩) hb hkind hcell hfr hcl hcf hce hns₁ hk3;have st4:tn 0 h₁:=T.keep _ _ _ st2 λb hb o e=>hk3 b o (waa _ e);generalize hX':zf7 X N' scope (cellsFrom ((nL s2).objs.size+1) scope.names cl) (nL s2).objs.size { s2 with heap:=nL s2 } (upd H2 s2.heap.objs.size (.lst [])) fp=X' at J4;have eP:X'.prog=X.prog:=by rw[<- hX'];rfl
 have eW:X'.w=X.w:=by rw[<- hX'];rfl
 have eK:X'.K=X.K:=by rw[<- hX'];rfl
 have eA:X'.A=X.A:=by rw[<- hX'];rfl
 have eC:X'.calm=true:=by rw[<- hX'];exact hc
 have eE:X'.xe=λ_ _=>False:=by rw[<- hX'];rfl
 have ePn:X'.pn=[]:=by rw[<- hX'];rfl
 have eN:X'.N.length=X.N.length+m:=by rw[<- hX'];show N'.length=_;unfold zhn at hb;rw[Bool.and_eq_true] at hb;exact of_decide_eq_true hb.1
 have eEx:X'.ex=fp:=by rw[<- hX'];rfl
 have hlenσ:Y.length=X.N.length:=I2.len;obtain ⟨hg,hts,he⟩:=hblk (nL s2).objs.size { s2 with heap:=nL s2 } (upd H2 s2.heap.objs.size (.lst [])) fp I3 f3 (wal _);rw[hX'] at hg hts he;have stat:∀{H':Hp},(∀ b∈fp,H' b=none)->∀ b∈fp,zfA X' [] H' b:=λhn b hb=>by have q:=J4.ok.exf b (by rw[eEx];exact hb);exact ⟨hn b hb,q.1,J4.ok.exfs b (by rw[eEx];exact hb),.inl (by rw[eEx];exact hb),q.2,λp hp=>by rw[ePn] at hp;simp at hp⟩
 have loop:∀ s₃:Shared,s₃={ s2 with heap:=h₁ } ->
   codeAny (model X.prog X.w) X.A (.compLoop (.ListComp elt [⟨tg,iter,ifs,0⟩] scope pos) 0 (.ref it) (.ref s2.heap.objs.size) X'.env) (RR (.ref s2.heap.objs.size) (nL s2).objs.size) s₃:=by
  rintro s₃ rfl;refine zlT (λk s'=>∃ i Y' H' vs,L2.Inv X' [] Y' H' s'/\tn i s'.heap/\(∀ b∈fp,H' b=none)/\k=n-i/\i<=n/\H' s2.heap.objs.size=some (.lst vs)/\W s2.heap.objs.size i Y' H' vs) ?_ n
   ⟨0,Y++List.replicate m none,_,[],J4,st4,λb hb=>(f3 b hb).1,xws,Nat.zero_le _,zat,w0 _ hD⟩
  rintro k s' ⟨i,Y',H',vs,J5,st5,fr5,rfl,hil,hd5,q5⟩;by_cases hlt:i<n
  ·obtain ⟨go,yl⟩:=hstep _ i Y' H' vs hD q5 hd5 hlt;have hIt:=T.item X' eP eW eK eC i [] s' Y' H' (λ_ _=>False) J5 (stat fr5) st5 go;rw[eA] at hIt;refine thn hIt λrr s6 ⟨u,hr,h6⟩=>?_;subst hr;refine thn h6 λ_ s7 ⟨x,H7,J7,rx7,y7,st7,fr7⟩=>?_;have q7:=yl x H7 y7;have J7':=J7.pinned (stat fr7) (T.obj _ _ st7);have hG:=hg ([]++zgi fp s7.heap) s7 Y' H7 x u _ J7' rx7 q7;rw[eP,eW,eA,eE] at hG;refine thn hG λ_ s8 ⟨Y8,H8,J8,q8⟩=>?_;have hT:=hts ([]++zgi fp s7.heap) s8 Y8 H8 _ J8 q8;rw[eP,eW,eA,eE] at hT;refine thn hT λok s9 ⟨H9,J9,q9⟩=>?_;have after:∀{σa:L2.St}{Ha:Hp}{sa:Shared},L2.Inv X' ([]++zgi fp s7.heap) σa Ha sa->tn (i+1) sa.heap/\∀ b∈fp,Ha b=none:=λ{σa Ha sa} Ja =>
    ⟨T.keep _ _ _ st7 λb hb o e=>(Ja.pin (b,o) (waz _ (waz _ (zfu hb e)))).1,λb hb=>by obtain ⟨o,e,_⟩:=T.obj _ _ st7 b hb;exact (Ja.pin (b,o) (waz _ (waz _ (zfu hb e)))).2.1⟩
   cases ok with
   |false =>
    rw[if_neg Bool.false_ne_true];rw[if_neg Bool.false_ne_true] at q9;obtain ⟨k1,k2⟩:=after J9;exact ⟨n-(i+1),xwl,i+1,Y8,H9,vs,J9.unpinned,k1,k2,rfl,hlt,q9.1,q9.2⟩
   |true =>
    rw[if_pos rfl];rw[if_pos rfl] at q9;have hEl:=he ([]++zgi fp s7.heap) s9 Y8 H9 _ J9 q9;rw[eP,eW,eA,eE] at hEl;refine thn hEl λxv s10 ⟨vy,H10,J10,ry,q10⟩=>?_;have hAp:=zh9 (X:=X') ([]++zgi fp s7.heap) s10 Y8 H10 (.ref s2.heap.objs.size) [vy] (.ref s2.heap.objs.size) [xv] (λv H11=>H11=upd H10 s2.heap.objs.size (.lst (vs++[vy]))) J10 rfl (.cons ry .nil)
     ⟨s2.heap.objs.size,vs,vy,rfl,rfl,q10.1,q10.2.1,rfl⟩
    rw[eP,eW,eA,eE] at hAp;refine thn hAp λ_ s11 ⟨v11,H11,J11,_,e11⟩=>?_;subst e11;obtain ⟨k1,k2⟩:=after J11;exact ⟨n-(i+1),xwl,i+1,Y8,_,vs++[vy],J11.unpinned,k1,k2,rfl,hlt,zat,q10.2.2⟩
  ·have e:i=n:=by lia
   subst e;have hDn:=T.done X' eP eW eK eC i [] s' Y' H' (λ_ _=>False) J5 (stat fr5) st5 (hstop _ _ _ _ q5);rw[eA] at hDn;refine thn hDn λrr s6 ⟨hr,J6⟩=>?_;subst hr;have hl6:Y'.length=X.N.length+m:=by rw[J6.len,eN]
   obtain ⟨m6,hn6,_⟩:=id J6.loc;have eL:X'.env.locals=(nL s2).objs.size:=by rw[<- hX'];rfl
   rw[eL] at hn6;have frL:H' (nL s2).objs.size=none:=by rw[<- eL];exact J6.free
   rw[<- hX'] at J6;have IX:L2.Inv X pS Y H' s6:=zum (h':=s6.heap) I3 f3 (wal _) J6 ⟨rfl,λ_ _=>rfl⟩;have hLs:∀ b o,(nL s2).get? b=some o->(nL s2).objs.size≠b:=λb o e z=>absurd (wai e) (by rw[z];exact waL _);have lo:zp2 X pS H' (nL s2).objs.size s6:=by
    refine ⟨frL,λz=>?_,.inr I3.sz,λx c e z=>?_,λp hp z=>?_,m6,hn6⟩
    ·exact absurd I3.lt (by rw[<- z];exact waL _)
    ·obtain ⟨v,q⟩:=I3.cell x c e;exact absurd q.lt (by rw[z];exact waL _)
    ·exact hLs p.1 p.2 (I3.pin p hp).1 z.symm
   exact fin _ _ s6 vs Y' H' IX lo hD hd5 hl6 q5
 have envEq:X'.env=compEnvC scope (cellsFrom ((nL s2).objs.size+1) scope.names cl) (nL s2).objs.size X.env:=by rw[<- hX'];rfl
 rw[envEq] at loop;exact codeAny_compStart_list (loop _ rfl) (T.self X.A 0 _ _ _ st4 (loop _ rfl))
theorem zs4{tg iter elt:Expr}{ifs:List Expr}{scope:Scope}{pos:Pos}{N':List Str}{m:Nat}{g:DG}{ft:DT}{fe:De}(hc:X.calm=true)(hb:zhn X.N N' scope.names m=true)
  (hkind:scope.kind=.function) (hcell:Hce scope) (hfr:Hfr X scope)
  (hblk:Hbk X C N' scope tg ifs elt g ft fe)
  {pS:List (Addr×Obj)} {Y:L2.St} {s2:Shared} {cl:List (Str×Addr)} {RR:Value->Addr->Result->Shared->Prop} {E:Value->Shared->Prop}
  (hcl:∀ x c,cl.lookup x=some c->X.env.cells.lookup x=some c) (hcf:∀ y∈scope.names,y.2=.free->∃ c,cl.lookup y.1=some c)
  {it:Addr} {fp:List Addr} {tn:Nat->Heap->Prop} {J:It} {H2:Hp} (I2:L2.Inv X pS Y H2 s2) (T:zqo X.prog X.w X.K tg J fp it tn) (st2:tn 0 s2.heap) (f2:∀ b∈fp,zfA X pS H2 b)
  {ds zs:List Dt} {Z1 ρf:Ev} {G1:Hp} {w1:Wn} (r1:Rel X.K C G1 w1 Z1 Y H2) (Ko:Ev->Prop) (k0:Ko (Z1++List.replicate m none)) (hko:∀ d Z Z3 b Z4,Ko Z->g d Z=.ok Z3->ft Z3=.ok (b,Z4)->Ko Z4/\∀ y Z5,fe Z4=.ok (y,Z5)->Ko Z5)
  (it1:∀ i Z' G' w' Y' H',Rel X.K (zhf C X.N.length G1 H2 w1 (Y++List.replicate m none)) G' w' Z' Y' H'->Ko Z'->(∀ d,ds[i]? = some d->J.go i H'/\∀ x H7,J.yld i H' x H7->∃ G7,zeC G' H' G7 H7/\Rep X.K G7 d x)/\(ds.length<=i->J.stop i H')) (hfi:zhg ds=true) (ec:zbS g ft fe ds (Z1++List.replicate m none)=.ok (zs,ρf))
  (fin:∀(D L:Addr)(s':Shared)(vs:List V)(G' H':Hp)(w':Wn),L2.Inv X pS Y H' s'->zp2 X pS H' L s'->zbP G1 H2 w1 G' H' w'->Rel X.K C G' w' (ρf.take Z1.length) Y H'->H2 D=none->H' D=some (.lst vs)->G' D=none->w' D=none->za6 X.K G' zs vs->RR (.ref D) L (.ok .next) s') :
  wpAny (model X.prog X.w) X.A (newList []) (λacc s₃=>wpAny (model X.prog X.w) X.A (newFunctionEnv scope X.env.globals cl [] X.env.qual none .none (some X.env)) (λcenv s₄ =>
   codeAny (model X.prog X.w) X.A (.compStart (.ListComp elt [⟨tg,iter,ifs,0⟩] scope pos) 0 (.ref it) acc { cenv with scope:=relabel scope X.env }) (RR acc cenv.locals) s₄) E s₃) E s2:=by
 generalize hC':zhf C X.N.length G1 H2 w1 (Y++List.replicate m none)=C' at it1;have c0:C'.H₀=H2:=by rw[<- hC'];rfl
 have hlenσ:Y.length=X.N.length:=I2.len;refine zn0 (iter:=iter) (pos:=pos) (n:=ds.length) (tgt:=tG X.K C' g) (tts:=tT X.K C' ft) (te:=tE X.K C' fe) hc hb hkind hcell hfr (λL s H fp _ _ _=>by
  obtain ⟨a1,a2,a3⟩:=hblk (cellsFrom (L+1) scope.names cl) L s H fp G1 H2 w1 (Y++List.replicate m none);rw[hC'] at a1 a2 a3;exact ⟨a1,a2,a3⟩) hcl hcf I2 T st2 f2
  (λD i Y' H' vs=>∃ Z' G' w' ac,Rel X.K C' G' w' Z' Y' H'/\G' D=none/\w' D=none/\za6 X.K G' ac vs/\ac.length<=i/\Ko Z'/\∃ z,zbS g ft fe (ds.drop i) Z'=.ok z/\ac++z.1=zs/\z.2 = ρf) (λD hD=>?_) (λD i Y' H' vs hD ⟨Z',G',w',ac,r5,gd5,wd5,q5,hac,ko,z,ez,ez1,ez2⟩ hd5 hlt=>?_) (λD Y' H' vs ⟨Z',G',w',ac,r5,_,_,_,_,ko,_⟩=>(it1 _ _ _ _ _ _ r5 ko).2 (wal _)) λD L s' vs Y' H' IX lo hD hd5 hl6 ⟨Z',G',w',ac,r5,gd5,wd5,q5,hac,_,z,ez,ez1,ez2⟩=>?_
 ·have w0:w1 D=none:=by
   cases q:w1 D with
   |none=>rfl
   |some k=>exact absurd hD (r1.wh _ (by rw[q];simp))
  have base:Rel X.K C' G1 w1 (Z1++List.replicate m none) (Y++List.replicate m none) H2:=by
   refine ⟨r1.gh,r1.wg,r1.wh,by simp[r1.len],λi b e=>?_,by rw[<- hC'];exact .refl _ _ _,λi _=>by rw[<- hC'];rfl⟩;have hi':i < Z1.length:=by
    by_cases hi':i < Z1.length
    ·exact hi'
    ·rw[List.getElem?_append_right xwl,List.getElem?_replicate] at e;split at e <;> cases e
   rw[List.getElem?_append_left hi'] at e;obtain ⟨v,h1,h2⟩:=r1.sl i b e;exact ⟨v,by rw[List.getElem?_append_left (by rw[<- r1.len];exact hi')];exact h1,h2⟩
  exact ⟨Z1++List.replicate m none,G1,w1,[],base.upd_new (r1.gh.free hD) w0 (by rw[c0];exact hD),r1.gh.free hD,w0,za6.nil,Nat.zero_le _,k0,(zs,ρf),by simpa using ec,xws,rfl⟩
 ·have ed:ds.drop i=ds[i]::ds.drop (i+1):=List.drop_eq_getElem_cons hlt;obtain ⟨go,yl⟩:=(it1 i _ _ _ _ _ r5 ko).1 ds[i] (by simp[hlt]);refine ⟨go,λx H7 y7=>?_⟩;obtain ⟨G7,gr,rep7⟩:=yl x H7 y7;have keep7:=(gr.step (w:=w')).keep gd5 wd5 hd5;rw[ed] at ez;unfold zbS at ez;obtain ⟨Z3,e3,ez⟩:=zd7 ez;obtain ⟨t4,e4,ez⟩:=zd7 ez;obtain ⟨b4,Z4⟩:=t4;obtain ⟨ko4,ko5⟩:=hko _ _ _ _ _ ko e3 e4;refine ⟨G7,w',Z',ds[i],r5.grow gr,rep7,?_⟩;rw[e3];intro Y8 G8 H8 w8 s8s r8;have keep8:=s8s.keep keep7.1 keep7.2.1 keep7.2.2;refine ⟨G8,w8,Z3,r8,?_⟩;rw[e4];intro G9 H9 w9 s9s r9;have keep9:=s9s.keep keep8.1 keep8.2.1 keep8.2.2;have sg9:=(gr.g.trans s8s.g).trans s9s.g;cases b4 with
  |false =>
   show (if false=true then _ else _);rw[if_neg Bool.false_ne_true];simp only[Bool.false_eq_true,if_false] at ez;exact ⟨keep9.2.2,Z4,G9,w9,ac,r9,keep9.1,keep9.2.1,q5.same sg9,xwl,ko4,z,ez,ez1,ez2⟩
  |true =>
   show (if true=true then _ else _);rw[if_pos rfl];simp only[if_true] at ez;obtain ⟨⟨yd,Z10⟩,e10,ez⟩:=zd7 ez;obtain ⟨z',ez',ez3⟩:=zd7 ez;refine ⟨G9,w9,Z4,r9,?_⟩;rw[e10];intro v G10 H10 w10 s10s r10 q10;have keep10:=s10s.keep keep9.1 keep9.2.1 keep9.2.2;cases ez3;refine ⟨keep10.2.2,?_,Z10,G10,w10,ac++[yd],r10.upd_new keep10.1 keep10.2.1 (by rw[c0];exact hD),keep10.1,keep10.2.1,(q5.same (sg9.trans s10s.g)).append (za6.cons q10 za6.nil),by simp;lia,ko5 _ _ e10,z',ez',by rw[<- ez1];simp,ez2⟩;have:=q5.length;have:=zka hfi;lia
 ·simp only[List.drop_length] at ez;unfold zbS at ez;cases ez;simp only[List.append_nil] at ez1;subst ez1;subst ez2;have cG:C'.G₀=G1:=by rw[<- hC'];rfl
  have cw:C'.w₀=w1:=by rw[<- hC'];rfl
  have en':zbP G1 H2 w1 G' H' w':=by have:=r5.en;rw[cG,c0,cw] at this;exact this
  have hρlen:Z'.length=X.N.length+m:=by rw[r5.len,hl6]
  refine fin _ _ s' vs G' H' w' IX lo en' ⟨r5.gh,r5.wg,r5.wh,?_,λi b e=>?_,r1.en.trans en',r1.pin⟩ hD hd5 gd5 wd5 q5
  ·rw[List.length_take,hρlen,r1.len,hlenσ];lia
  ·have hi':i < Z1.length:=by
    by_cases hi':i < Z1.length
    ·exact hi'
    ·rw[List.getElem?_eq_none (by rw[List.length_take];lia)] at e;cases e
   rw[List.getElem?_take_of_lt hi'] at e;obtain ⟨v,h1,h2⟩:=r5.sl i b e;refine ⟨v,?_,h2⟩;have hpi:=r5.pin i (by rw[<- hC'];exact List.mem_range.mpr (by rw[<- hlenσ,<- r1.len];exact hi'));rw[h1] at hpi;rw[<- hC'] at hpi;have hpi':some (some v)=(Y++List.replicate m none)[i]? := hpi;rw[List.getElem?_append_left (by rw[<- r1.len];exact hi')] at hpi';exact hpi'.symm
theorem zml{tg iter elt:Expr}{ifs:List Expr}{scope:Scope}{pos:Pos}{N':List Str}{m:Nat}{g:DG}{ft:DT}{fe:De}(hc:X.calm=true)(hb:zhn X.N N' scope.names m=true)
  (hkind:scope.kind=.function) (hcell:Hce scope) (hfr:Hfr X scope)
  (hblk:Hbk X C N' scope tg ifs elt g ft fe)
  {pS:List (Addr×Obj)} {Y:L2.St} {s2:Shared} {cl:List (Str×Addr)} {RR:Value->Addr->Result->Shared->Prop} {E:Value->Shared->Prop}
  (hcl:∀ x c,cl.lookup x=some c->X.env.cells.lookup x=some c) (hcf:∀ y∈scope.names,y.2=.free->∃ c,cl.lookup y.1=some c)
  {it:Addr} {fp:List Addr} {tn:Nat->Heap->Prop} {J:It} {H2:Hp} (I2:L2.Inv X pS Y H2 s2) (T:zqo X.prog X.w X.K tg J fp it tn) (st2:tn 0 s2.heap) (f2:∀ b∈fp,zfA X pS H2 b)
  {ds zs:List Dt} {Z1 ρf:Ev} {G1:Hp} {w1:Wn} (r1:Rel X.K C G1 w1 Z1 Y H2) (it1:zo4 X.K J G1 ds) (hfi:zhg ds=true) (ec:zbS g ft fe ds (Z1++List.replicate m none)=.ok (zs,ρf))
  (fin:∀(D L:Addr)(s':Shared)(vs:List V)(G' H':Hp)(w':Wn),L2.Inv X pS Y H' s'->zp2 X pS H' L s'->zbP G1 H2 w1 G' H' w'->Rel X.K C G' w' (ρf.take Z1.length) Y H'->H2 D=none->H' D=some (.lst vs)->G' D=none->w' D=none->za6 X.K G' zs vs->RR (.ref D) L (.ok .next) s') :
  wpAny (model X.prog X.w) X.A (newList []) (λacc s₃=>wpAny (model X.prog X.w) X.A (newFunctionEnv scope X.env.globals cl [] X.env.qual none .none (some X.env)) (λcenv s₄ =>
   codeAny (model X.prog X.w) X.A (.compStart (.ListComp elt [⟨tg,iter,ifs,0⟩] scope pos) 0 (.ref it) acc { cenv with scope:=relabel scope X.env }) (RR acc cenv.locals) s₄) E s₃) E s2 :=
 zs4 hc hb hkind hcell hfr hblk hcl hcf I2 T st2 f2 r1 (λ_=>True) trivial (λ_ _ _ _ _ _ _ _=>⟨trivial,λ_ _ _=>trivial⟩) (λi Z' G' w' Y' H' r _=>it1 i G' H' r.en.g r.gh) hfi ec fin
theorem zcp{tg iter elt:Expr}{ifs:List Expr}{scope:Scope}{pos:Pos}{N':List Str}{m:Nat}{fi:DA}{g:DG}{ft:DT}{fe:De}(hi:JI X C tg iter fi)(hc:X.calm=true)(hb:zhn X.N N' scope.names m=true)
  (hkind:scope.kind=.function) (hcell:Hce scope) (hfr:Hfr X scope) (hnames:Hnm scope)
  (hblk:Hbk X C N' scope tg ifs elt g ft fe)
  (hs:∀ x,foldedSetIterable iter X.env x=pure x:=by intro _;rfl):JN X C (.ListComp elt [⟨tg,iter,ifs,0⟩] scope pos) (zbl fi g ft fe m):=by
 intro pS s Y H Q I ⟨G,w,Z,r,p⟩;rw[eval_ListComp];obtain ⟨cl,hclos,hcl,hcf⟩:=zgB (scope:=scope) (env:=X.env) λy hy hf=>I.ok.has y.1 (hfr y hy hf);refine wpAny_comprehension_free (use:=none) rfl hs hclos hkind hnames ?_;refine thn (hi pS s Y H (λJ H2=>∃ ds Z1 G1 w1 zs ρf,Rel X.K C G1 w1 Z1 Y H2/\zo4 X.K J G1 ds/\zhg ds=true/\zbS g ft fe ds (Z1++List.replicate m none)=.ok (zs,ρf)/\kN X.K C Y Q G1 H2 w1 (zs,ρf.take Z1.length)) I ?_) λv s1 h1=>thn h1 λitv s2 h2=>?_
 ·refine zxF (κ:=λG H w=>kN X.K C Y Q G H w) zf4 r p λds Z1 J G1 H1 w1 r1 st1 it1 p1=>?_;dsimp only at p1;split at p1
  ·rename_i hfi;split at p1
   ·rename_i z ez;exact ⟨ds,Z1,G1,w1,z.1,z.2,r1,it1,hfi,ez,p1⟩
   ·exact p1.elim
  ·exact p1.elim
 obtain ⟨it,fp,tn,J,H2,rfl,I2,T,st2,f2,ds,Z1,G1,w1,zs,ρf,r1,it1,hfi,ec,kk⟩:=h2;refine zml (RR:=λacc C=>compPost (model X.prog X.w) X.A X.xe none (EP X pS Y Q) acc C) hc hb hkind hcell hfr hblk hcl hcf I2 T st2 f2 r1 it1 hfi ec λD L s' vs G' H' w' I' lo st rel h0 h1 h2 h3 q=>?_;obtain ⟨mm,hn⟩:=lo.ns;refine ⟨mm,hn,λh' hsb=>⟨.ref D,H',?_,rfl,kk D vs G' H' w' st rel h0 h1 h2 h3 q⟩⟩;exact I'.turned (t':=s'.toks) (λb o hb e=>(hsb.2 b hb).trans e) lo.fr lo.nl lo.nw lo.nc lo.np
theorem zrG{tg iter elt:Expr}{ifs:List Expr}{scope:Scope}{pos spos:Pos}{N':List Str}{m i:Nat}{x:Str}{px:Pos}{fi:DA}{g:DG}{ft:DT}{fe:De}{fs:List Dt×Ev->R (Fl×Ev)}(hi:JI X C tg iter fi)(hc:X.calm=true)(hb:zhn X.N N' scope.names m=true)
  (hkind:scope.kind=.function) (hcell:Hce scope) (hfr:Hfr X scope) (hnames:Hnm scope)
  (hblk:Hbk X C N' scope tg ifs elt g ft fe)
  (hN:X.N.Nodup) (hix:X.N[i]? = some x) (hx:Loc X.env.scope x) (hsw:swapsWith (.ListComp elt [⟨tg,iter,ifs,0⟩] scope pos) (some (.Name x px)) spos.line X.env=pure true) (hf:X.fn x=true\/X.env.scope.names.lookup x=some .local)
  (hfs:∀(D:ztN)(G1 H2 G' H':Hp)(w1 w':Wn)(Y:L2.St)(p:Addr)(zs:List Dt)(vs:List V)(ρf:Ev),zc1 C.ex (kS X.K C D G1 H2 w1) (fs (zs,ρf))->zbP G1 H2 w1 G' H' w'->Rel X.K C G' w' ρf Y H'->H2 p=none->H' p=some (.lst vs)->G' p=none->w' p=none->za6 X.K G' zs vs->C.H₀ p=none->D.nx (Y.set i (some (.ref p))) H')
  (hs:∀ x,foldedSetIterable iter X.env x=pure x:=by intro _;rfl):JS X C (.Assign [.Name x px] (.ListComp elt [⟨tg,iter,ifs,0⟩] scope pos) spos) (λZ=>(zbl fi g ft fe m Z).bind fs):=by
 intro pS s Y H D I ⟨G,w,Z,r,p⟩;obtain ⟨cl,hclos,hcl,hcf⟩:=zgB (scope:=scope) (env:=X.env) λy hy hf=>I.ok.has y.1 (hfr y hy hf);rw[exec_Assign_Name_used _ _ _ _ hsw];refine wab (wpAny_standAt (wab ?_));show wpAny _ X.A (do let _ <- comprehension (.ListComp elt [⟨tg,iter,ifs,0⟩] scope pos) scope X.env _ (newList []) false (eval iter X.env) (some (assign (.Name x px) X.env))) _ _ s;refine wab (wpAny_mono (wpAny_comprehension_free (use:=some (assign (.Name x px) X.env)) (Q:=λ_ s'=>SP X pS D .next s') rfl hs hclos hkind hnames ?_) (λ_ s' hq=>wad (wad hq)) λ_ _ e=>e);refine thn (hi pS s Y H (λJ H2=>∃ ds Z1 G1 w1 zs ρf,Rel X.K C G1 w1 Z1 Y H2/\zo4 X.K J G1 ds/\zhg ds=true/\zbS g ft fe ds (Z1++List.replicate m none)=.ok (zs,ρf)/\zc1 C.ex (kS X.K C D G1 H2 w1) (fs (zs,ρf.take Z1.length))) I ?_) λv s1 h1=>thn h1 λitv s2 h2=>?_
 ·have p':zc1 C.ex (kS X.K C D G H w) ((fi Z).bind λa=>((if zhg a.1=true then match zbS g ft fe a.1 (a.2++List.replicate m none) with
   |.ok z=>.ok (z.1,z.2.take a.2.length)
   |_=>.no
   else .no:R (List Dt×Ev))).bind fs):=by
   rw[<- R.bind_assoc];exact p
  refine zxF (κ:=λG H w=>kS X.K C D G H w) zfj r p' λds Z1 J G1 H1 w1 r1 st1 it1 p1=>?_;dsimp only at p1;split at p1
  ·rename_i hfi;split at p1
   ·rename_i z ez;exact ⟨ds,Z1,G1,w1,z.1,z.2,r1,it1,hfi,ez,p1⟩
   ·exact waO p1
  ·exact waO p1
 obtain ⟨it,fp,tn,J,H2,rfl,I2,T,st2,f2,ds,Z1,G1,w1,zs,ρf,r1,it1,hfi,ec,kk⟩:=h2;refine zml (RR:=λacc C=>compPost (model X.prog X.w) X.A X.xe (some (assign (.Name x px) X.env)) (λ_ s'=>SP X pS D .next s') acc C) hc hb hkind hcell hfr hblk hcl hcf I2 T st2 f2 r1 it1 hfi ec λDa L s' vs G' H' w' I' lo st rel h0 h1 h2 h3 q=>?_;show wpAny _ X.A (assign (.Name x px) X.env (.ref Da)) _ _ _;refine wpAny_assign_Name (zi3 I' hN hix hx (v:=.ref Da) rfl (λs'' I'' hch=>?_) hf);obtain ⟨mm,hn⟩:=lo.ns;obtain ⟨a,sb,ha⟩:=hch;have hLa:L≠a:=by
  rcases ha with z|z
  ·rw[z];exact lo.nl
  ·exact λy=>lo.nc x a z y.symm
 refine ⟨mm,hn.sameBut sb hLa,λh' hsb=>⟨Y.set i (some (.ref Da)),H',?_,hfs D G1 H2 G' H' w1 w' Y Da zs vs _ kk st rel h0 h1 h2 h3 q (r1.en.k Da h0)⟩⟩;exact I''.turned (t':=s''.toks) (λb o hb e=>(hsb.2 b hb).trans e) lo.fr lo.nl lo.nw lo.nc lo.np
theorem zgQ{tg iter elt:Expr}{ifs:List Expr}{scope:Scope}{pos spos:Pos}{N':List Str}{m i:Nat}{x:Str}{px:Pos}{fi:DA}{g:DG}{ft:DT}{fe:De}(hN:X.N.Nodup)(hix:X.N[i]? = some x)(hx:Loc X.env.scope x)(hp:i∉C.pp)(hi:JI X C tg iter fi)(hc:X.calm=true)(hb:zhn X.N N' scope.names m=true)
  (hkind:scope.kind=.function) (hcell:Hce scope) (hfr:Hfr X scope) (hnames:Hnm scope)
  (hblk:Hbk X C N' scope tg ifs elt g ft fe)
  (hsw:swapsWith (.ListComp elt [⟨tg,iter,ifs,0⟩] scope pos) (some (.Name x px)) spos.line X.env=pure true:=by rfl) (hf:X.fn x=true\/X.env.scope.names.lookup x=some .local:=by exact xwA)
  (hs:∀ x,foldedSetIterable iter X.env x=pure x:=by intro _;rfl):JS X C (.Assign [.Name x px] (.ListComp elt [⟨tg,iter,ifs,0⟩] scope pos) spos) (zaX i (dFz (zbl fi g ft fe m))):=by
 have h:=zrG (fs:=λa=>if i<a.2.length then .ok (.nx,a.2.set i (some (.val (.lst a.1)))) else .no) hi hc hb hkind hcell hfr hnames hblk hN hix hx hsw hf (λD G1 H2 G' H' w1 w' Y p zs vs ρf po st rel h0 h1 h2 h3 q h4=>?_) hs
 ·refine PS.weak h λD Y H t=>?_;obtain ⟨G,w,Z,r,p⟩:=t;refine ⟨G,w,Z,r,?_⟩;unfold zaX dFz at p;rw[R.bind_assoc] at p;exact p
 ·by_cases hl:i < ρf.length
  ·simp only[hl,if_true] at po;obtain ⟨r',s'⟩:=rel.know h1 h2 h3 H2 G1 w1 st h0 (.inl h4);have sg:zdN G' (upd G' p (.lst vs)):=λb u e=>by rw[zau (zav e h2)];exact e
   exact po _ _ _ _ s' (r'.setVal hl hp (by unfold Rep;exact ⟨p,vs,rfl,zat,q.same sg⟩))
  ·simp only[hl,if_false] at po;exact waO po
end
section
variable{X:Cx}{C:Cn}{a b c e:Expr}{fa fb fc:De}{pos:Pos}
def kO(K:W.Frag)(C:Cn)(Y:L2.St)(Q:Option Int->Hp->Prop)(G H:Hp)(w:Wn)(a:Option Int×Ev):Prop :=
 ∀ G' H' w',zbP G H w G' H' w'->Rel K C G' w' a.2 Y H'->Q a.1 H'
abbrev DO:=Ev->R (Option Int×Ev)
def tOd(K:W.Frag)(C:Cn)(f:DO):TO:=λY H Q=>∃ G w Z,Rel K C G w Z Y H/\zc1 C.ex (kO K C Y Q G H w) (f Z)
abbrev JO(X:Cx)(C:Cn)(e:Option Expr)(f:DO):Prop:=PO X e (tOd X.K C f)
theorem PO.weak{e:Option Expr}{t t':TO}(h:PO X e t)(k:∀ Y H Q,t' Y H Q->t Y H Q):PO X e t':=λpS s Y H Q I q=>h pS s Y H Q I (k Y H Q q)
def dO0:DO:=λZ=>.ok (none,Z)
def dO1(fa:De):DO:=λZ=>(fa Z).bind λa=>match a.1 with
 |.int i=>.ok (some i,a.2)
 |_=>.no
theorem zxL{K:W.Frag}{Y:L2.St}{Q:Option Int->Hp->Prop}:Stp (λG H w=>kO K C Y Q G H w):=λ_ _ _ _ _ _ _ s k G' H' w' s'=>k G' H' w' (s.trans s')
theorem zfV:JO X C none dO0:=PO.weak zu6 λY H Q ⟨G,w,Z,r,p⟩=>p G H w (.refl _ _ _) r
theorem zdh(h:JE X C a fa):JO X C (some a) (dO1 fa):=PO.weak (zuB h) λY H Q ⟨G,w,Z,r,p⟩=>by
 refine zeL (κ:=λG H w=>kO X.K C Y Q G H w) zxL r p λd Z1 v G1 H1 w1 r1 s1 q1 p1=>?_;cases d with
 |int i=>exact ⟨i,zaB q1,p1 G1 H1 w1 (.refl _ _ _) r1⟩
 |_=>exact p1.elim
theorem zx9{K:W.Frag}{Y:L2.St}{α:Type}{κ:zrN α}(st:Stp κ){G H:Hp}{w:Wn}{Z:Ev}{fa:DO}{g:Option Int×Ev->R α}{Q:Option Int->Hp->Prop}(r:Rel K C G w Z Y H)(p:zc1 C.ex (κ G H w) ((fa Z).bind g))
  (k:∀ o Z1 G1 H1 w1,Rel K C G1 w1 Z1 Y H1->zbP G H w G1 H1 w1->zc1 C.ex (κ G1 H1 w1) (g (o,Z1))->Q o H1):tOd K C fa Y H Q:=by
 refine ⟨G,w,Z,r,?_⟩;cases e:fa Z with
 |ok a =>
  rw[e] at p;intro G' H' w' s' r';exact k a.1 a.2 G' H' w' r' s' (zc1.step st s' p)
 |er n=>rw[e] at p;exact p
 |no=>rw[e] at p;exact p
def ziE{α:Type}(xs:List α)(lo hi:Option Int):List α:=(xs.drop (HT.sIx xs.length 0 lo)).take (HT.sIx xs.length xs.length hi-HT.sIx xs.length 0 lo)
theorem znZ{K:W.Frag}{G:Hp}{ds:List Dt}{vs:List V}(h:za6 K G ds vs)(lo hi:Option Int):za6 K G (ziE ds lo hi) (zpl vs lo hi):=by unfold ziE zpl;rw[<- h.length];exact (h.drop _).take _
def zlM(fa:De)(fl fh:DO):DN:=λZ=>(fa Z).bind λa=>(fl a.2).bind λl=>(fh l.2).bind λh=>match a.1 with
 |.lst ds=>.ok (ziE ds l.1 h.1,h.2)
 |_=>.no
theorem zfn{K:W.Frag}{Y:L2.St}{G H:Hp}{w:Wn}{Z:Ev}{p:Addr}(r:Rel K C G w Z Y H)(hp:H p=none):w p=none:=by
 cases z:w p with
 |none=>rfl
 |some k=>exact absurd hp (r.wh p (by rw[z];simp))
theorem zlt{lo hi:Option Expr}{fl fh:DO}{p2:Pos}(ha:JE X C a fa)(hl:JO X C lo fl)(hh:JO X C hi fh):JN X C (.Subscript a (.Slice lo hi none p2) pos) (zlM fa fl fh) :=
 PE.weak (zop zui ha hl hh) λY H Q ⟨G,w,Z,r,p⟩=>by
  refine zeL (κ:=λG H w=>kN X.K C Y Q G H w) zf4 r p λd Z1 v G1 H1 w1 r1 s1 q1 p1=>?_;refine zx9 (κ:=λG H w=>kN X.K C Y Q G H w) zf4 r1 p1 λl Z2 G2 H2 w2 r2 s2 p2=>?_;refine zx9 (κ:=λG H w=>kN X.K C Y Q G H w) zf4 r2 p2 λh Z3 G3 H3 w3 r3 s3 p3=>?_;cases d with
  |lst ds =>
   obtain ⟨ad,vs,rfl,h1,h2⟩:=zaT (q1.same (s2.g.trans s3.g));refine ⟨ad,vs,rfl,SqL.of (r3.gh _ _ h1),λp hp=>?_⟩;have gr:zeC G3 H3 G3 (upd H3 p (.lst (zpl vs l h))):=.newH r3.gh hp;exact p3 p _ G3 _ w3 gr.step (r3.grow gr) hp zat (r3.gh.free hp) (zfn r3 hp) (znZ h2 l h)
  |_=>exact p3.elim
def zgj(fa:De):DN:=λZ=>(fa Z).bind λa=>match a.1 with
 |.lst ds=>.ok (ds.reverse,a.2)
 |_=>.no
theorem zt8{k1:Nat}{p1 p2 p3:Pos}(ha:JE X C a fa):JN X C (.Subscript a (.Slice none none (some (.UnaryOp .USub (.Constant (.int 1) k1 p1) p2)) p3) pos) (zgj fa):=by
 intro pS s Y H Q I ⟨G,w,Z,r,p⟩;refine PyProof.Rows.Subscript_ (thn (ha pS s Y H (λx H1=>∃ ad vs,x=.ref ad/\SqL X.K H1 ad vs/\∀ p,H1 p=none->Q (.ref p) (upd H1 p (.lst vs.reverse))) I ?_) λv s1 ⟨x,H1,I1,r1,ad,vs,ex,hx,q1⟩=>?_)
 ·refine zeL (κ:=λG H w=>kN X.K C Y Q G H w) zf4 r p λd Z1 v G1 H1 w1 r1 s1 q1 p1=>?_;cases d with
  |lst ds =>
   obtain ⟨ad,vs,rfl,h1,h2⟩:=zaT q1;refine ⟨ad,vs,rfl,SqL.of (r1.gh _ _ h1),λp hp=>?_⟩;have gr:zeC G1 H1 G1 (upd H1 p (.lst vs.reverse)):=.newH r1.gh hp;exact p1 p _ G1 _ w1 gr.step (r1.grow gr) hp zat (r1.gh.free hp) (zfn r1 hp) h2.reverse
  |_=>exact p1.elim
 subst ex;cases r1;obtain ⟨its,rv,ht,hz⟩:=I1.list hx;have hlen:=rv.length;refine wpAny_Slice (evalPart_none_step (evalPart_none_step (evalPart_some_step (thn (zwo (a:=.Constant (.int 1) k1 p1) (pos:=p2) ztm ztf pS s1 Y H1 (λx H2=>x=.int (-1)/\H2=H1) I1 ⟨1,rfl,rfl,rfl⟩) λvk s2 ⟨y,H2,I2,r2,ey,eH⟩=>?_))));subst ey;subst eH;obtain ⟨t,rfl⟩:=r2;have I4:L2.Inv X pS Y H2 { s2 with heap:=s2.heap.push { cls:=.type "slice",data:=.fields #[.none,.none,.int (-1) t] } }:=I2.kept (t':=s2.toks) λb ob q=>waa _ q;obtain ⟨its4,rv4,ht4,_⟩:=I4.list hx;have hlen4:=rv4.length;show wpAny (model X.prog X.w) X.A (PyProof.Rows.subscriptTail a (.Slice none none (some (.UnaryOp .USub (.Constant (.int 1) k1 p1) p2)) p3) (.ref ad) (.ref s2.heap.objs.size)) (EP X pS Y Q) X.xe { s2 with heap:=s2.heap.push { cls:=.type "slice",data:=.fields #[.none,.none,.int (-1) t] } };refine PyProof.Rows.tail_any (ops:=[.ref ad,.ref s2.heap.objs.size]) ht4.isList.typeIs slot_list_getitem.lookup ?_ (by with_unfolding_all rfl);refine wpAny_getItem_list_slice ht4.isList (Heap.IsSliceOf.new ..) .none .none (.int _ _) xwd ?_ (by rw[List.size_toArray] <;> lia);rw[W.krv_pick];refine ⟨.ref _,_,I4.laid (t':=s2.toks) (o:=.lst vs.reverse) (λb ob q=>waa _ q) (wal _) ?_,rfl,q1 _ (I4.hok.fresh (wal _))⟩;exact ⟨by rw[List.length_reverse];exact hz,its4.reverse,0,rv4.reverse,waj (o:={ cls:=.type "list",data:=.seq its4.toArray.toList.reverse.toArray }) _ rfl⟩
end
structure Dfn(nw:Bool)(P:Program)(w:World)(K:W.Frag)(mg:Str->Option Value)(base:Heap)(CX:CXT)(xv:Nat->Value)(k:Nat)(x:Str)(ks:List Bool)(F:FD):Prop where
 ex:∃(f:Addr)(fd:FuncData)(ps:List Str),zgu P w K mg base CX k f fd ps (zqn nw K xv ks F)/\mg x=some (.ref f)/\W.keepIn K (.ref f)=true/\zkm K fd ps []/\∀ bs,F bs≠.no->zdE bs=ks
theorem Dfn.mono{nw:Bool}{P:Program}{w:World}{K:W.Frag}{mg:Str->Option Value}{base:Heap}{CX:CXT}{xv:Nat->Value}{k k':Nat}{x:Str}{ks:List Bool}{F:FD}(D:Dfn nw P w K mg base CX xv k x ks F)(h:k<=k'):Dfn nw P w K mg base CX xv k' x ks F:=by obtain ⟨f,fd,ps,h1,h2⟩:=D.ex;exact ⟨f,fd,ps,h1.mono h,h2⟩
section
variable{X:Cx}{C:Cn}{CX:CXT}{k k':Nat}{ks:List Bool}{Fd:FD}{x:Str}{p pos:Pos}{e:Expr}{es:List Expr}{far:DAr}
theorem zaC(D:Dfn false X.prog X.w X.K X.mg X.base CX C.xv k x ks Fd)(hr:zgm k' X.A)(hk:k<=k')(hx:zfe CX X (EXc C))(ha:JAr X C (e::es) far)(hg:Gl X x:=by rfl)(hdb:(x == ("__debug__" : Str))=false:=by decide)(he:starEach (e::es) X.env=(false,eval e X.env)::starEach es X.env:=by rfl)
  (hpl:(backTo pos (starEach es X.env)).any (·.1)=false:=by rfl):JE X C (.Call (.Name x p) (e::es) [] pos) (zai Fd far):=by
 obtain ⟨f,fd,ps,h1,h2,h3,h4,h5⟩:=D.ex;exact zu3 h1 (hr.mono hk) hg h2 h3 h4 hx h5 ha hdb he hpl
end
section
variable{X:Cx}{C:Cn}{CX:CXT}{k k':Nat}{ks:List Bool}{Fd:FD}{x:Str}{p pos:Pos}{e:Expr}{es:List Expr}{far:DAr}
theorem zja(D:Dfn true X.prog X.w X.K X.mg X.base CX C.xv k x ks Fd)(hr:zgm k' X.A)(hk:k<=k')(hx:zfe CX X (EXc C))(ha:JAr X C (e::es) far)(hg:Gl X x:=by rfl)(hdb:(x == ("__debug__" : Str))=false:=by decide)(he:starEach (e::es) X.env=(false,eval e X.env)::starEach es X.env:=by rfl)
  (hpl:(backTo pos (starEach es X.env)).any (·.1)=false:=by rfl):JN X C (.Call (.Name x p) (e::es) [] pos) (zbm Fd far):=by
 obtain ⟨f,fd,ps,h1,h2,h3,h4,h5⟩:=D.ex;exact zvL h1 (hr.mono hk) hg h2 h3 h4 hx h5 ha hdb he hpl
end
def dNo:DS:=λ_=>.no
theorem zrV{X:Cx}{C:Cn}{st:Stmt}:JS X C st dNo:=λ_ _ _ _ _ _ ⟨_,_,_,_,p⟩=>p.elim
section
variable{X:Cx}{C:Cn}{a b c e:Expr}{fa fb fc:De}{pos:Pos}
def zj1(fa fb:De):DN:=λZ=>(fa Z).bind λa=>(fb a.2).bind λb=>match a.1,b.1 with
 |.lst x,.lst y=>if x.length+y.length<=16777216 then .ok (x++y,b.2) else .no
 |_,_=>.no
theorem zjz(ha:JE X C a fa)(hb:JE X C b fb):JN X C (.BinOp a .Add b pos) (zj1 fa fb):=PE.weak (zuG zxd ha hb) λY H Q ⟨G,w,Z,r,p⟩=>by
 refine zeL (κ:=λG H w=>kN X.K C Y Q G H w) zf4 r p λd Z1 v G1 H1 w1 r1 s1 q1 p1=>?_;refine zeL (κ:=λG H w=>kN X.K C Y Q G H w) zf4 r1 p1 λd2 Z2 v2 G2 H2 w2 r2 s2 q2 p2=>?_;dsimp only at p2;split at p2
 ·rename_i x y;split at p2
  ·rename_i hl;obtain ⟨ad,vs,rfl,h1,h2⟩:=zaT (q1.same s2.g);obtain ⟨bd,us,rfl,h3,h4⟩:=zaT q2;refine ⟨ad,bd,vs,us,rfl,rfl,r2.gh _ _ h1,r2.gh _ _ h3,by rw[<- h2.length,<- h4.length,zdd];exact hl,λp hp=>?_⟩;have gr:zeC G2 H2 G2 (upd H2 p (.lst (vs++us))):=.newH r2.gh hp;exact p2 p _ G2 _ w2 gr.step (r2.grow gr) hp zat (r2.gh.free hp) (zfn r2 hp) (h2.append h4)
  ·exact p2.elim
 ·exact p2.elim
def zwl(fa fb:De):DN:=λZ=>(fa Z).bind λa=>(fb a.2).bind λb=>match a.1,b.1 with
 |.lst x,.int k=>if zf2 k=true/\x.length * k.toNat<=16777216 then .ok ((List.replicate k.toNat x).flatten,b.2) else .no
 |_,_=>.no
theorem znu{K:W.Frag}{G:Hp}{ds:List Dt}{vs:List V}(h:za6 K G ds vs):∀ k:Nat,za6 K G (List.replicate k ds).flatten (List.replicate k vs).flatten
 |0=>by simpa using za6.nil
 |k+1=>by rw[List.replicate_succ,List.replicate_succ,List.flatten_cons,List.flatten_cons];exact h.append (znu h k)
theorem zwp(ha:JE X C a fa)(hb:JE X C b fb):JN X C (.BinOp a .Mult b pos) (zwl fa fb):=PE.weak (zuG zww ha hb) λY H Q ⟨G,w,Z,r,p⟩=>by
 refine zeL (κ:=λG H w=>kN X.K C Y Q G H w) zf4 r p λd Z1 v G1 H1 w1 r1 s1 q1 p1=>?_;refine zeL (κ:=λG H w=>kN X.K C Y Q G H w) zf4 r1 p1 λd2 Z2 v2 G2 H2 w2 r2 s2 q2 p2=>?_;dsimp only at p2;split at p2
 ·rename_i x k;split at p2
  ·rename_i hl;obtain ⟨ad,vs,rfl,h1,h2⟩:=zaT (q1.same s2.g);obtain ⟨b1,b2⟩:=zhv hl.1;refine ⟨ad,k,vs,rfl,zaB q2,r2.gh _ _ h1,xwl,xwl,by rw[<- h2.length,zdd];exact hl.2,λp hp=>?_⟩;have gr:zeC G2 H2 G2 (upd H2 p (.lst (List.replicate k.toNat vs).flatten)):=.newH r2.gh hp;exact p2 p _ G2 _ w2 gr.step (r2.grow gr) hp zat (r2.gh.free hp) (zfn r2 hp) (znu h2 k.toNat)
  ·exact p2.elim
 ·exact p2.elim
def zyo(ta:TA):TE:=λY H Q=>ta Y H λvs H1=>∃ j:Int,vs=[.int j]/\∀ p,H1 p=none->Q (.ref p) (upd H1 p (.rng 0 j))
theorem ztC{p:Pos}{ta:TA}(hg:Gl X "range")(hm:X.mg "range"=none)(ha:PA X [e] ta)(hs:starEach [e] X.env=[(false,eval e X.env)]:=by rfl):PE X (.Call (.Name "range" p) [e] [] pos) (zyo ta):=by intro pS s Y H Q I h;refine PyProof.Rows.Call_ (zeD I hg hm PyProof.Rows.boot_range (PyProof.Rows.callWith_type1 (thn (ha pos pS s Y H _ I h) λus s1 ⟨vs,H1,I1,r1,q1⟩=>?_) hs rfl));obtain ⟨j,e1,q⟩:=q1;subst e1;obtain ⟨u,rfl,t,rfl⟩:=zf6 r1;exact call_range_1 ⟨.ref s1.heap.objs.size,_,I1.laid (o:=.rng 0 j) (λb u e=>waa _ e) (wal _) ⟨_,_,_,waj _ rfl⟩,rfl,q _ (I1.hok.fresh (wal _))⟩
theorem zgT{lo:Int}:∀(n:Nat)(acc:List Value),acc.length=n->(∀(j:Nat) v,acc[j]? = some v->∃ t,v=Value.int (lo+j) t)->zbf ((List.range n).map λk=>V.int (lo+(k:Nat))) acc
 |0,[],_,_=>.nil
 |0,_::_,h,_=>by simp at h
 |n+1,[],h,_=>by simp at h
 |n+1,v::r,h,hv=>by
  rw[List.range_succ_eq_map,List.map_cons,List.map_map];obtain ⟨t,ht⟩:=hv 0 v rfl;refine .cons ⟨t,by simpa using ht⟩ ?_;have:=zgT (lo:=lo+1) n r (by simpa using h) λj v' e=>by obtain ⟨t',ht'⟩:=hv (j+1) v' (by simpa using e);refine ⟨t',ht'.trans ?_⟩;congr 1;lia
  have e:(λk=>V.int (lo+1+(k:Nat)))=((λk:Nat=>V.int (lo+(k:Nat))) ∘ Nat.succ):=by funext k;show V.int _=V.int _;congr 1;simp only[Nat.succ_eq_add_one];lia
  rw[e] at this;exact this
theorem zkh(hc:X.calm=true):zcZ X (.type "list") (λxs H Q=>∃(p:Addr)(j:Int),xs=[.ref p]/\H p=some (.rng 0 j)/\0<=j/\j<=16777216/\∀ l,H l=none->Q (.ref l) (upd H l (.lst ((List.range j.toNat).map λk=>V.int (0+(k:Nat)))))):=by
 intro pS s Y H xs us Q I r h;obtain ⟨p,j,rfl,hp,j0,j1,q⟩:=h;obtain ⟨u,rfl,ru⟩:=zf6 r;cases ru;obtain ⟨t,u,v,e⟩:=(show zdP X.prog X.w H s.heap p (.rng 0 j) from I.hok p _ hp)
 refine call_list_range (n:=j.toNat) (I.ok.hd hc) e (small_one xwl xwl xwl xwl) (by rw[rangeSize_one];split <;> lia) xwl λh' tk acc' c' hk hS hacc=>?_;refine ⟨.ref s.heap.objs.size,_,I.laid (t':=tk) hk (wal _) (o:=.lst ((List.range j.toNat).map λk=>V.int (0+(k:Nat)))) ⟨?_,acc'.toList,c',?_,by simpa using hS⟩,rfl,q _ (I.hok.fresh (wal _))⟩
 ·rw[List.length_map,List.length_range,zdd];lia
 ·refine zgT j.toNat acc'.toList (by rw[Array.length_toList];exact hacc.1) λi v' ev=>?_;obtain ⟨t',ht'⟩:=hacc.2 i v' (by simpa using ev);exact ⟨t',by rw[ht',Int.mul_one]⟩
def zjh(fa:De):DN:=λZ=>(fa Z).bind λa=>match a.1 with
 |.int j=>if 0<=j/\j<=16777216 then .ok (zca 0 j.toNat,a.2) else .no
 |_=>.no
theorem zg9{K:W.Frag}{G:Hp}{lo:Int}:∀(l:List Nat),za6 K G (l.map λk=>.int (lo+(k:Nat))) (l.map λk=>V.int (lo+(k:Nat)))
 |[]=>za6.nil
 |k::r=>za6.cons (zaG _) (zg9 r)
theorem zqG{p1 p2 pos2:Pos}(hc:X.calm=true)(hg:Gl X "list")(hm:X.mg "list"=none)(hg2:Gl X "range")(hm2:X.mg "range"=none)(ha:JE X C e fa)(hs:starEach [e] X.env=[(false,eval e X.env)]:=by rfl)
  (hs2:starEach [.Call (.Name "range" p2) [e] [] pos2] X.env=(false,eval (.Call (.Name "range" p2) [e] [] pos2) X.env)::starEach [] X.env:=by rfl) (hpl:(backTo pos (starEach [] X.env)).any (·.1)=false:=by rfl) :
  JN X C (.Call (.Name "list" p1) [.Call (.Name "range" p2) [e] [] pos2] [] pos) (zjh fa) :=
 PE.weak (zg5 (zkh hc) hg hm PyProof.Rows.boot_list (zbn (ztC hg2 hm2 (zao ha za1 (by rw[hs];rfl)) hs) zde hs2) xwd xwd hs2 hpl) λY H Q ⟨G,w,Z,r,p⟩=>by
  unfold zjh at p;refine ⟨G,w,Z,r,?_⟩;unfold dA dA0;cases e:fa Z with
  |ok x =>
   obtain ⟨d,Z1⟩:=x;rw[e] at p;intro vs G1 H1 w1 s1 r1 q;obtain ⟨v,t,rfl,q1,q2⟩:=q.cons_inv;rw[q2.nil_inv];have p1:=zc1.step (κ:=λG H w=>kN X.K C Y Q G H w) zf4 s1 p;cases d with
   |int j =>
    refine ⟨j,by rw[zaB q1],λp hp=>?_⟩;have p1:zc1 C.ex (kN X.K C Y Q G1 H1 w1) (if 0<=j/\j<=16777216 then .ok (zca 0 j.toNat,Z1) else .no):=p1;by_cases hj:0<=j/\j<=16777216
    ·rw[if_pos hj] at p1;refine ⟨p,j,rfl,zat,hj.1,hj.2,λl hl=>?_⟩;have gr:zeC G1 H1 G1 (upd H1 p (.rng 0 j)):=.newH r1.gh hp;have r2:=r1.grow gr;have gr2:zeC G1 (upd H1 p (.rng 0 j)) G1 (upd (upd H1 p (.rng 0 j)) l (.lst ((List.range j.toNat).map λk=>V.int (0+(k:Nat))))):=.newH r2.gh hl;have hl1:H1 l=none:=gr.h.free hl;exact p1 l _ G1 _ w1 (gr.step.trans gr2.step) (r2.grow gr2) hl1 zat (r1.gh.free hl1) (zfn r1 hl1) (zg9 _)
    ·rw[if_neg hj] at p1;exact p1.elim
   |_=>exact waO p1
  |er n=>rw[e] at p;exact p
  |no=>rw[e] at p;exact p
end
section
variable{X:Cx}{C:Cn}{a b c e:Expr}{fa fb fc:De}{pos:Pos}
def zv2(a:Int):List Int->List Int
 |[]=>[a]
 |b::r=>if a<=b then a::b::r else b::zv2 a r
def zaR:List Int->List Int
 |[]=>[]
 |a::r=>zv2 a (zaR r)
theorem ziw(a:Int):∀ l:List Int,(zv2 a l).Perm (a::l)
 |[]=>.refl _
 |b::r=>by
  unfold zv2;split
  ·exact .refl _
  ·exact ((ziw a r).cons b).trans (.swap a b r)
theorem zaI:∀ l:List Int,(zaR l).Perm l
 |[]=>.refl _
 |a::r=>(ziw a _).trans ((zaI r).cons a)
theorem znR(a:Int):∀ l:List Int,l.Pairwise (· <= ·)->(zv2 a l).Pairwise (· <= ·)
 |[],_=>by simp[zv2]
 |b::r,h=>by
  unfold zv2;rw[List.pairwise_cons] at h;split
  ·rename_i z;refine List.pairwise_cons.mpr ⟨λx hx=>?_,List.pairwise_cons.mpr h⟩;rcases wap.mp hx with rfl|hx
   ·exact z
   ·exact Int.le_trans z (h.1 x hx)
  ·rename_i z;refine List.pairwise_cons.mpr ⟨λx hx=>?_,znR a r h.2⟩;rcases wap.mp ((ziw a r).mem_iff.mp hx) with rfl|hx
   ·lia
   ·exact h.1 x hx
theorem zcn:∀ l:List Int,(zaR l).Pairwise (· <= ·)
 |[]=>.nil
 |a::r=>znR a _ (zcn r)
theorem intsAre_of:∀{ns:List Int}{us:List Value},zbf (ns.map V.int) us->PyProof.Rows.IntsAre us ns
 |[],_,.nil=>.nil
 |n::ns,_,.cons ⟨t,h⟩ r=>by subst h;exact .cons n t (intsAre_of r)
theorem vals_ints:∀{ns:List Int}{us:List Value},PyProof.Rows.IntsAre us ns->zbf (ns.map V.int) us
 |_,_,.nil=>.nil
 |_,_,.cons n t h=>.cons ⟨t,rfl⟩ (vals_ints h)
theorem zoW:zcZ X (.builtin "sorted") (λxs H Q=>∃(p:Addr)(ns:List Int),xs=[.ref p]/\SqL X.K H p (ns.map V.int)/\ns.length<64/\∀ l,H l=none->Q (.ref l) (upd H l (.lst ((zaR ns).map V.int)))):=by
 intro pS s Y H xs us Q I r h;obtain ⟨p,ns,rfl,hq,hl,q⟩:=h;obtain ⟨u,rfl,ru⟩:=zf6 r;cases ru;obtain ⟨its,rv,pl,hz⟩:=I.list hq;have hlen:its.length=ns.length:=by rw[<- rv.length];simp
 refine PyProof.Rows.sorted_ints pl.isList (intsAre_of rv) xwl λout ns' a1 a2 a3=>?_;have e:ns'=zaR ns:=W.lks_uniq (a2.trans (zaI ns).symm) a3 (zcn ns);subst e;obtain ⟨c,hc⟩:=PyProof.Rows.sortedAll_at s.heap its out;refine ⟨.ref (s.heap.objs.size+1),_,I.laid (t':=s.toks) (λb o=>PyProof.Rows.sortedAll_old) (Nat.le_succ _) (o:=.lst ((zaR ns).map V.int)) ⟨?_,out.toList,c,vals_ints a1,?_⟩,rfl,q _ (I.hok.fresh (Nat.le_succ _))⟩
 ·rw[List.length_map,(zaI ns).length_eq,zdd];lia
 ·simpa using hc
def zbh:List Dt->R (List Dt)
 |[.lst l]=>match zkV l with
  |some ns=>if ns.length<64 then .ok ((zaR ns).map .int) else .no
  |none=>.no
 |_=>.no
theorem zi2{K:W.Frag}{G:Hp}:∀(ns:List Int),za6 K G (ns.map .int) (ns.map V.int)
 |[]=>za6.nil
 |n::r=>za6.cons (zaG n) (zi2 r)
theorem zrY{K:W.Frag}:FnN K (λxs H Q=>∃(p:Addr)(ns:List Int),xs=[.ref p]/\SqL K H p (ns.map V.int)/\ns.length<64/\∀ l,H l=none->Q (.ref l) (upd H l (.lst ((zaR ns).map V.int)))) zbh:=λG H vs ds z Q gh hr e k=>by
 unfold zbh at e;split at e
 ·split at e
  ·rename_i ns en;split at e
   ·rename_i hl;obtain ⟨v,rfl,h1⟩:=zgh hr;obtain ⟨a,us,rfl,h2,h3⟩:=zaT h1;cases e;rw[zjT h3 en] at h2;exact ⟨a,ns,rfl,SqL.of (gh _ _ h2),hl,λl hl=>k l _ hl (zi2 _)⟩
   ·cases e
  ·cases e
 ·cases e
theorem zsz:znl zbh:=λx n h=>by
 unfold zbh at h;split at h
 ·split at h
  ·split at h <;> cases h
  ·cases h
 ·cases h
theorem zf0{x:Expr}{p:Pos}(hg:Gl X "sorted")(hm:X.mg "sorted"=none)(ha:JE X C x fa)(hs:starEach [x] X.env=(false,eval x X.env)::starEach [] X.env:=by rfl)(hpl:(backTo pos (starEach [] X.env)).any (·.1)=false:=by rfl) :
  JN X C (.Call (.Name "sorted" p) [x] [] pos) (zdL zbh (dA fa dA0)) :=
 zox zrY zsz zoW hg hm PyProof.Rows.boot_sorted (zao ha za1 hs) xwd xwd hs hpl
def zns(x:Dt):List Dt->Option Nat
 |[]=>none
 |d::r=>if eqD d x=true then some 0 else (zns x r).map (·+1)
theorem zlq{x:Dt}:∀{l:List Dt}{j:Nat},zns x l=some j->∃ h:j<l.length,eqD l[j] x=true/\∀ m (hm:m<l.length),m<j->eqD l[m] x=false
 |[],_,h=>by simp[zns] at h
 |d::r,j,h=>by
  unfold zns at h;split at h
  ·rename_i e;cases h;exact ⟨xws,e,λm _ h=>absurd h (Nat.not_lt_zero _)⟩
  ·rename_i e;cases q:zns x r with
   |none=>rw[q] at h;cases h
   |some i =>
    rw[q] at h;cases h;obtain ⟨h1,h2,h3⟩:=zlq q;refine ⟨by simpa using h1,by simpa using h2,λm hm hlt=>?_⟩;cases m with
    |zero=>simpa using e
    |succ m=>simpa using h3 m (by simpa using hm) (Nat.lt_of_succ_lt_succ hlt)
theorem zkE{pS:List (Addr×Obj)}{Y:L2.St}{H:Hp}{s:Shared}(I:L2.Inv X pS Y H s){dx:Dt}:∀{ds:List Dt}{vs:List V}{us:List Value}{i:Nat}(h1:i<ds.length)(h2:i<us.length),ds.all (okN 60)=true->za6 X.K H ds vs->zbf vs us->zkR X.K H dx us[i]=eqD ds[i] dx
 |[],_,_,_,h1,_,_,_,_=>by simp at h1
 |d::ds,vs,us,i,h1,h2,hk,h,r=>by
  obtain ⟨v,t,rfl,k1,k2⟩:=h.cons_inv;cases r with
  |cons r1 r2 =>
   simp only[List.all_cons,wae] at hk;cases i with
   |zero=>exact zmw I hk.1 k1 r1
   |succ i=>exact zkE I (i:=i) (by simpa using h1) (by simpa using h2) hk.2 k2 r2
def rIdx(K:W.Frag):V->List V->Hp->VK->Prop:=λx vs H Q=>∃ a zs dx ds j y,x=.ref a/\vs=[y]/\H a=some (.lst zs)/\za6 K H ds zs/\Rep K H dx y/\okN 60 dx=true/\ds.all (okN 60)=true/\zns dx ds=some j/\Q (.int j) H
theorem zs8(hu:X.A.units+65<cLine):MtR X "list.index" (rIdx X.K):=by
 intro pS s Y H x vs v us Q I rx rv h;obtain ⟨a,zs,dx,ds,j,y,rfl,rfl,hH,h1,h2,h3,h4,h5,q⟩:=h;cases rx;obtain ⟨u,rfl,ru⟩:=zbf.one rv;have hu1:X.A.in1.units+64<cLine:=by rw[zhL];lia
 obtain ⟨z,its,n,r,hl,e⟩:=I.lstM hH;obtain ⟨k1,k2,k3⟩:=zlq h5;have hlen:ds.length=its.length:=by rw[h1.length,r.length]
 have hj:(j:Int)<2 ^ 63-1:=by
  have:zs.length<=16777216:=by rw[<- zdd];exact z
  lia
 refine PySem.call_meets F.slot_list_index ⟨_,e,rfl⟩ F.entry_list_index (F.args_list_index_2 _ _)
  (SeqAt.list_indexAt a its.toArray n none #[] u (zkR X.K H dx) j (by rw[List.size_toArray];lia) hj ?_ ?_) ⟨e,λw hw=>zdM I hu1 h3 h2 ru h4 h1 r w (by simpa using hw),?_⟩
 ·have:=zkE I (dx:=dx) (i:=j) k1 xwl h4 h1 r;simpa [this] using k2
 ·intro m hm hlt;have hm':m<its.length:=by simpa using hm
  have:=zkE I (dx:=dx) (i:=m) xwl hm' h4 h1 r;have e3:=k3 m xwl hlt;simpa [this] using e3
 ·exact ⟨.int j,H,I.kept (t':=s.toks+1) (λ_ _ q=>q),⟨_,rfl⟩,q⟩
def zuW(fa fb:De):De:=λZ=>(fa Z).bind λa=>match a.1 with
 |.lst ds=>(fb a.2).bind λb=>if (okN 60 b.1 && ds.all (okN 60))=true then match zns b.1 ds with
   |some j=>.ok (.int j,b.2)
   |none=>.no
  else .no
 |_=>.no
theorem zt0{apos:Pos}(hu:X.A.units+65<cLine)(ha:JE X C a fa)(hb:JE X C b fb)(hbase:attributeBase a "index" X.env (eval a X.env)=eval a X.env:=by rfl)
  (hfew:((backTo pos (starEach [b] X.env)).all (λx=>!x.1) && (backToKw pos (keywordEach [] X.env)).all (λx=>x.1.isSome) && decide ([b].length+([]:List Keyword).length+(if ([]:List Keyword).isEmpty then 0 else 1)<30))=true:=by rfl)
  (hline:(apos.endLine == pos.line)=true:=by rfl) (hs:starEach [b] X.env=(false,eval b X.env)::starEach [] X.env:=by rfl) (hplain:(backTo pos (starEach [] X.env)).any (·.1)=false:=by rfl) :
  JE X C (.Call (.Attribute a "index" apos) [b] [] pos) (zuW fa fb) :=
 PE.weak (zqA PySem.F.plainAttrs_list PySem.F.slot_list_index PySem.F.type_list_index (zs8 hu) ha (zbn hb zde hs) hbase hfew hline hs hplain) λY H Q ⟨G,w,Z,r,p⟩=>by
  refine zeL (κ:=λG H w=>kE X.K C Y Q G H w) zcy r p λd Z1 v G1 H1 w1 r1 s1 q1 p1=>?_;cases d with
  |lst ds =>
   obtain ⟨ad,vs,rfl,h1,h2⟩:=zaT q1;refine ⟨.inl ⟨rfl,vs,SqL.of (r1.gh _ _ h1)⟩,?_⟩;refine zeL (κ:=λG H w=>kE X.K C Y Q G H w) zcy r1 p1 λd2 Z2 v2 G2 H2 w2 r2 s2 q2 p2=>?_;dsimp only at p2;split at p2
   ·rename_i hk;rw[Bool.and_eq_true] at hk;split at p2
    ·rename_i j ej;exact ⟨ad,vs,d2,ds,j,v2,rfl,rfl,r2.gh _ _ (s2.g _ _ h1),(h2.same s2.g).same r2.gh,q2.same r2.gh,hk.1,hk.2,ej,p2 _ G2 H2 w2 (.refl _ _ _) r2 (zaG _)⟩
    ·exact waO p2
   ·exact waO p2
  |_=>exact waO p1
end
theorem zpi:typeLookup (.type "list_reverseiterator") "__len__"=pure none:=by rw[typeLookup_type,builtinLookup_eq_fast];kernel_rfl
theorem zrO:typeLookup (.type "list_reverseiterator") "__length_hint__"=pure (some (.builtin "list_reverseiterator.__length_hint__")):=by rw[typeLookup_type,builtinLookup_eq_fast];kernel_rfl
section
variable{prog:Program}{w:World}{A:Around}{E:Value->Shared->Prop}{s:Shared}
theorem zuw{R:Result->Shared->Prop}{it l:Addr}{items:Array Value}(hh:A.handled=none)(hit:s.heap.IsRevIter it l ((items.size:Int)-1))(hl:s.heap.IsList l items)(hne:l≠it)(S:Addr)(res:Value)(c₀:Nat)(hS:s.heap.get? S=some { cls:=.type "list",data:=.seq #[] c₀ })(hSl:S≠l)
  (hn:items.size<=sizeLine)
  (hR:∀ h' tk acc' c',(∀ b o,b≠S->b≠it->s.heap.get? b=some o->h'.get? b=some o)->h'.get? S=some { cls:=.type "list",dict:=none,data:=.seq acc' c',slots:=#[] } ->
   ItemsOf (λi v=>items[items.size-1-i]? = some v) acc' items.size->R (.ok (.ret res)) { s with heap:=h',toks:=tk }) :
  wpAny (model prog w) A.in1 (Builtin.List.listExtendWith (.ref S) (.ref it) res)
   (λfin s'=>match fin with|.done f=>R (.ok f) s'|.again c'=>c'.quiet=true/\codeAny (model prog w) A c' R s') (λe s'=>R (.error e) s') s:=by
 have hSI:S≠it:=λe=>by obtain ⟨o,ho,hc,_⟩:=hit;rw[e,ho] at hS;cases hS;simp at hc
 have hSf:S∉[it,l]:=λhm=>by
  rcases wap.mp hm with z|z
  ·exact hSI z
  ·exact hSl (List.mem_singleton.mp z)
 unfold Builtin.List.listExtendWith;refine wab (wpAny_typeOf (T:="list_reverseiterator") hit.typeIs ?_);have h1:Builtin.List.listSameRef (.ref S) (.ref it)=false:=by simp[Builtin.List.listSameRef,hSI]
 have h2:(Value.type "list_reverseiterator" == Value.type "list")=false:=by decide +kernel
 have h3:(Value.type "list_reverseiterator" == Value.type "tuple")=false:=by decide +kernel
 simp only[h1,h2,h3,Bool.or_false,Bool.false_eq_true,if_false];refine wab (wpAny_pyIter_revIter hit ?_);refine wab (wpAny_holding ?_);unfold Builtin.List.listLengthHint;refine wab (wpAny_specialOf hit.typeIs zpi ?_);show wpAny _ A.in1 (specialOf (Value.ref it) (Str.ofString "__length_hint__") >>= _) _ _ _;refine wab (wpAny_specialOf hit.typeIs zrO ?_)
 wp_delta
 refine wab (wpAny_isInstance (T:="list_reverseiterator") (b:=true) hit.typeIs (by rw[isSubtype_type];kernel_rfl) ?_);refine wpAny_ite_split (λh=>absurd h xwd) (λ_=>?_);refine wpAny_ite_split (λ_=>?_) (λh=>absurd xwD h);refine wpAny_ite_split (λh=>absurd h xwD) (λ_=>wad ?_);rw[if_neg xwD];have W:=(Walks.listRev (prog:=prog) (w:=w) (A:=A.in1) hh it l hne items).toS;have hst:0<=items.size/\s.heap.IsRevIter it l ((items.size:Int)-1-((0:Nat):Int))/\s.heap.IsList l items:=⟨Nat.zero_le _,by simpa using hit,hl⟩
 refine wad ⟨plainId_quiet F.plain_extend_loop _,codeAny_extend_loopS W hn _ hSf _ items.size 0 _ _ _ rfl (Nat.zero_le _) hst hS (ItemsOf.nil _) λs' acc' c' hm hS' hacc=>?_⟩;rw[Moved.eq_with hm];refine hR s'.heap s'.toks acc' c' (λb ob hb hb2 e=>hm.heap b ob (λhmem=>?_) e) hS' hacc;rcases wap.mp hmem with e'|hmem
 ·exact hb e'
 ·exact hb2 (List.mem_singleton.mp hmem)
theorem zsJ{R:Result->Shared->Prop}{it l:Addr}{items:Array Value}(hh:A.handled=none)(hit:s.heap.IsRevIter it l ((items.size:Int)-1))(hl:s.heap.IsList l items)(hne:l≠it)(S:Addr)(hS:s.heap.get? S=some { cls:=.type "list",data:=.seq #[] })(hSl:S≠l)(hSI:S≠it)
  (hn:items.size<=sizeLine)
  (hR:∀ h' tk acc' c',(∀ b o,b≠S->b≠it->s.heap.get? b=some o->h'.get? b=some o)->h'.get? S=some { cls:=.type "list",dict:=none,data:=.seq acc' c',slots:=#[] } ->
   ItemsOf (λi v=>items[items.size-1-i]? = some v) acc' items.size->R (.ok (.ret .none)) { s with heap:=h',toks:=tk }) :
  wpAny (model prog w) A.in1 (Builtin.«list.__init__» ⟨[.ref S,.ref it],[]⟩)
   (λfin s'=>match fin with|.done f=>R (.ok f) s'|.again c'=>c'.quiet=true/\codeAny (model prog w) A c' R s') (λe s'=>R (.error e) s') s:=by
 show wpAny _ _ (do let old <- Builtin.List.listItems (.ref S);Builtin.List.listUpdate (.ref S) (λ_=>#[]);letGo old.toList.reverse;Builtin.List.listExtendWith (.ref S) (.ref it) .none) _ _ s;refine wab ?_;unfold Builtin.List.listItems;refine wab (wpAny_seqItems hS rfl (wad ?_));show wpAny _ _ (updateSeq S (λ_=>#[]) >>= λ_=>letGo (#[]:Array Value).toList.reverse >>= λ_=>Builtin.List.listExtendWith (.ref S) (.ref it) .none) _ _ s;refine wab (wpAny_updateSeq hS rfl ?_);have k2:=Heap.get?_update_self (Obj.mapSeq (λ_=>(#[]:Array Value))) hS rfl;have oth:∀ b o,b≠S->s.heap.get? b=some o->(s.heap.update S (Obj.mapSeq (λ_=>(#[]:Array Value)))).get? b=some o :=
  λb o hb e=>(Heap.get?_update_other _ _ (Ne.symm hb)).trans e
 refine wab (wpAny_letGo ?_);exact zuw hh (hit.at λo e=>oth it o (Ne.symm hSI) e) (hl.at λo e=>oth l o (Ne.symm hSl) e) hne S .none _ k2 hSl hn λh' tk acc' c' hk hS' hacc=>hR h' tk acc' c' (λb o hb hb2 e=>hk b o hb hb2 (oth b o hb e)) hS' hacc
theorem zsf{Q:Value->Shared->Prop}{it l:Addr}{items:Array Value}(hh:A.handled=none)(hit:s.heap.IsRevIter it l ((items.size:Int)-1))(hl:s.heap.IsList l items)(hne:l≠it)(hn:items.size<=sizeLine)
  (hQ:∀ h' tk acc' c',(∀ b o,b≠it->s.heap.get? b=some o->h'.get? b=some o) ->
   h'.get? s.heap.objs.size=some { cls:=.type "list",dict:=none,data:=.seq acc' c',slots:=#[] }->ItemsOf (λi v=>items[items.size-1-i]? = some v) acc' items.size->Q (.ref s.heap.objs.size) { s with heap:=h',toks:=tk }) :
  wpAny (model prog w) A (call (.type "list") [.ref it]) Q E s:=by
 refine callType_codes (Q₁:=λobj s₁=>obj=.ref s.heap.objs.size/\s₁={ s with heap:=s.heap.push { cls:=.type "list",data:=.seq #[] } }) F.called_list (F.typeCall_list_1 _) F.entry_list_init
  (code_list_new _ ⟨rfl,rfl⟩) λobj s₁ h₁=>?_
 obtain ⟨rfl,rfl⟩:=h₁;have kS:(s.heap.push { cls:=.type "list",data:=.seq #[] }).get? s.heap.objs.size=some { cls:=.type "list",data:=.seq #[] }:=waj _ rfl;have lt1:l≠s.heap.objs.size:=by obtain ⟨o,e,_⟩:=hl;exact waM (wai e)
 have lt2:it≠s.heap.objs.size:=by obtain ⟨o,e,_⟩:=hit;exact waM (wai e)
 refine ⟨⟨_,kS,rfl⟩,F.args_list_init_2 _ _,zsJ (A:=A.in1) hh (hit.at λo e=>waa _ e) (hl.at λo e=>waa _ e) hne _ kS (Ne.symm lt1) (Ne.symm lt2) hn λh' tk acc' c' hk hS' hacc=>?_⟩;exact ⟨rfl,hQ h' tk acc' c' (λb o hb e=>hk b o (waM (wai e)) hb (waa _ e)) hS' hacc⟩
end
section
variable{X:Cx}{C:Cn}{a:Expr}{fa:De}{pos:Pos}
theorem zol:bootBuiltins "reversed"=some (.type "reversed"):=by decide +kernel
theorem znD{vs:List V}{its:List Value}{acc:Array Value}(r:zbf vs its)(h:ItemsOf (λi v=>its.toArray[its.toArray.size-1-i]? = some v) acc its.toArray.size):zbf vs.reverse acc.toList:=by
 have e:acc.toList=its.reverse:=by
  apply List.ext_getElem?;intro i;have hs:acc.size=its.length:=by simpa using h.1
  by_cases hi:i<its.length
  ·have:=h.2 i acc[i] (by simp[hs,hi]);rw[List.getElem?_reverse hi];have e2:acc.toList[i]? = some acc[i]:=by simp[hs,hi]
   rw[e2];simpa using this.symm
  ·rw[List.getElem?_eq_none (by simpa [hs] using hi),List.getElem?_eq_none (by simpa using hi)]
 rw[e];exact r.reverse
theorem zre{p1 p2 pos2:Pos}(hc:X.calm=true)(hg:Gl X "list")(hm:X.mg "list"=none)(hg2:Gl X "reversed")(hm2:X.mg "reversed"=none)(ha:JE X C a fa)(hs:starEach [a] X.env=[(false,eval a X.env)]:=by rfl)
  (hs2:starEach [.Call (.Name "reversed" p2) [a] [] pos2] X.env=[(false,eval (.Call (.Name "reversed" p2) [a] [] pos2) X.env)]:=by rfl) :
  JN X C (.Call (.Name "list" p1) [.Call (.Name "reversed" p2) [a] [] pos2] [] pos) (zgj fa):=by
 intro pS s Y H Q I ⟨G,w,Z,r,p⟩;refine PyProof.Rows.Call_ (zeD I hg hm PyProof.Rows.boot_list (PyProof.Rows.callWith_type1 ?_ hs2 rfl));rw[hs2];show wpAny _ _ (spliced ((false,eval (.Call (.Name "reversed" p2) [a] [] pos2) X.env)::backTo pos (starEach [] X.env))) _ _ s;refine Calls.spliced_cons (PyProof.Rows.Call_ (zeD I hg2 hm2 zol (PyProof.Rows.callWith_type1 (thn (zao ha za1 hs pos2 pS s Y H (λvs H1=>∃(ad:Addr)(zs:List V),vs=[.ref ad]/\SqL X.K H1 ad zs/\∀ p,H1 p=none->Q (.ref p) (upd H1 p (.lst zs.reverse))) I ?_) λus s1 ⟨vs,H1,I1,r1,q1⟩=>?_) hs rfl)))
 ·refine ⟨G,w,Z,r,?_⟩;unfold zgj at p;unfold dA dA0;cases e:fa Z with
  |ok x =>
   obtain ⟨d,Z1⟩:=x;rw[e] at p;intro vs G1 H1 w1 s1 r1 q;obtain ⟨v,t,rfl,q1,q2⟩:=q.cons_inv;rw[q2.nil_inv];have p1:=zc1.step (κ:=λG H w=>kN X.K C Y Q G H w) zf4 s1 p;cases d with
   |lst ds =>
    obtain ⟨ad,zs,rfl,h1,h2⟩:=zaT q1;refine ⟨ad,zs,rfl,SqL.of (r1.gh _ _ h1),λp hp=>?_⟩;have gr:zeC G1 H1 G1 (upd H1 p (.lst zs.reverse)):=.newH r1.gh hp;exact p1 p _ G1 _ w1 gr.step (r1.grow gr) hp zat (r1.gh.free hp) (zfn r1 hp) h2.reverse
   |_=>exact waO p1
  |er n=>rw[e] at p;exact p
  |no=>rw[e] at p;exact p
 ·obtain ⟨ad,zs,rfl,hq,q⟩:=q1;obtain ⟨u,rfl,ru⟩:=zf6 r1;cases ru;obtain ⟨its,rv,pl,hz⟩:=I1.list hq;have hlen:=rv.length;refine call_reversed_list pl.isList ?_;refine Calls.spliced_nil ?_;have ne:ad≠s1.heap.objs.size:=by obtain ⟨o,n,e,_⟩:=id pl;exact waM (wai e)
  have I2:L2.Inv X pS Y H1 { s1 with heap:=s1.heap.push (revObj ad ((its.toArray.size:Int)-1)) }:=I1.kept (t':=s1.toks) λb ob q=>waa _ q;have hit:Heap.IsRevIter (s1.heap.push (revObj ad ((its.toArray.size:Int)-1))) s1.heap.objs.size ad ((its.toArray.size:Int)-1):=⟨_,waj _ rfl,rfl,rfl⟩
  have hl2:Heap.IsList (s1.heap.push (revObj ad ((its.toArray.size:Int)-1))) ad its.toArray:=pl.isList.at λo e=>waa _ e;refine zsf (s:={ s1 with heap:=s1.heap.push (revObj ad ((its.toArray.size:Int)-1)) }) (I.ok.hd hc) hit hl2 ne (by rw[List.size_toArray];lia) λh' tk acc c' hk hS hacc=>?_;have hsz:(s1.heap.push (revObj ad ((its.toArray.size:Int)-1))).objs.size=s1.heap.objs.size+1:=Heap.size_push ..;have hS':h'.get? (s1.heap.objs.size+1)=some { cls:=.type "list",dict:=none,data:=.seq acc c',slots:=#[] }:=by rw[<- hsz];exact hS
  show EP X pS Y Q (.ref (s1.heap.push (revObj ad ((its.toArray.size:Int)-1))).objs.size) _;rw[hsz];refine ⟨.ref (s1.heap.objs.size+1),_,I1.laid (h':=h') (t':=tk) (o:=.lst zs.reverse) (λb o e=>hk b o (waM (wai e)) (waa _ e)) (Nat.le_succ _) ⟨?_,acc.toList,c',znD rv hacc,by simpa using hS'⟩,rfl,q _ (I1.hok.fresh (Nat.le_succ _))⟩;rw[List.length_reverse];exact hz
end
section
variable{prog:Program}{w:World}{A:Around}{E:Value->Shared->Prop}{s:Shared}
theorem bnd:type_of% @wpAny_bind:=@wpAny_bind
theorem zn4{it t:Addr}{i:Nat}{its:Array Value}{x:Value}{Q:Value->Shared->Prop}(k1:s.heap.IsTupleIter it t i)(k2:s.heap.IsTuple t its)(kx:its[i]? = some x)
  (kQ:∀ h',h'.IsTupleIter it t (i+1)->Heap.SameBut it s.heap h'->Q x { s with heap:=h' }):wpAny (model prog w) A (Builtin.SmallTypes.nextOf (.ref it)) Q E s:=by
 obtain ⟨o,e1,e2,e3⟩:=id k1;obtain ⟨o',e4,_,n',e5⟩:=k2;unfold Builtin.SmallTypes.nextOf;refine bnd (wpAny_callSpecial?_slot (name:=Str.ofString "__next__") k1.typeIs F.slot_tuple_iterator_next (wpAny_call_entry F.slot_tuple_iterator_next k1.typeIs F.entry_tuple_iterator_next ?_ (F.args_tuple_iterator_next_1 _)));show wpAny _ _ (field (.ref it) 0 >>= _) _ _ _;refine bnd (wpAny_field e1 e3 (x:=.ref t) rfl ?_);show wpAny _ _ (if (Value.ref t == Value.none)=true then _ else _) _ _ _;have nn:¬ ((Value.ref t == Value.none)=true):=Bool.false_ne_true;rw[if_neg nn];show wpAny _ _ (field (.ref it) 1 >>= _) _ _ _;refine bnd (wpAny_field e1 e3 (x:=.int i 0) rfl ?_);show wpAny _ _ (seqItems? (.ref t) >>= _) _ _ _;refine bnd (wpAny_seqItems e4 e5 ?_);simp only[Int.toNat_natCast,kx];refine bnd (wpAny_setField e1 e3 xws (wad ⟨x,rfl,wad (kQ _ ⟨_,Heap.get?_update_self _ e1 (Obj.isFreed_of_fields (Obj.data_mapFields e3 _)),(Obj.cls_mapFields ..).trans e2,?_⟩ (Heap.SameBut.update ..))⟩));rw[Obj.data_mapFields e3];simp[rawInt]
theorem zu7{it t:Addr}{i:Nat}{its:Array Value}{Q:Value->Shared->Prop}(hh:A.handled=none)(k1:s.heap.IsTupleIter it t i)(k2:s.heap.IsTuple t its)(kx:its[i]? = none)
  (kE:∀ h' e,Heap.ExtBut it s.heap h'->(∃ o,h'.get? e=some o/\o.cls=.type "StopIteration")->E (.ref e) { s with heap:=h' }):wpAny (model prog w) A (Builtin.SmallTypes.nextOf (.ref it)) Q E s:=by
 obtain ⟨o,e1,e2,e3⟩:=id k1;obtain ⟨o',e4,_,n',e5⟩:=k2;unfold Builtin.SmallTypes.nextOf;refine bnd (wpAny_callSpecial?_slot (name:=Str.ofString "__next__") k1.typeIs F.slot_tuple_iterator_next (wpAny_call_entry F.slot_tuple_iterator_next k1.typeIs F.entry_tuple_iterator_next ?_ (F.args_tuple_iterator_next_1 _)));show wpAny _ _ (field (.ref it) 0 >>= _) _ _ _;refine bnd (wpAny_field e1 e3 (x:=.ref t) rfl ?_);show wpAny _ _ (if (Value.ref t == Value.none)=true then _ else _) _ _ _;have nn:¬ ((Value.ref t == Value.none)=true):=Bool.false_ne_true;rw[if_neg nn];show wpAny _ _ (field (.ref it) 1 >>= _) _ _ _;refine bnd (wpAny_field e1 e3 (x:=.int i 0) rfl ?_);show wpAny _ _ (seqItems? (.ref t) >>= _) _ _ _;refine bnd (wpAny_seqItems e4 e5 ?_);simp only[Int.toNat_natCast,kx];refine bnd (wpAny_rule (wab (wpAny_setField e1 e3 xws ?_)));show wpAny _ _ (newExc (.type "StopIteration") [] >>= _) _ _ _;refine bnd ?_;simp only[newExc,newTuple];refine bnd (wpAny_newObj_type ?_ (by size_fits));refine (wab (m:=firstArgMember _ _)) (wpAny_of_eq (a:=Value.none) (by first|rfl|(simp only[firstArgMember];rfl)) ?_);refine wpAny_newObj_type ?_ (by size_fits);simp only[raiseNew];refine bnd (wpAny_handled ?_)
 first|rw[show A.in1.handled=none from hh]|rw[hh]
 refine bnd (wad (wpAny_throw ?_));exact kE _ _ (((Heap.SameBut.update ..).extBut.push _).push _) ⟨_,waj _ rfl,rfl⟩
structure Zp(h:Heap)(z TI TO i1 i2 l1 l2:Addr)(f0:Value)(k:Nat):Prop where
 z:IsZip h z TI TO f0
 ti:IsPair h TI (.ref i1) (.ref i2)
 to:∃ a b,IsPair h TO a b
 a1:h.IsTupleIter i1 l1 k
 a2:h.IsTupleIter i2 l2 k
structure ZpD(z TI TO i1 i2:Addr):Prop where
 d1:TI≠z
 d2:TO≠z
 d3:i1≠z
 d4:i2≠z
 d5:TI≠TO
 d6:TI≠i1
 d7:TI≠i2
 d8:TO≠i1
 d9:TO≠i2
 d0:i1≠i2
theorem Zp.keep{h h':Heap}{z TI TO i1 i2 l1 l2:Addr}{f0:Value}{k:Nat}(p:Zp h z TI TO i1 i2 l1 l2 f0 k)(e:∀ b∈[z,TI,TO,i1,i2],∀ o,h.get? b=some o->h'.get? b=some o):Zp h' z TI TO i1 i2 l1 l2 f0 k :=
 ⟨e z xws _ p.z,e TI xws _ p.ti,let ⟨a,b,q⟩:=p.to;⟨a,b,e TO xws _ q⟩,p.a1.at λo q=>e i1 xws o q,p.a2.at λo q=>e i2 xws o q⟩
variable{z TI TO i1 i2 l1 l2:Addr}{k:Nat}{xs ys:Array Value}
theorem zmK{x y:Value}{Q:Value->Shared->Prop}(D:ZpD z TI TO i1 i2)(p:Zp s.heap z TI TO i1 i2 l1 l2 .none k)(q1:s.heap.IsTuple l1 xs)(q2:s.heap.IsTuple l2 ys)(n1:∀ b∈[z,TI,TO,i1,i2],b≠l1)(n2:∀ b∈[z,TI,TO,i1,i2],b≠l2)
  (hx:xs[k]? = some x) (hy:ys[k]? = some y)
  (hQ:∀ h',Zp h' z TI TO i1 i2 l1 l2 (rawInt s.heap.objs.size) (k+1)->h'.get? s.heap.objs.size=some { cls:=.type "tuple",data:=.seq #[x,y] }->(∀ c o,c≠z->c≠TO->c≠i1->c≠i2->s.heap.get? c=some o->h'.get? c=some o)->Q (.ref s.heap.objs.size) { s with heap:=h' }) :
  wpAny (model prog w) A (Builtin.«zip.__next__» ⟨[.ref z],[]⟩) (λfin s'=>∃ v,fin=.done (.ret v)/\Q v s') E s:=by
 obtain ⟨pz,pti,⟨oa,ob,pto⟩,pa1,pa2⟩:=p;show wpAny _ _ (field (.ref z) 2 >>= _) _ _ _;refine bnd (wpAny_field pz rfl (x:=.bool false) rfl ?_);show wpAny _ _ (field (.ref z) 3 >>= _) _ _ _;refine bnd (wpAny_field pz rfl (x:=.ref TI) rfl ?_);refine bnd (wpAny_seqItems pti rfl ?_);show wpAny _ _ (Builtin.SmallTypes.ownedTupleIsFree (.ref z) >>= _) _ _ _;refine bnd ?_;unfold Builtin.SmallTypes.ownedTupleIsFree;refine bnd (wpAny_field pz rfl (x:=.none) rfl (wad ?_));simp only[if_true];refine bnd (wpAny_rule ?_);refine bnd (wpAny_field pz rfl (x:=.ref TO) rfl ?_);refine bnd (wpAny_setField_rec pz xws λg1 pz1 sb1=>?_);have pz1:IsZip g1 z TI TO .ellipsis:=pz1;refine bnd ?_;simp only[List.zipIdx_cons,List.zipIdx_nil,List.forIn_cons,List.forIn_nil];refine bnd (wab (wpAny_onRaise ?_));show wpAny _ _ (Builtin.SmallTypes.nextOf (.ref i1) >>= _) _ _ _;refine bnd (zn4 (pa1.extBut sb1.extBut D.d3) (q1.extBut sb1.extBut (Ne.symm (n1 z xws))) hx λg2 pa1' sb2=>wad ?_);have t2:IsPair g2 TO oa ob:=sb2.extBut _ _ D.d8 (sb1.extBut _ _ D.d2 pto);refine bnd (wpAny_seqItems t2 rfl ?_);refine bnd (wpAny_updateSeq_pair t2 λg3 t3 sb3=>?_);have t3:IsPair g3 TO x ob:=t3;refine bnd (wpAny_letGo (wad ?_));refine bnd (wab (wpAny_onRaise ?_));show wpAny _ _ (Builtin.SmallTypes.nextOf (.ref i2) >>= _) _ _ _;refine bnd (zn4 (((pa2.extBut sb1.extBut D.d4).extBut sb2.extBut D.d0.symm).extBut sb3.extBut D.d9.symm)
  (((q2.extBut sb1.extBut (Ne.symm (n2 z xws))).extBut sb2.extBut (Ne.symm (n2 i1 xws))).extBut sb3.extBut (Ne.symm (n2 TO xws))) hy λg4 pa2' sb4=>wad ?_)
 have t4:IsPair g4 TO x ob:=sb4.extBut _ _ D.d9 t3;refine bnd (wpAny_seqItems t4 rfl ?_);refine bnd (wpAny_updateSeq_pair t4 λg5 t5 sb5=>?_);have t5:IsPair g5 TO x y:=t5;refine bnd (wpAny_letGo (wad (wad ?_)));refine bnd (wpAny_seqItems t5 rfl ?_);refine bnd (wpAny_newTuple ?_);have sz:g5.objs.size=s.heap.objs.size:=by rw[sb5.1,sb4.1,sb3.1,sb2.1,sb1.1]
 have z5:IsZip g5 z TI TO .ellipsis:=sb5.extBut _ _ D.d2.symm (sb4.extBut _ _ D.d4.symm (sb3.extBut _ _ D.d2.symm (sb2.extBut _ _ D.d3.symm pz1)));have k5:∀ c o,c≠z->c≠TO->c≠i1->c≠i2->s.heap.get? c=some o->g5.get? c=some o:=λc o c1 c2 c3 c4 e =>
  sb5.extBut _ _ c2 (sb4.extBut _ _ c4 (sb3.extBut _ _ c2 (sb2.extBut _ _ c3 (sb1.extBut _ _ c1 e))))
 have p1:g5.IsTupleIter i1 l1 (k+1):=((pa1'.extBut sb3.extBut D.d8.symm).extBut sb4.extBut D.d0).extBut sb5.extBut D.d8.symm;have p2:g5.IsTupleIter i2 l2 (k+1):=pa2'.extBut sb5.extBut D.d9.symm;have ltz:z<g5.objs.size:=wai z5;show wpAny _ _ (Builtin.SmallTypes.ownedTupleHandOut (.ref z) (.ref g5.objs.size) >>= _) _ _ _;refine bnd ?_;unfold Builtin.SmallTypes.ownedTupleHandOut;have z6:IsZip (g5.push { cls:=.type "tuple",data:=.seq #[x,y] }) z TI TO .ellipsis:=waa _ z5;refine bnd (wpAny_setField_rec z6 xws λg7 z7 sb7=>?_);have z7:IsZip g7 z TI TO (rawInt g5.objs.size):=z7;refine wpAny_setField_rec z7 xws λg8 z8 sb8=>?_;have z8:IsZip g8 z TI TO (rawInt g5.objs.size):=z8;have up:∀ c o,c≠z->g5.get? c=some o->g8.get? c=some o:=λc o c1 e=>sb8.extBut _ _ c1 (sb7.extBut _ _ c1 (waa _ e));have t8:g8.get? g5.objs.size=some { cls:=.type "tuple",data:=.seq #[x,y] }:=sb8.extBut _ _ (Nat.ne_of_gt ltz) (sb7.extBut _ _ (Nat.ne_of_gt ltz) (waj _ rfl));rw[sz] at z8 t8;refine wad ⟨_,rfl,?_⟩;show Q (.ref g5.objs.size) _;rw[sz];exact hQ g8 ⟨z8,up _ _ D.d1 (k5 _ _ D.d1 D.d5 D.d6 D.d7 pti),⟨x,y,up _ _ D.d2 t5⟩,p1.at λo e=>up _ o D.d3 e,p2.at λo e=>up _ o D.d4 e⟩ t8 λc o c1 c2 c3 c4 e=>up c o c1 (k5 c o c1 c2 c3 c4 e)
theorem zoR{Q:PySem.Fin->Shared->Prop}(hh:A.handled=none)(D:ZpD z TI TO i1 i2)(p:Zp s.heap z TI TO i1 i2 l1 l2 .none k)(q1:s.heap.IsTuple l1 xs)(n1:∀ b∈[z,TI,TO,i1,i2],b≠l1)
  (hx:xs[k]? = none)
  (hE:∀ h' e,(∀ c o,c≠z->c≠TO->c≠i1->c≠i2->s.heap.get? c=some o->h'.get? c=some o)->(∃ o,h'.get? e=some o/\o.cls=.type "StopIteration")->E (.ref e) { s with heap:=h' }) :
  wpAny (model prog w) A (Builtin.«zip.__next__» ⟨[.ref z],[]⟩) Q E s:=by
 obtain ⟨pz,pti,⟨oa,ob,pto⟩,pa1,pa2⟩:=p;show wpAny _ _ (field (.ref z) 2 >>= _) _ _ _;refine bnd (wpAny_field pz rfl (x:=.bool false) rfl ?_);show wpAny _ _ (field (.ref z) 3 >>= _) _ _ _;refine bnd (wpAny_field pz rfl (x:=.ref TI) rfl ?_);refine bnd (wpAny_seqItems pti rfl ?_);show wpAny _ _ (Builtin.SmallTypes.ownedTupleIsFree (.ref z) >>= _) _ _ _;refine bnd ?_;unfold Builtin.SmallTypes.ownedTupleIsFree;refine bnd (wpAny_field pz rfl (x:=.none) rfl (wad ?_));simp only[if_true];refine bnd (wpAny_rule ?_);refine bnd (wpAny_field pz rfl (x:=.ref TO) rfl ?_);refine bnd (wpAny_setField_rec pz xws λg1 pz1 sb1=>?_);have pz1:IsZip g1 z TI TO .ellipsis:=pz1;refine bnd ?_;simp only[List.zipIdx_cons,List.zipIdx_nil,List.forIn_cons,List.forIn_nil];refine bnd (wab (wpAny_onRaise ?_));show wpAny _ _ (Builtin.SmallTypes.nextOf (.ref i1) >>= _) _ _ _;refine bnd (zu7 hh (pa1.extBut sb1.extBut D.d3) (q1.extBut sb1.extBut (Ne.symm (n1 z xws))) hx λg2 e sb2 he=>?_);obtain ⟨oe,e1,e2⟩:=he;have z2:IsZip g2 z TI TO .ellipsis:=sb2 _ _ D.d3.symm pz1;have ez:e≠z:=λq=>by subst q;rw[z2] at e1;cases e1;simp at e2
 exact wpAny_setField_rec z2 xws λg3 _ sb3=>hE g3 e (λc o c1 _ c3 _ q=>sb3.extBut _ _ c1 (sb2 _ _ c3 (sb1.extBut _ _ c1 q))) ⟨oe,sb3.extBut _ _ ez e1,e2⟩
end
section
variable{X:Cx}{pS:List (Addr×Obj)}{Y:L2.St}{H:Hp}{s:Shared}
theorem zuR{a b:Addr}{xs:List V}(I:L2.Inv X pS Y H s)(hf:zfA X pS H b)(hs:SqT X.K H a xs):b≠a:=by
 rintro rfl;rcases hs with (h|⟨o,h⟩)|⟨o,its,n,h,_⟩
 ·rw[hf.1] at h;cases h
 ·rw[hf.1] at h;cases h
 ·have hb:=I.mod.kin b o h;rcases hf.2.2.2.1 with z|z
  ·exact I.ok.noex b o hb z
  ·exact absurd (was (wai hb) (waN I.ok.bsz z)) (waL _)
theorem zfL{fp:List Addr}{h':Heap}{o:HO}{a:Addr}{t':Nat}(I:L2.Inv X pS Y H s)(hf:∀ b∈fp,zfA X pS H b)(k:∀ b ob,b∉fp->s.heap.get? b=some ob->h'.get? b=some ob)(hp:s.heap.objs.size<=a)(ht:∀ b ob,s.heap.get? b=some ob->∃ ob',h'.get? b=some ob')
  (new:zdP X.prog X.w (upd H a o) h' a o):L2.Inv X pS Y (upd H a o) { s with heap:=h',toks:=t' }:=by
 have hn:=I.hok.fresh hp;have nf:∀ b u,H b=some u->b∉fp:=λb u e z=>by rw[(hf b z).1] at e;cases e
 refine I.call (g':=s.gens) (d':=s.drawn) (ch:=fp) ⟨λb u q _ _ hx=>k b u hx q,λb u q _ _ hx=>⟨u.slots,k b u hx q⟩,λb u q n _=>?_,λb u q hx=>⟨u,k b u hx q⟩,λb xs q=>?_,λb u xs q=>?_,λb ps q=>⟨#[],?_⟩⟩ (λb u e=>?_) I.bare
  λb hb=>⟨(hf b hb).2.2.2.1,(hf b hb).2.1,(hf b hb).2.2.2.2.1,(hf b hb).2.2.2.2.2⟩
 ·rw[zau (Nat.ne_of_lt (Nat.lt_of_lt_of_le (Heap.lt_size q) hp))];exact n
 ·rw[zau (zav q hn)];exact q
 ·rw[zau (zav q hn)];exact q
 ·rw[zau (zav q hn),q];simp
 ·by_cases hb:b=a
  ·subst hb;rw[zat] at e;cases e;exact new
  ·rw[zau hb] at e;refine (I.hok b u e).stay (λc v hc q=>k c v ?_ q) (λc q=>by rw[zau (zav q hn)];exact q) λc xs q=>by rw[zau (zav q hn)];exact q
   rcases hc with z|z
   ·rw[z];exact nf b u e
   ·exact nf c _ z
theorem zey{fp:List Addr}{h':Heap}{t':Nat}(I:L2.Inv X pS Y H s)(hf:∀ b∈fp,zfA X pS H b)(k:∀ b ob,b∉fp->s.heap.get? b=some ob->h'.get? b=some ob):L2.Inv X pS Y H { s with heap:=h',toks:=t' }:=by
 have nf:∀ b u,H b=some u->b∉fp:=λb u e z=>by rw[(hf b z).1] at e;cases e
 refine I.call (g':=s.gens) (d':=s.drawn) (ch:=fp) ⟨λb u q _ _ hx=>k b u hx q,λb u q _ _ hx=>⟨u.slots,k b u hx q⟩,λb u q n _=>n,λb u q hx=>⟨u,k b u hx q⟩,λb xs q=>q,λb u xs q=>q,λb ps q=>⟨#[],by rw[q];simp⟩⟩ (λb u e=>?_) I.bare
  λb hb=>⟨(hf b hb).2.2.2.1,(hf b hb).2.1,(hf b hb).2.2.2.2.1,(hf b hb).2.2.2.2.2⟩
 refine (I.hok b u e).stay (λc v hc q=>k c v ?_ q) (λ_ q=>q) λ_ _ q=>q;rcases hc with z|z
 ·rw[z];exact nf b u e
 ·exact nf c _ z
end
def Itz(K:W.Frag)(a b:Addr):It :=
 ⟨λi H=>∃ xs ys x y,SqT K H a xs/\SqT K H b ys/\xs[i]? = some x/\ys[i]? = some y,
   λi H v H'=>∃ p x y,v=.ref p/\H p=none/\H'=upd H p (.tup [x,y])/\(∀ xs,SqT K H a xs->xs[i]? = some x)/\∀ ys,SqT K H b ys->ys[i]? = some y,
   λi H=>∃ xs,SqT K H a xs/\xs.length<=i⟩
theorem zrE{P:Program}{w:World}{K:W.Frag}{elts:List Expr}{x1}{ps:Pos}{a b z TI TO i1 i2:Addr}(D:ZpD z TI TO i1 i2):zqo P w K (.Tuple elts x1 ps) (Itz K a b) [z,TI,TO,i1,i2] z (λi h=>Zp h z TI TO i1 i2 a b .none i) where
 mem:=by simp
 obj:=λi h st c hc=>by
  obtain ⟨s1,s2,⟨oa,ob,s3⟩,⟨o4,s4,_,d4⟩,⟨o5,s5,_,d5⟩⟩:=st;simp only[wap,wak,or_false] at hc;rcases hc with rfl|rfl|rfl|rfl|rfl
  ·exact ⟨_,s1,λv q=>by cases q⟩
  ·exact ⟨_,s2,λv q=>by cases q⟩
  ·exact ⟨_,s3,λv q=>by cases q⟩
  ·exact ⟨_,s4,λv q=>by rw[d4] at q;cases q⟩
  ·exact ⟨_,s5,λv q=>by rw[d5] at q;cases q⟩
 keep:=λi h h' st k=>st.keep k
 item:=by
  intro X hP hw hK hc i pS s Y H E I hf st hg;subst hP hw hK;obtain ⟨xs,ys,x,y,q1,q2,hx,hy⟩:=hg;obtain ⟨its,rv,p,hz⟩:=I.tuple q1;obtain ⟨jts,rw',p',hz'⟩:=I.tuple q2;obtain ⟨u,hu,ru⟩:=rv.get hx;obtain ⟨v,hv,rv'⟩:=rw'.get hy;have hT:s.TypeIs (.ref z) "zip":=⟨_,st.z,rfl⟩
  unfold pyNext;refine wab (wpAny_attempt (wpAny_callSpecial?_slot (name:=Str.ofString "__next__") hT F.slot_zip_next (wpAny_call_entry F.slot_zip_next hT F.entry_zip_next
   (zmK (l1:=a) (l2:=b) (k:=i) (x:=u) (y:=v) D st (show s.heap.IsTuple a its.toArray from p) (show s.heap.IsTuple b jts.toArray from p') (λc hc=>zuR I (hf c hc) q1) (λc hc=>zuR I (hf c hc) q2) (by simpa using hu) (by simpa using hv) λh' st' ht hk=>wad ?_) (F.args_zip_next_1 _))))
  refine ⟨_,rfl,wpAny_letOwnedTupleGo_zip st'.z λh2 hz2 sb=>?_⟩;have hzp:∀ c∈[z,TI,TO,i1,i2],c≠s.heap.objs.size:=λc hc q=>by
   obtain ⟨s1,s2,⟨oa,ob,s3⟩,⟨o4,s4,_⟩,⟨o5,s5,_⟩⟩:=st;simp only[wap,wak,or_false] at hc;subst q;rcases hc with rfl|rfl|rfl|rfl|rfl
   ·exact absurd (wai s1) (waL _)
   ·exact absurd (wai s2) (waL _)
   ·exact absurd (wai s3) (waL _)
   ·exact absurd (wai s4) (waL _)
   ·exact absurd (wai s5) (waL _)
  have st2:Zp h2 z TI TO i1 i2 a b .none (i+1):=by refine ⟨hz2,sb.extBut _ _ D.d1 st'.ti,?_,st'.a1.extBut sb.extBut D.d3,st'.a2.extBut sb.extBut D.d4⟩;obtain ⟨oa,ob,q⟩:=st'.to;exact ⟨oa,ob,sb.extBut _ _ D.d2 q⟩
  have hk2:∀ c ob,c∉[z,TI,TO,i1,i2]->s.heap.get? c=some ob->h2.get? c=some ob:=λc ob nc e=>by simp only[wap,wak,or_false,not_or] at nc;exact sb.extBut _ _ nc.1 (hk c ob nc.1 nc.2.2.1 nc.2.2.2.1 nc.2.2.2.2 e)
  have hth:∀ c ob,s.heap.get? c=some ob->∃ ob',h2.get? c=some ob':=λc ob e=>by
   by_cases nc:c∈[z,TI,TO,i1,i2]
   ·obtain ⟨s1,s2,⟨oa,ob,s3⟩,⟨o4,s4,_⟩,⟨o5,s5,_⟩⟩:=st2;simp only[wap,wak,or_false] at nc;rcases nc with rfl|rfl|rfl|rfl|rfl
    ·exact ⟨_,s1⟩
    ·exact ⟨_,s2⟩
    ·exact ⟨_,s3⟩
    ·exact ⟨_,s4⟩
    ·exact ⟨_,s5⟩
   ·exact ⟨ob,hk2 c ob nc e⟩
  have hnew:h2.get? s.heap.objs.size=some { cls:=.type "tuple",data:=.seq #[u,v] }:=sb.extBut _ _ (Ne.symm (hzp z xws)) ht;have IN:L2.Inv X pS Y (upd H s.heap.objs.size (.tup [x,y])) { s with heap:=h2 }:=zfL (s:=s) (t':=s.toks) (o:=.tup [x,y]) I hf hk2 (wal _) hth ⟨by show 2<=sizeLine;decide,[u,v],.cons ru (.cons rv' .nil),0,hnew⟩;exact ⟨.ref s.heap.objs.size,_,IN,rfl,
   ⟨_,x,y,rfl,I.hok.fresh (wal _),rfl,λzs q=>by rw[I.tuple_inj q q1];exact hx,λzs q=>by rw[I.tuple_inj q q2];exact hy⟩,st2,λc hc=>by rw[zau (hzp c hc)];exact (hf c hc).1⟩
 done:=by
  intro X hP hw hK hc i pS s Y H E I hf st hg;subst hP hw hK;obtain ⟨xs,q1,hx⟩:=hg;obtain ⟨its,rv,p,hz⟩:=I.tuple q1;have hl:=rv.length;have hT:s.TypeIs (.ref z) "zip":=⟨_,st.z,rfl⟩
  unfold pyNext;refine wab (wpAny_attempt (wpAny_callSpecial?_slot (name:=Str.ofString "__next__") hT F.slot_zip_next (wpAny_call_entry F.slot_zip_next hT F.entry_zip_next
   (zoR (l1:=a) (l2:=b) (k:=i) (xs:=its.toArray) (I.ok.hd hc) D st (show s.heap.IsTuple a its.toArray from p) (λc hc=>zuR I (hf c hc) q1) (by simp;lia) λh' e hk he=>?_) (F.args_zip_next_1 _))))
  obtain ⟨o,ho,hcl⟩:=he;refine wab (wpAny_isInstance (T:="StopIteration") (b:=true) ⟨o,ho,hcl⟩ isSubtype_stop (wad ⟨rfl,?_⟩));refine zey (t':=s.toks) I hf λc ob nc e=>?_;simp only[wap,wak,or_false,not_or] at nc;exact hk c ob nc.1 nc.2.2.1 nc.2.2.2.1 nc.2.2.2.2 e
 self:=λ_ _ _ _ _ st h=>wpAny_pyIter_zip st.z h
section
variable{prog:Program}{w:World}{A:Around}{E:Value->Shared->Prop}{s:Shared}
abbrev zt1(h:Heap)(a:Addr):Heap:=h.push { cls:=.type "tuple_iterator",data:=.fields #[.ref a,.int 0 0] }
abbrev zt2(h:Heap)(a b:Addr):Heap:=(zt1 h a).push { cls:=.type "tuple_iterator",data:=.fields #[.ref b,.int 0 0] }
abbrev zt3(h:Heap)(a b:Addr):Heap:=(zt2 h a b).push { cls:=.type "tuple",data:=.seq #[.ref h.objs.size,.ref (zt1 h a).objs.size] }
abbrev zt4(h:Heap)(a b:Addr):Heap:=(zt3 h a b).push { cls:=.type "tuple",data:=.seq #[.none,.none] }
abbrev zt5(h:Heap)(a b:Addr):Heap:=(zt4 h a b).push { cls:=.type "zip",data:=.fields #[.none,.bool false,.bool false,.ref (zt2 h a b).objs.size,.ref (zt3 h a b).objs.size] }
theorem zwK(a b:Addr)(xs ys:Array Value):Meets (Builtin.«zip.__new__» ⟨[.type "zip",.ref a,.ref b],[]⟩) (λ_ R s=>s.heap.IsTuple a xs/\s.heap.IsTuple b ys/\R (.ok (.ret (.ref (zt4 s.heap a b).objs.size))) { s with heap:=zt5 s.heap a b }) :=
 .of_wp λprog w A R s h=>by
  obtain ⟨hp,g,d,tk,os⟩:=s;obtain ⟨k1,k2,h⟩:=h;have hsub:=sub_zip;have t1:Heap.IsTuple (Shared.heap ⟨hp,g,d,tk,os⟩) a xs:=k1;have t2:Heap.IsTuple (Shared.heap ⟨hp.push { cls:=.type "tuple_iterator",data:=.fields #[.ref a,.int 0 0] },g,d,tk,os⟩) b ys:=Heap.IsTuple.push k2 _
  wp_walk using wpAny_pyIter_tuple t1,wpAny_pyIter_tuple t2
  exact ⟨_,rfl,h⟩
theorem zv6{a b:Addr}{xs ys:Array Value}{Q:Value->Shared->Prop}(k1:s.heap.IsTuple a xs)(k2:s.heap.IsTuple b ys)
  (h:∀ h',Zp h' (s.heap.objs.size+4) (s.heap.objs.size+2) (s.heap.objs.size+3) s.heap.objs.size (s.heap.objs.size+1) a b .none 0->(∀ c o,s.heap.get? c=some o->h'.get? c=some o)->Q (.ref (s.heap.objs.size+4)) { s with heap:=h' }) :
  wpAny (model prog w) A (call (.type "zip") [.ref a,.ref b]) Q E s:=by
 refine callType_new F.called_zip xwd (F.typeCall_zip_2 _ _) (F.newCall_zip_2 _ _) (λobj=>F.args_object_init_3 obj _ _) F.entry_zip_new (zwK a b xs ys) ⟨k1,k2,?_⟩;have e1:(zt1 s.heap a).objs.size=s.heap.objs.size+1:=Heap.size_push ..;have e2:(zt2 s.heap a b).objs.size=s.heap.objs.size+2:=by rw[Heap.size_push,e1]
 have e3:(zt3 s.heap a b).objs.size=s.heap.objs.size+3:=by rw[Heap.size_push,e2]
 have e4:(zt4 s.heap a b).objs.size=s.heap.objs.size+4:=by rw[Heap.size_push,e3]
 have g5:(zt5 s.heap a b).get? (zt4 s.heap a b).objs.size=some _:=waj _ rfl;have g4:(zt5 s.heap a b).get? (zt3 s.heap a b).objs.size=some _:=waa _ (waj _ rfl);have g3:(zt5 s.heap a b).get? (zt2 s.heap a b).objs.size=some _:=waa _ (waa _ (waj _ rfl));have g2:(zt5 s.heap a b).get? (zt1 s.heap a).objs.size=some _:=waa _ (waa _ (waa _ (waj _ rfl)));have g1:(zt5 s.heap a b).get? s.heap.objs.size=some _:=waa _ (waa _ (waa _ (waa _ (waj _ rfl))));show _/\_;rw[e2,e3,e4] at g5;rw[e1,e2] at g3;rw[e3] at g4;rw[e1] at g2;rw[e4];exact ⟨⟨_,g5,rfl⟩,h _ ⟨g5,g3,⟨_,_,g4⟩,⟨_,g1,rfl,rfl⟩,⟨_,g2,rfl,rfl⟩⟩ λc o q=>waa _ (waa _ (waa _ (waa _ (waa _ q))))⟩
end
theorem zxn(n:Nat):ZpD (n+4) (n+2) (n+3) n (n+1):=by constructor <;> (intro h;have h:(_:Nat)=(_:Nat):=h;lia)
theorem zwe{K:W.Frag}{G:Hp}{a b:Addr}{vs us:List V}{ds es:List Dt}(hs:SqT K G a vs)(ht:SqT K G b us)(q:za6 K G ds vs)(q':za6 K G es us)(hl:ds.length=es.length):zo4 K (Itz K a b) G ((ds.zip es).map λz=>.tup [z.1,z.2]):=λi G1 H s1 s2=>by
 have h1:=zaO s2 (zaO s1 hs);have h2:=zaO s2 (zaO s1 ht);refine ⟨λd e=>?_,λh=>⟨vs,h1,?_⟩⟩
 ·rw[List.getElem?_map] at e;have hi:i<ds.length:=by
   by_cases hi:i<ds.length
   ·exact hi
   ·rw[List.getElem?_eq_none (by rw[List.length_zip];lia)] at e;cases e
  have z1:ds[i]? = some ds[i]:=by simp[hi]
  have z2:es[i]? = some (es[i]'xwl):=by simp[show i<es.length by lia]
  obtain ⟨v,e1,e2⟩:=q.get z1;obtain ⟨u,e3,e4⟩:=q'.get z2;have ed:d=.tup [ds[i],es[i]'xwl]:=by rw[(List.getElem?_zip_eq_some (z:=(ds[i],es[i]'xwl))).mpr ⟨z1,z2⟩] at e;exact (waA e).symm
  refine ⟨⟨vs,us,v,u,h1,h2,e1,e3⟩,λx H' y=>?_⟩;obtain ⟨p,x',y',rfl,hp,rfl,k1,k2⟩:=y;have kx:=k1 vs h1;have ky:=k2 us h2;rw[e1] at kx;rw[e3] at ky;cases kx;cases ky;have gr:zeC G1 H (upd G1 p (.tup [v,u])) (upd H p (.tup [v,u])):=.new s2 hp;refine ⟨_,gr,?_⟩;rw[ed];unfold Rep;exact ⟨p,[v,u],rfl,zku.of zat,za6.cons ((e2.same s1).same gr.g) (za6.cons ((e4.same s1).same gr.g) za6.nil)⟩
 ·rw[<- q.length];simpa [hl] using h
section
variable{X:Cx}{C:Cn}{elts:List Expr}{x1:Nat}{pt:Pos}{a b:Expr}{fa fb:De}{p pos:Pos}
end
def zpa{α:Type}(p:Int×α):List (Int×α)->List (Int×α)
 |[]=>[p]
 |q::r=>if p.1<=q.1 then p::q::r else q::zpa p r
def zgM{α:Type}:List (Int×α)->List (Int×α)
 |[]=>[]
 |p::r=>zpa p (zgM r)
theorem zix{α:Type}(p:Int×α):∀ l:List (Int×α),(zpa p l).Perm (p::l)
 |[]=>.refl _
 |q::r=>by
  unfold zpa;split
  ·exact .refl _
  ·exact ((zix p r).cons q).trans (.swap p q r)
theorem zbL{α:Type}:∀ l:List (Int×α),(zgM l).Perm l
 |[]=>.refl _
 |p::r=>(zix p _).trans ((zbL r).cons p)
theorem znv{α:Type}(p:Int×α):∀ l:List (Int×α),l.Pairwise (λa b=>a.1<=b.1)->(zpa p l).Pairwise (λa b=>a.1<=b.1)
 |[],_=>by simp[zpa]
 |q::r,h=>by
  unfold zpa;rw[List.pairwise_cons] at h;split
  ·rename_i z;refine List.pairwise_cons.mpr ⟨λx hx=>?_,List.pairwise_cons.mpr h⟩;rcases wap.mp hx with rfl|hx
   ·exact z
   ·exact Int.le_trans z (h.1 x hx)
  ·rename_i z;refine List.pairwise_cons.mpr ⟨λx hx=>?_,znv p r h.2⟩;rcases wap.mp ((zix p r).mem_iff.mp hx) with rfl|hx
   ·lia
   ·exact h.1 x hx
theorem zeO{α:Type}:∀ l:List (Int×α),(zgM l).Pairwise (λa b=>a.1<=b.1)
 |[]=>.nil
 |p::r=>znv p _ (zeO r)
theorem zuv{α:Type}:∀{a b:List (Int×α)},a.Perm b->(a.map (·.1)).Nodup->a.Pairwise (λx y=>x.1<=y.1)->b.Pairwise (λx y=>x.1<=y.1)->a=b
 |[],b,p,_,_,_=>p.nil_eq
 |x::r,b,p,hn,ha,hb=>by
  cases b with
  |nil=>exact absurd p.length_eq xws
  |cons y t =>
   have hx:x∈y::t:=p.mem_iff.mp (.head _);have hy:y∈x::r:=p.mem_iff.mpr (.head _);rw[List.map_cons,List.nodup_cons] at hn;have e:x=y:=by
    rcases wap.mp hy with h'|h'
    ·exact h'.symm
    ·rcases wap.mp hx with h|h
     ·exact h
     ·have a1:=(List.pairwise_cons.mp ha).1 y h';have a2:=(List.pairwise_cons.mp hb).1 x h;have e1:x.1=y.1:=by lia
      exact absurd (List.mem_map.mpr ⟨y,h',e1.symm⟩) hn.1
   subst e;rw[zuv (List.Perm.cons_inv p) hn.2 (List.pairwise_cons.mp ha).2 (List.pairwise_cons.mp hb).2]
def byK{α:Type}(ks:List Int)(l:List α):List α:=(zgM (ks.zip l)).map (·.2)
theorem zl2{α β:Type}{F:α->β->Prop}{p:Int×α}{q:Int×β}(hp:p.1=q.1/\F p.2 q.2):∀{l:List (Int×α)}{r:List (Int×β)},Paired (λx y=>x.1=y.1/\F x.2 y.2) l r->Paired (λx y=>x.1=y.1/\F x.2 y.2) (zpa p l) (zpa q r)
 |_,_,.nil=>.cons hp .nil
 |x::l,y::r,.cons h t=>by
  unfold zpa;rw[hp.1,h.1];split
  ·exact .cons hp (.cons h t)
  ·exact .cons h (zl2 hp t)
theorem zjF{α β:Type}{F:α->β->Prop}:∀{l:List (Int×α)}{r:List (Int×β)},Paired (λx y=>x.1=y.1/\F x.2 y.2) l r->Paired (λx y=>x.1=y.1/\F x.2 y.2) (zgM l) (zgM r)
 |_,_,.nil=>.nil
 |_,_,.cons h t=>zl2 h (zjF t)
theorem znz{α β:Type}{F:α->β->Prop}:∀(ks:List Int){l:List α}{r:List β},Paired F l r->Paired (λx y=>x.1=y.1/\F x.2 y.2) (ks.zip l) (ks.zip r)
 |[],_,_,_=>by simpa using Paired.nil
 |k::ks,_,_,.nil=>by simpa using Paired.nil
 |k::ks,_,_,.cons h t=>.cons ⟨rfl,h⟩ (znz ks t)
theorem znE{α β:Type}{F:α->β->Prop}:∀{l:List (Int×α)}{r:List (Int×β)},Paired (λx y=>x.1=y.1/\F x.2 y.2) l r->Paired F (l.map (·.2)) (r.map (·.2))
 |_,_,.nil=>.nil
 |_,_,.cons h t=>.cons h.2 (znE t)
theorem zor{α β:Type}{F:α->β->Prop}(ks:List Int){l:List α}{r:List β}(h:Paired F l r):Paired F (byK ks l) (byK ks r):=znE (zjF (znz ks h))
theorem zes{K:W.Frag}{G:Hp}:∀{ds:List Dt}{vs:List V},za6 K G ds vs ↔ Paired (Rep K G) ds vs
 |[],vs=>⟨λh=>by rw[h.nil_inv];exact .nil,λh=>by cases h;exact za6.nil⟩
 |d::ds,vs=>⟨λh=>by
   obtain ⟨v,r,rfl,h1,h2⟩:=h.cons_inv;exact .cons h1 (zes.mp h2),λh=>by
   cases h with
   |cons h1 h2=>exact za6.cons h1 (zes.mpr h2)⟩
theorem zsd{K:W.Frag}{G:Hp}(ks:List Int){ds:List Dt}{vs:List V}(h:za6 K G ds vs):za6 K G (byK ks ds) (byK ks vs):=zes.mpr (zor ks (zes.mp h))
theorem zvm{α:Type}{ks:List Int}{l:List α}(h:ks.length=l.length):(byK ks l).length=l.length:=by unfold byK;rw[List.length_map,(zbL _).length_eq,List.length_zip,h,Nat.min_self]
section
variable{X:Cx}{pS:List (Addr×Obj)}{Y:L2.St}{H:Hp}{s:Shared}
theorem zpA{fp:List Addr}{h':Heap}{o:HO}{a:Addr}{t':Nat}(I:L2.Inv X pS Y H s)(hf:∀ b∈fp,zfA X pS H b)(ha:a∈fp)(k:∀ b ob,b∉fp->s.heap.get? b=some ob->h'.get? b=some ob)
  (new:zdP X.prog X.w (upd H a o) h' a o):L2.Inv X pS Y (upd H a o) { s with heap:=h',toks:=t' }:=by
 have hn:=(hf a ha).1;have nf:∀ b u,H b=some u->b∉fp:=λb u e z=>by rw[(hf b z).1] at e;cases e
 refine I.call (g':=s.gens) (d':=s.drawn) (ch:=fp) ⟨λb u q _ _ hx=>k b u hx q,λb u q _ _ hx=>⟨u.slots,k b u hx q⟩,λb u q n hx=>?_,λb u q hx=>⟨u,k b u hx q⟩,λb xs q=>?_,λb u xs q=>?_,λb ps q=>⟨#[],?_⟩⟩ (λb u e=>?_) I.bare
  λb hb=>⟨(hf b hb).2.2.2.1,(hf b hb).2.1,(hf b hb).2.2.2.2.1,(hf b hb).2.2.2.2.2⟩
 ·rw[zau (show b≠a from λz=>hx (by rw[z];exact ha))];exact n
 ·rw[zau (zav q hn)];exact q
 ·rw[zau (zav q hn)];exact q
 ·rw[zau (zav q hn),q];simp
 ·by_cases hb:b=a
  ·subst hb;rw[zat] at e;cases e;exact new
  ·rw[zau hb] at e;refine (I.hok b u e).stay (λc v hc q=>k c v ?_ q) (λc q=>by rw[zau (zav q hn)];exact q) λc xs q=>by rw[zau (zav q hn)];exact q
   rcases hc with z|z
   ·rw[z];exact nf b u e
   ·exact nf c _ z
theorem zxw{A':Around}{xe':Value->Shared->Prop}(I:L2.Inv X pS Y H s)(h1:A'.frames=X.A.frames)(h2:A'.handled=X.A.handled):L2.Inv { X with A:=A',xe:=xe' } pS Y H s :=
 ⟨⟨I.ok.mod,I.ok.kind,I.ok.glob,I.ok.blt,I.ok.above,I.ok.inj,I.ok.has,I.ok.cab,λz=>h2.trans (I.ok.hd z),h1.trans I.ok.frames,I.ok.stk,I.ok.exf,I.ok.bs,I.ok.bsz,I.ok.noex,I.ok.exfs,I.ok.funs,I.ok.frf⟩,I.os,I.bare,I.base,I.loc,I.cell,I.free,I.freeC,I.pin,I.hok,I.len⟩
theorem zvj{A':Around}{xe':Value->Shared->Prop}(I:L2.Inv { X with A:=A',xe:=xe' } pS Y H s)(h1:A'.frames=X.A.frames)(h2:A'.handled=X.A.handled):L2.Inv X pS Y H s :=
 ⟨⟨I.ok.mod,I.ok.kind,I.ok.glob,I.ok.blt,I.ok.above,I.ok.inj,I.ok.has,I.ok.cab,λz=>h2.symm.trans (I.ok.hd z),h1.symm.trans I.ok.frames,I.ok.stk,I.ok.exf,I.ok.bs,I.ok.bsz,I.ok.noex,I.ok.exfs,I.ok.funs,I.ok.frf⟩,I.os,I.bare,I.base,I.loc,I.cell,I.free,I.freeC,I.pin,I.hok,I.len⟩
end
end PV
end
section
namespace PV
open PySem PySem.Spec L2 PyProof.Rows
section
variable{X:Cx}{pS:List (Addr×Obj)}{Y:L2.St}{H:Hp}{s:Shared}
theorem zxH{kS:Addr}{o o':Obj}{zbz:List (Addr×Obj)}{h':Heap}{t':Nat}(J:L2.Inv X (pS++(kS,o)::zbz) Y H s)(hf:zfA X (pS++zbz) H kS)(hs:∀ b ob,b≠kS->s.heap.get? b=some ob->h'.get? b=some ob)(ho:h'.get? kS=some o')(hd:∀ v,o'.data≠.cell v) :
  L2.Inv X (pS++(kS,o')::zbz) Y H { s with heap:=h',toks:=t' }:=by
 have J1:L2.Inv X (pS++zbz) Y H s:=J.pins_of λp hp=>by
  refine J.pin p (waz _ ?_);rcases wax.mp hp with z|z
  ·exact waR _ z
  ·exact waz _ (wah _ z)
 have J2:L2.Inv X (pS++zbz) Y H { s with heap:=h',toks:=t' }:=zey (fp:=[kS]) J1 (λb hb=>by rw[List.mem_singleton.mp hb];exact hf) λb ob nb e=>hs b ob (λz=>nb (by simp[z])) e;refine J2.pins_of λp hp=>?_;rcases wax.mp hp with z|z
 ·exact J2.pin p (waz _ (waR _ z))
 ·rcases wap.mp z with rfl|z
  ·exact ⟨ho,hf.1,hf.2.1,hf.2.2.1,hd⟩
  ·exact J2.pin p (waz _ (waz _ z))
theorem zye{pS pins':List (Addr×Obj)}{H':Hp}{b:Addr}(h:zfA X pS H b)(hn:H' b=none)(hp:∀ p∈pins',p∈pS\/p.1≠b):zfA X pins' H' b :=
 ⟨hn,h.2.1,h.2.2.1,h.2.2.2.1,h.2.2.2.2.1,λp q=>by
  rcases wax.mp q with z|z
  ·exact h.2.2.2.2.2 p (waR _ z)
  ·rcases hp p z with y|y
   ·exact h.2.2.2.2.2 p (waz _ y)
   ·exact y⟩
variable{kS a:Addr}{kz:List Int}{vs:List Value}{xs:List V}{Θ : Hp->Prop}{e1:Nat}{A:Around}{E:Value->Shared->Prop}{P:PySem.Fin->Shared->Prop}
abbrev lo(ys:Array Value)(n:Nat):Obj:=seqObj "list" ys n
theorem zth{st:SortSt}{keys:Array Value}{e:Nat}(J:L2.Inv X (pS++(kS,lo keys e)::[(a,lo #[] e1)]) Y H s)(hka:kS≠a)(fk:zfA X pS H kS)(fa:zfA X pS H a)(hv:zbf xs vs)(hk:IntsAre keys.toList kz)(hlen:kz.length=vs.length)(h64:vs.length<64)(hnd:kz.Nodup)
  (hp:(arrOf st).Perm (keys.zip vs.toArray)) (hs:SortedTo (arrOf st) (arrOf st).size) (hfl:failedOf st=none)
  (h:∀ h' tk,L2.Inv X pS Y (upd H a (.lst (byK kz xs))) { s with heap:=h',toks:=tk }->P (.done (.ret .none)) { s with heap:=h',toks:=tk }) :
  wpAny (model X.prog X.w) A (ksk_tail a false e1 (.ref kS) st) P E s:=by
 have nk:=(J.pin (kS,lo keys e) xws).1;have na:=(J.pin (a,lo #[] e1) xws).1;have hsz:keys.size=vs.length:=by have q:=hk.length;rw[Array.length_toList] at q;lia
 have hsz2:(arrOf st).size=vs.length:=by rw[hp.size_eq,Array.size_zip,hsz,List.size_toArray,Nat.min_self]
 have s1:=Heap.SameBut.update s.heap kS (Obj.mapSeq λ_=>(#[]:Array Value));have na1:(s.heap.update kS (Obj.mapSeq λ_=>(#[]:Array Value))).get? a=some (lo #[] e1):=(s1.2 a hka.symm).trans na;have s2:=Heap.SameBut.update (s.heap.update kS (Obj.mapSeq λ_=>(#[]:Array Value))) a (Obj.mapSeq λ_=>(arrOf st).map (·.2));obtain ⟨c2,hc2⟩ : ∃ c2,((s.heap.update kS (Obj.mapSeq λ_=>(#[]:Array Value))).update a (Obj.mapSeq λ_=>(arrOf st).map (·.2))).get? a=some (lo ((arrOf st).map (·.2)) c2):=⟨_,get?_update_seq na1 λ_=>(arrOf st).map (·.2)⟩
 obtain ⟨ps,q1,q2,q3⟩:=ksk_out (b:=false) hk hp hs;have hmap:∀(l:List Int)(r:List Value),l.length=r.length->(l.zip r).map (·.1)=l:=λl r hl=>by rw[List.map_fst_zip];lia
 have eo:ps=zgM (kz.zip vs):=by refine zuv (q1.trans (zbL _).symm) ?_ (by simpa using q3) (zeO _);have z:=q1.map Prod.fst;rw[z.nodup_iff];rw[show (kz.zip vs).map Prod.fst=kz from hmap kz vs hlen];exact hnd
 have eout:((arrOf st).map (·.2)).toList=byK kz vs:=by have z:((if false=true then ((arrOf st).map (·.2)).reverse else (arrOf st).map (·.2)):Array Value).toList=ps.map Prod.snd:=q2;rw[if_neg Bool.false_ne_true] at z;rw[z,eo];rfl
 have J0:L2.Inv X pS Y H s:=J.unpinned;unfold ksk_tail
 try dsimp only
 refine wab (listUpdate_at nk rfl ?_ (by rw[hsz,sizeLine_eq];lia) (Nat.zero_le _));refine wab (wpAny_letGo (wab (seqEpoch_at na1 rfl ?_)));refine wab (listUpdate_at na1 rfl ?_ (Nat.zero_le _) (by simp only[Bool.false_eq_true,if_false,Array.size_map];rw[hsz2,sizeLine_eq];lia));rw[hfl];simp only[bne_self_eq_false,Bool.false_eq_true,if_false];refine wad (h _ s.toks (zpA (fp:=[kS,a]) (s:=s) (t':=s.toks) J0 (λb hb=>?_) xws (λb ob nb q=>?_) ⟨?_,byK kz vs,c2,zor kz hv,?_⟩))
 ·simp only[wap,wak,or_false] at hb;rcases hb with rfl|rfl
  ·exact fk
  ·exact fa
 ·simp only[wap,wak,or_false,not_or] at nb;exact (s2.2 b nb.2).trans ((s1.2 b nb.1).trans q)
 ·have hl:=hv.length;rw[zvm xwl,zdd];lia
 ·rw[<- eout,Array.toArray_toList];exact hc2
theorem zxQ{keys:Array Value}{e:Nat}(J:L2.Inv X (pS++(kS,lo keys e)::[(a,lo #[] e1)]) Y H s)(hka:kS≠a)(fk:zfA X pS H kS)(fa:zfA X pS H a)(hv:zbf xs vs)(hk:IntsAre keys.toList kz)(hlen:kz.length=vs.length)(h64:vs.length<64)(hnd:kz.Nodup)
  (h:∀ h' tk,L2.Inv X pS Y (upd H a (.lst (byK kz xs))) { s with heap:=h',toks:=tk }->P (.done (.ret .none)) { s with heap:=h',toks:=tk }) :
  wpAny (model X.prog X.w) A (ksk_end a false vs.toArray e1 (.ref kS) keys) P E s:=by
 have hsz:keys.size=vs.length:=by have q:=hk.length;rw[Array.length_toList] at q;lia
 have hzs:(keys.zip vs.toArray).size=vs.length:=by rw[Array.size_zip,hsz,List.size_toArray,Nat.min_self]
 unfold ksk_end
 try dsimp only
 simp only[Bool.false_eq_true,if_false];by_cases h2:vs.toArray.size<2
 ·rw[if_pos h2,if_pos h2];refine wab (wad ?_);rw[StateT.run_pure];refine wab (wad ?_)
  try dsimp only
  refine zth (st:=SortSt.mk' general' (keys.zip vs.toArray) #[] 7 none) J hka fk fa hv hk hlen h64 hnd (Array.Perm.refl _) (λi j hij hj=>?_) rfl h;have hj2:j<(keys.zip vs.toArray).size:=hj;rw[hzs] at hj2;rw[List.size_toArray] at h2;have:i=j:=by lia
  subst this;exact Int.le_refl _
 ·rw[if_neg h2,if_neg h2];rw[List.size_toArray] at h2;rw[ksk_kind hk (by rw[hsz];lia)];refine wab (wad (wab (wpAny_mono (wpS_sortRuns (a₀:=keys.zip vs.toArray) (st:=SortSt.mk' oneType' (keys.zip vs.toArray) #[] 7 none)
   (Q:=λ_ st'=>(arrOf st').Perm (keys.zip vs.toArray)/\failedOf st'=none/\SortedTo (arrOf st') (keys.zip vs.toArray).size)
   (ksk_intKeys hk) ⟨Array.Perm.refl _,rfl,rfl,rfl⟩ (by rw[hzs];lia) (by rw[hzs];exact h64) λst' a1 a2 a3=>⟨a1,a2,a3⟩) ?_ λ_ _ e=>e)))
  rintro ⟨⟨⟩,st'⟩ s' ⟨rfl,hp,hf,hs⟩
  try dsimp only
  exact zth J hka fk fa hv hk hlen h64 hnd hp (by rw[hp.size_eq];exact hs) hf h
theorem zx0{f:Value}(J:L2.Inv X (pS++(kS,lo #[] 0)::[(a,lo #[] e1)]) Y H s)(hka:kS≠a)(fk:zfA X pS H kS)(fa:zfA X pS H a)(hv:zbf xs vs)(hlen:kz.length=vs.length)(h64:vs.length<64)(hnd:kz.Nodup)(hθ : Θ H)
  (turn:∀(i:Nat)(u:Value)(k:Int),vs[i]? = some u->kz[i]? = some k->∀(pins':List (Addr×Obj))(s':Shared)(H':Hp),L2.Inv X pins' Y H' s'->Θ H'->wpAny (model X.prog X.w) A (call f [u]) (λr s2=>∃ t H2,r=.int k t/\L2.Inv X pins' Y H2 s2/\Θ H2) (λ_ _=>False) s')
  (h:∀ H2 s2,Θ H2->H2 a=none->L2.Inv X pS Y (upd H2 a (.lst (byK kz xs))) s2->P (.done (.ret .none)) s2) :
  wpAny (model X.prog X.w) A (ksk_rest a f false vs.toArray e1 (.ref kS)) P E s:=by
 unfold ksk_rest;refine wab (wpAny_rule ?_)
 first
  |rw[List.forIn_toArray]
  | (rw[<- Array.forIn_toList];simp only[List.toList_toArray])
 refine wab (ksk_fold (λi s'=>∃ H' kA e,Θ H'/\L2.Inv X (pS++(kS,lo kA e)::[(a,lo #[] e1)]) Y H' s'/\IntsAre kA.toList (kz.take i)) vs 0 s ⟨H,#[],0,hθ,J,by simpa using IntsAre.nil⟩ ?step ?done)
 case step =>
  rintro j x s' hx ⟨H',kA,e,hθ',J',hk⟩;simp only[Nat.zero_add] at hk ⊢;have hj:j<vs.length:=(wam.mp hx).1;obtain ⟨k,hkj⟩ : ∃ k,kz[j]? = some k:=⟨_,wac xwl⟩
  have hz:kA.size<=vs.length:=by have q:=hk.length;rw[Array.length_toList,List.length_take] at q;lia
  refine wab (wpAny_attempt (wpAny_mono (turn j x k hx hkj _ s' H' J' hθ') (λv s'' he=>?_) λ_ _ z=>z.elim));obtain ⟨t,H2,rfl,J2,hθ2⟩:=he
  try dsimp only
  have nk:=J2.pin (kS,lo kA e) xws;obtain ⟨c2,hc2⟩ : ∃ c2,(s''.heap.update kS (Obj.mapSeq (·.push (.int k t)))).get? kS=some (lo (kA.push (.int k t)) c2):=⟨_,get?_update_seq nk.1 (·.push (.int k t))⟩
  have s1:=Heap.SameBut.update s''.heap kS (Obj.mapSeq (·.push (.int k t)));refine wab (listUpdate_at nk.1 rfl ?_ (by rw[sizeLine_eq];lia) (waN (Nat.le_of_eq (Array.size_push ..)) (by rw[sizeLine_eq];lia)));refine wad ⟨rfl,H2,kA.push (.int k t),c2,hθ2,zxH (t':=s''.toks) J2 (zye fk nk.2.1 λp hp=>?_) (λb ob nb q=>(s1.2 b nb).trans q) hc2 (λv z=>by cases z),?_⟩
  ·rcases wax.mp hp with z|z
   ·exact .inl z
   ·exact .inr (by rw[List.mem_singleton.mp z];exact hka.symm)
  ·have ek:kz.take (j+1)=kz.take j++[k]:=by rw[List.take_add_one,hkj];simp
   have ea:(kA.push (Value.int k t)).toList=kA.toList++[Value.int k t]:=by simp
   rw[ea,ek];exact ksk_snoc hk
 case done =>
  rintro s' ⟨H',kA,e,hθ',J',hk⟩;have hk':IntsAre kA.toList kz:=by rw[show kz.take (0+vs.length)=kz from List.take_of_length_le xwl] at hk;exact hk
  have nk:=J'.pin (kS,lo kA e) xws;have na:=J'.pin (a,lo #[] e1) xws
  try dsimp only
  refine wab (listItems_at nk.1 rfl ?_);exact zxQ J' hka (zye fk nk.2.1 λp hp=>.inl hp) (zye fa na.2.1 λp hp=>.inl hp) hv hk' hlen h64 hnd λh' tk IN=>h H' _ hθ' na.2.1 IN
end
section
variable{X:Cx}{pS:List (Addr×Obj)}{Y:L2.St}{H:Hp}{s:Shared}
theorem zo1{l f:Addr}{xs:List V}{vs:List Value}{kz:List Int}{Θ : Hp->Prop}{Q:VK}(I:L2.Inv X pS Y H s)(hl:s.heap.IsList l vs.toArray)(hv:zbf xs vs)(hlen:kz.length=vs.length)(h64:vs.length<64)(hnd:kz.Nodup)(hθ : Θ H)
  (turn:∀(i:Nat)(u:Value)(k:Int),vs[i]? = some u->kz[i]? = some k->∀(pins':List (Addr×Obj))(s':Shared)(H':Hp),L2.Inv X pins' Y H' s'->Θ H'->wpAny (model X.prog X.w) X.A.in1.in1 (call (.ref f) [u]) (λr s2=>∃ t H2,r=.int k t/\L2.Inv X pins' Y H2 s2/\Θ H2) (λ_ _=>False) s')
  (h:∀ H2 a,Θ H2->H a=none->H2 a=none->Q (.ref a) (upd H2 a (.lst (byK kz xs)))) :
  wpAny (model X.prog X.w) X.A (call (.builtin "sorted") [.ref l] [(Str.ofString "key",.ref f)]) (EP X pS Y Q) X.xe s:=by
 refine call_function_entry_kw kind_sorted plain_sorted entry_sorted (ksk_s1 _ _) ?_;unfold Builtin.«sorted»;refine wab (m:=checkCount "sorted" 1 1 _) (wad (wab (collect_list hl ?_ (by rw[sizeLine_eq];lia))));refine wab (wpAny_newList ?_ (by rw[sizeLine_eq];lia));have z1:((s.heap.push (seqObj "list" #[] 0)).update s.heap.objs.size (Obj.mapSeq (·++vs.toArray))).objs.size=s.heap.objs.size+1:=by rw[Heap.size_update,size_push']
 have ka:(((s.heap.push (seqObj "list" #[] 0)).update s.heap.objs.size (Obj.mapSeq (·++vs.toArray))).push (seqObj "list" vs.toArray 0)).get? (s.heap.objs.size+1)=some (seqObj "list" vs.toArray 0):=by rw[<- z1];exact waj _ rfl
 have k0:∀ b o,s.heap.get? b=some o->(((s.heap.push (seqObj "list" #[] 0)).update s.heap.objs.size (Obj.mapSeq (·++vs.toArray))).push (seqObj "list" vs.toArray 0)).get? b=some o:=λb o q=>by have lt:b<s.heap.objs.size:=wai q;refine waa _ ?_;rw[Heap.get?_update_ne _ _ _ _ (Nat.ne_of_lt lt)];exact waa _ q
 generalize hg:(((s.heap.push (seqObj "list" #[] 0)).update s.heap.objs.size (Obj.mapSeq (·++vs.toArray))).push (seqObj "list" vs.toArray 0))=g0 at ka k0;have z2:g0.objs.size=s.heap.objs.size+2:=by rw[<- hg,size_push',z1]
 show wpAny _ _ _ _ _ { s with heap:=g0 };rw[z1];refine wab (wpAny_holding (wpAny_call_entry_kw slot_list_sort ⟨_,ka,rfl⟩ entry_list_sort ?body (ksk_l1 _ _)))
 case body =>
  show wpAny (model X.prog X.w) X.A.in1.in1 (Builtin.«list.sort» ⟨[.ref (s.heap.objs.size+1)],[(Str.ofString "key",.ref f)]⟩) _ _ _;rw[ksk_t1];have sb:=Heap.SameBut.update g0 (s.heap.objs.size+1) (Obj.mapSeq λ_=>(#[]:Array Value));obtain ⟨e1,ka1⟩ : ∃ e1,(g0.update (s.heap.objs.size+1) (Obj.mapSeq λ_=>(#[]:Array Value))).get? (s.heap.objs.size+1)=some (seqObj "list" #[] e1):=⟨_,get?_update_seq ka λ_=>#[]⟩
  unfold ksk_tree;refine wab (listItems_at ka rfl (wab (listUpdate_at ka rfl ?_ (by rw[List.size_toArray,sizeLine_eq];lia) (Nat.zero_le _))));refine wab (seqEpoch_at ka1 rfl (wab (wpAny_newTuple ?_ (by show vs.length<=_;rw[sizeLine_eq];lia))));refine wab (wpAny_newList ?_ (Nat.zero_le _));refine wpAny_holding ?_;have z3:((g0.update (s.heap.objs.size+1) (Obj.mapSeq λ_=>(#[]:Array Value))).push (seqObj "tuple" vs.toArray 0)).objs.size=s.heap.objs.size+3:=by rw[size_push',Heap.size_update,z2]
  have k1:∀ b o,s.heap.get? b=some o->(((g0.update (s.heap.objs.size+1) (Obj.mapSeq λ_=>(#[]:Array Value))).push (seqObj "tuple" vs.toArray 0)).push (seqObj "list" #[] 0)).get? b=some o:=λb o q =>
   waa _ (waa _ ((sb.2 b (waM (Nat.lt_succ_of_lt (wai q)))).trans (k0 b o q)))
  have ga:(((g0.update (s.heap.objs.size+1) (Obj.mapSeq λ_=>(#[]:Array Value))).push (seqObj "tuple" vs.toArray 0)).push (seqObj "list" #[] 0)).get? (s.heap.objs.size+1)=some (seqObj "list" #[] e1):=waa _ (waa _ ka1);have gk:(((g0.update (s.heap.objs.size+1) (Obj.mapSeq λ_=>(#[]:Array Value))).push (seqObj "tuple" vs.toArray 0)).push (seqObj "list" #[] 0)).get? (s.heap.objs.size+3)=some (seqObj "list" #[] 0):=by rw[<- z3];exact waj _ rfl
  show wpAny _ _ (ksk_rest (s.heap.objs.size+1) (.ref f) false vs.toArray e1 (.ref ((g0.update (s.heap.objs.size+1) (Obj.mapSeq λ_=>(#[]:Array Value))).push (seqObj "tuple" vs.toArray 0)).objs.size)) _ _ { s with heap:=((g0.update (s.heap.objs.size+1) (Obj.mapSeq λ_=>(#[]:Array Value))).push (seqObj "tuple" vs.toArray 0)).push (seqObj "list" #[] 0) };rw[z3];generalize ((g0.update (s.heap.objs.size+1) (Obj.mapSeq λ_=>(#[]:Array Value))).push (seqObj "tuple" vs.toArray 0)).push (seqObj "list" #[] 0)=g3 at k1 ga gk;have I3:L2.Inv X pS Y H { s with heap:=g3 }:=I.kept (t':=s.toks) k1;have la:s.heap.objs.size<=s.heap.objs.size+1:=waT ..;have lk:s.heap.objs.size<=s.heap.objs.size+3:=waT ..;have fa:zfA X pS H (s.heap.objs.size+1):=I.fpOk la (I.hok.fresh la);have fk:zfA X pS H (s.heap.objs.size+3):=I.fpOk lk (I.hok.fresh lk);have J:L2.Inv X (pS++(s.heap.objs.size+3,lo #[] 0)::[(s.heap.objs.size+1,lo #[] e1)]) Y H { s with heap:=g3 }:=I3.pins_of λp hp=>by
   rcases wax.mp hp with z|z
   ·exact I3.pin p (waz _ z)
   ·rcases wap.mp z with rfl|z
    ·exact ⟨gk,fk.1,fk.2.1,fk.2.2.1,λv z=>by cases z⟩
    ·rw[List.mem_singleton.mp z];exact ⟨ga,fa.1,fa.2.1,fa.2.2.1,λv z=>by cases z⟩
  refine zx0 (Θ := Θ) J (λz=>absurd (Nat.add_left_cancel z) xwd) fk fa hv hlen h64 hnd hθ turn λH2 s2 t2 n2 IN=>⟨_,rfl,?_⟩
  exact wad ⟨_,rfl,.ref (s.heap.objs.size+1),_,IN,rfl,h H2 _ t2 fa.1 n2⟩
end
def ze7(F:FD):List Dt->Option (List Int)
 |[]=>some []
 |d::r=>match F [.val d] with
  |.ok (.int k,_)=>(ze7 F r).map (k::·)
  |_=>none
theorem zjn{F:FD}:∀{ds:List Dt}{ks:List Int},ze7 F ds=some ks->ks.length=ds.length
 |[],ks,h=>by simp[ze7] at h;subst h;rfl
 |d::r,ks,h=>by
  unfold ze7 at h;split at h
  ·simp only[Option.map_eq_some_iff] at h;obtain ⟨k',h1,rfl⟩:=h;simp[zjn h1]
  ·cases h
theorem zjp{F:FD}:∀{ds:List Dt}{ks:List Int}{i:Nat}{k:Int}{d:Dt},ze7 F ds=some ks->ks[i]? = some k->ds[i]? = some d->∃ b,F [.val d]=.ok (.int k,b)
 |[],ks,i,k,d,h,e1,e2=>by simp at e2
 |d0::r,ks,i,k,d,h,e1,e2=>by
  unfold ze7 at h;split at h
  ·rename_i k0 b0 ef;simp only[Option.map_eq_some_iff] at h;obtain ⟨k',h1,rfl⟩:=h;cases i with
   |zero=>simp at e1 e2;subst e1;subst e2;exact ⟨_,ef⟩
   |succ i=>exact zjp (i:=i) h1 (by simpa using e1) (by simpa using e2)
  ·cases h
def zhM:List Int->Bool
 |[]=>true
 |a::r=>!r.contains a && zhM r
theorem zlH:∀{l:List Int},zhM l=true->l.Nodup
 |[],_=>.nil
 |a::r,h=>by unfold zhM at h;rw[Bool.and_eq_true] at h;refine List.nodup_cons.mpr ⟨λz=>?_,zlH h.2⟩;have:=h.1;simp[z] at this
def zl3(F:FD)(fa:De):DN:=λZ=>(fa Z).bind λa=>match a.1 with
 |.lst ds=>match ze7 F ds with
  |some ks=>if (decide (ds.length<64) && zhM ks)=true then .ok (byK ks ds,a.2) else .no
  |none=>.no
 |_=>.no
theorem znL{d:Dt}{bs:List B}:∀{Z:Ev}{k:Nat},ziH [.d d] bs k Z = Z
 |[],_=>rfl
 |o::r,k=>by show (match zeU [.d d] k with|some j=>bs[j]?|none=>o)::ziH [.d d] bs (k+1) r=_;rw[znL (Z:=r)];rfl
section
variable{X:Cx}{C:Cn}{CX:CXT}{k k':Nat}{Fd:FD}{x:Str}{p pf kp pos:Pos}{a:Expr}{fa:De}
theorem zsH(D:Dfn false X.prog X.w X.K X.mg X.base CX C.xv k x [false] Fd)(hr:zgm (k'+2) X.A)(hk:k<=k')(hx:zfe CX { X with A:=X.A.in1.in1,xe:=λ_ _=>False } (λ_ _ _=>False))(hg:Gl X "sorted")(hm:X.mg "sorted"=none)(ha:JE X C a fa)(hgf:Gl X x:=by rfl)(hdb:(x == ("__debug__" : Str))=false:=by decide)
  (hs:starEach [a] X.env=(false,eval a X.env)::starEach [] X.env:=by rfl) (he:backTo pos (starEach [a] X.env)=(false,eval a X.env)::backTo pos (starEach [] X.env):=by rfl) (hplain:(backTo pos (starEach [a] X.env)).any (·.1)=false:=by rfl)
  (hall:(backToKw pos (keywordEach [⟨some "key",.Name x pf,kp⟩] X.env)).all (·.1.isSome)=true:=by rfl) (hkw:(backToKw pos (keywordEach [⟨some "key",.Name x pf,kp⟩] X.env)).any (·.1.isNone)=false:=by rfl)
  (hks:(backToKw pos (keywordEach [⟨some "key",.Name x pf,kp⟩] X.env)).filterMap (·.1)=[Str.ofString "key"]:=by rfl) :
  JN X C (.Call (.Name "sorted" p) [a] [⟨some "key",.Name x pf,kp⟩] pos) (zl3 Fd fa):=by
 obtain ⟨f,fd,ps,h1,h2,h3,h4,h5⟩:=D.ex;intro pS s Y H Q I ⟨G,w,Z,r,pp⟩;refine wpAny_Call_Name_kw (zeD I hg hm boot_sorted ?_);refine callWith_kw (thn (zao ha za1 hs pos pS s Y H (λvs H1=>∃ G1 w1 ad xs ds ks Z1,vs=[.ref ad]/\zbP G H w G1 H1 w1/\Rel X.K C G1 w1 Z1 Y H1/\H1 ad=some (.lst xs)/\za6 X.K G1 ds xs/\ze7 Fd ds=some ks/\ds.length<64/\ks.Nodup/\kN X.K C Y Q G1 H1 w1 (byK ks ds,Z1)) I ?_) λus s1 ⟨vs,H1,I1,r1,q1⟩=>?_) he hplain hall hkw
 ·refine ⟨G,w,Z,r,?_⟩;unfold zl3 at pp;unfold dA dA0;cases e:fa Z with
  |ok z =>
   obtain ⟨d,Z1⟩:=z;rw[e] at pp;intro vs G1 H1 w1 s1 r1 q;obtain ⟨v,t,rfl,q1,q2⟩:=q.cons_inv;rw[q2.nil_inv];have p1:=zc1.step (κ:=λG H w=>kN X.K C Y Q G H w) zf4 s1 pp;cases d with
   |lst ds =>
    simp only[R.bind_ok] at p1;split at p1
    ·rename_i ks ek;split at p1
     ·rename_i hl;rw[Bool.and_eq_true] at hl;obtain ⟨ad,zs,rfl,m1,m2⟩:=zaT q1;exact ⟨G1,w1,ad,zs,ds,ks,Z1,rfl,s1,r1,r1.gh _ _ m1,m2,ek,of_decide_eq_true hl.1,zlH hl.2,p1⟩
     ·exact waO p1
    ·exact waO p1
   |_=>exact waO p1
  |er n=>rw[e] at pp;exact pp
  |no=>rw[e] at pp;exact pp
 ·obtain ⟨G1,w1,ad,xs,ds,ks,Z1,rfl,st1,rel1,hH,hreps,ek,hl,hnd,kk⟩:=q1;obtain ⟨u,rfl,ru⟩:=zf6 r1;cases ru;refine thn (zue (nm:=some "key") (kpos:=kp) (zrt (v:=.ref f) (pos:=pf) hgf h2 rfl hdb) zwB pos pS s1 Y H1 (λvs H2=>vs=[.ref f]/\H2=H1) I1 ⟨rfl,rfl⟩) λws s2 ⟨zs,H2,I2,r2,e2,e3⟩=>?_;subst e2;subst e3;obtain ⟨u,rfl,ru⟩:=zf6 r2;cases ru;rw[hks];show wpAny _ _ (call (.builtin "sorted") [.ref ad] [(Str.ofString "key",.ref f)]) _ _ _;obtain ⟨zz,its,n,rv,hle,eo⟩:=I2.lstM hH;have hld:=hreps.length;have hlk:=zjn ek;refine zo1 (xs:=xs) (vs:=its) (kz:=ks) (Θ := λH3=>∃ G3 w3,zbP G1 H2 w1 G3 H3 w3/\Rel X.K C G3 w3 Z1 Y H3) I2 ⟨_,eo,rfl,n,rfl⟩ rv xwl xwl hnd ⟨G1,w1,.refl _ _ _,rel1⟩ ?_ ?_
  ·intro i u kk' hu hki pins' s' H' I' ⟨G3,w3,st3,rel3⟩;have hi:i<ds.length:=by have:=(wam.mp hki).1;lia
   have hd:ds[i]? = some ds[i]:=by simp[hi]
   obtain ⟨xv,hx1,hx2⟩:=hreps.get hd;obtain ⟨u',hu1,hu2⟩:=rv.get hx1;rw[hu] at hu1;cases hu1;obtain ⟨bb,hF⟩:=zjp ek hki hd;have hx3:=hx2.same st3.g;have IA:L2.Inv { X with A:=X.A.in1.in1,xe:=λ_ _=>False } pins' Y H' s':=zxw I' rfl rfl;have hrun:=ztP (X:={ X with A:=X.A.in1.in1,xe:=λ_ _=>False }) (CX:=CX) (us:=[u]) (vs:=[xv]) (E:=λ_ _ _=>False) (Q:=λv H4=>v=.int kk'/\∃ G4 w4,zbP G1 H2 w1 G4 H4 w4/\Rel X.K C G4 w4 Z1 Y H4) h1 ((hr.in1.in1).mono hk) h4 .nil hx IA (.cons hu2 .nil) ?_
   ·refine wpAny_mono hrun (λv s4 hq=>?_) λ_ _ z=>z;obtain ⟨v4,H4,I4,rv4,e4,G4,w4,st4,rel4⟩:=hq;subst e4;obtain ⟨t,rfl⟩:=rv4;exact ⟨t,H4,rfl,zvj I4 rfl rfl,G4,w4,st4,rel4⟩
   ·rw[List.append_nil];refine ⟨G3,wIn w3 [.d ds[i]],[.val ds[i]],rfl,rfl,⟨rel3.gh,λb e=>rel3.wg b λz=>e (by unfold wIn;rw[z];rfl),λb e=>rel3.wh b λz=>e (by unfold wIn;rw[z];rfl),rfl,λj b v e1 e2=>?_⟩,?_⟩
    ·cases j with
     |zero=>simp at e1 e2;subst e1;subst e2;exact hx3
     |succ j=>simp at e1
    ·rw[hF];intro v G4 H4 w4 s4 pb q;obtain ⟨r',st'⟩:=rel3.back (as:=[.d ds[i]]) (vs:=[xv]) (bs:=[.val ds[i]]) (ks:=[false]) rfl ⟨xv,[],rfl,hx3,rfl⟩ rfl rfl s4 pb;rw[znL] at r';exact ⟨zaB (K:=X.K) (G:=G4) q,G4,_,st3.trans st',r'⟩
  ·intro H3 b ⟨G3,w3,st3,rel3⟩ hb0 hb3;have gr:zeC G3 H3 G3 (upd H3 b (.lst (byK ks xs))):=.newH rel3.gh hb3;exact kk b _ G3 _ w3 (st3.trans gr.step) (rel3.grow gr) hb0 zat (rel3.gh.free hb3) (zfn rel3 hb3) (zsd ks (hreps.same st3.g))
end
end PV
end
section
namespace PV
open PySem PySem.Spec L2
def zeG(g:DG)(ft:DT)(fe:DN):List Dt->Ev->R (List (List Dt)×Ev)
 |[],Z=>.ok ([],Z)
 |d::r,Z=>(g d Z).bind λZ1=>(ft Z1).bind λt=>if t.1=true then (fe t.2).bind λy=>(zeG g ft fe r y.2).bind λz=>.ok (y.1::z.1,z.2) else zeG g ft fe r t.2
def znS(K:W.Frag)(H0:Hp)(D:Addr)(G H:Hp)(w:Wn)(dss:List (List Dt))(as:List Addr):Prop :=
 (D::as).Nodup/\Paired (λb ds=>H0 b=none/\G b=none/\w b=none/\∃ us,H b=some (.lst us)/\za6 K G ds us) as dss
theorem znS.step{K:W.Frag}{H0 G H G' H':Hp}{w w':Wn}{D:Addr}{dss:List (List Dt)}{as:List Addr}(q:znS K H0 D G H w dss as)(s:zbP G H w G' H' w'):znS K H0 D G' H' w' dss as :=
 ⟨q.1,zfp (λb ds ⟨h1,h2,h3,us,h4,h5⟩=>by obtain ⟨k1,k2,k3⟩:=s.keep h2 h3 h4;exact ⟨h1,k1,k2,us,k3,h5.same s.g⟩) q.2⟩
theorem zgJ{α β:Type}{F:α->β->Prop}:∀{l:List α}{r:List β},Paired F l r->l.length=r.length
 |_,_,.nil=>rfl
 |_,_,.cons _ t=>by simp[zgJ t]
theorem zga{α β:Type}{F:α->β->Prop}{a:α}{b:β}(h:F a b):∀{l:List α}{r:List β},Paired F l r->Paired F (l++[a]) (r++[b])
 |_,_,.nil=>.cons h .nil
 |_,_,.cons x t=>.cons x (zga h t)
theorem znS.len{K:W.Frag}{H0 G H:Hp}{w:Wn}{D:Addr}{dss:List (List Dt)}{as:List Addr}(q:znS K H0 D G H w dss as):as.length=dss.length:=zgJ q.2
theorem znS.snoc{K:W.Frag}{H0 G H:Hp}{w:Wn}{D p:Addr}{dss:List (List Dt)}{ds:List Dt}{us:List V}{as:List Addr}(q:znS K H0 D G H w dss as)(nD:p≠D)(nA:p∉as)(h0:H0 p=none)(hg:G p=none)(hw:w p=none)(hp:H p=some (.lst us))(hr:za6 K G ds us):znS K H0 D G H w (dss++[ds]) (as++[p]):=by
 refine ⟨?_,zga ⟨h0,hg,hw,us,hp,hr⟩ q.2⟩;have h:=q.1;rw[List.nodup_cons] at h ⊢;refine ⟨λz=>?_,?_⟩
 ·rcases wax.mp z with z|z
  ·exact h.1 z
  ·exact nD (List.mem_singleton.mp z).symm
 ·rw[List.nodup_append];exact ⟨h.2,xws,λx hx y hy=>by rw[List.mem_singleton.mp hy];exact λz=>nA (z ▸ hx)⟩
theorem znS.updD{K:W.Frag}{H0 G H:Hp}{w:Wn}{D:Addr}{o:HO}{dss:List (List Dt)}{as:List Addr}(q:znS K H0 D G H w dss as):znS K H0 D G (upd H D o) w dss as :=
 ⟨q.1,zbY q.2 λb ds hb ⟨h1,h2,h3,us,h4,h5⟩=>⟨h1,h2,h3,us,by rw[zau (show b≠D from λz=>(List.nodup_cons.mp q.1).1 (by rw[<- z];exact hb))];exact h4,h5⟩⟩
section
variable{X:Cx}{C:Cn}
theorem zpj{tg iter elt:Expr}{ifs:List Expr}{scope:Scope}{pos:Pos}{N':List Str}{m:Nat}{g:DG}{ft:DT}{fe:DN}(hc:X.calm=true)(hb:zhn X.N N' scope.names m=true)
  (hkind:scope.kind=.function) (hcell:Hce scope) (hfr:∀ y∈scope.names,y.2=.free->X.env.kindOf y.1=some .cell\/X.env.kindOf y.1=some .free)
  (hblk:∀ cl L s H fp G H' w Y,JG (zf7 X N' scope cl L s H fp) (zhf C X.N.length G H' w Y) tg g/\JTs (zf7 X N' scope cl L s H fp) (zhf C X.N.length G H' w Y) ifs ft/\JN (zf7 X N' scope cl L s H fp) (zhf C X.N.length G H' w Y) elt fe)
  {pS:List (Addr×Obj)} {Y:L2.St} {s2:Shared} {cl:List (Str×Addr)} {RR:Value->Addr->Result->Shared->Prop} {E:Value->Shared->Prop}
  (hcl:∀ x c,cl.lookup x=some c->X.env.cells.lookup x=some c) (hcf:∀ y∈scope.names,y.2=.free->∃ c,cl.lookup y.1=some c)
  {it:Addr} {fp:List Addr} {tn:Nat->Heap->Prop} {J:It} {H2:Hp} (I2:L2.Inv X pS Y H2 s2) (T:zqo X.prog X.w X.K tg J fp it tn) (st2:tn 0 s2.heap) (f2:∀ b∈fp,zfA X pS H2 b)
  {ds:List Dt} {zs:List (List Dt)} {Z1 ρf:Ev} {G1:Hp} {w1:Wn} (r1:Rel X.K C G1 w1 Z1 Y H2) (it1:zo4 X.K J G1 ds) (hfi:zhg ds=true) (ec:zeG g ft fe ds (Z1++List.replicate m none)=.ok (zs,ρf))
  (fin:∀(D L:Addr)(s':Shared)(as:List Addr)(G' H':Hp)(w':Wn),L2.Inv X pS Y H' s'->zp2 X pS H' L s'->zbP G1 H2 w1 G' H' w'->Rel X.K C G' w' (ρf.take Z1.length) Y H'->H2 D=none->H' D=some (.lst (as.map V.ref))->G' D=none->w' D=none->znS X.K H2 D G' H' w' zs as->RR (.ref D) L (.ok .next) s') :
  wpAny (model X.prog X.w) X.A (newList []) (λacc s₃=>wpAny (model X.prog X.w) X.A (newFunctionEnv scope X.env.globals cl [] X.env.qual none .none (some X.env)) (λcenv s₄ =>
   codeAny (model X.prog X.w) X.A (.compStart (.ListComp elt [⟨tg,iter,ifs,0⟩] scope pos) 0 (.ref it) acc { cenv with scope:=relabel scope X.env }) (RR acc cenv.locals) s₄) E s₃) E s2:=by
 generalize hC':zhf C X.N.length G1 H2 w1 (Y++List.replicate m none)=C';have c0:C'.H₀=H2:=by rw[<- hC'];rfl
 have cG:C'.G₀=G1:=by rw[<- hC'];rfl
 have cw:C'.w₀=w1:=by rw[<- hC'];rfl
 have hlenσ:Y.length=X.N.length:=I2.len;refine zn0 (iter:=iter) (pos:=pos) (n:=ds.length) (tgt:=tG X.K C' g) (tts:=tT X.K C' ft) (te:=tN X.K C' fe) hc hb hkind hcell hfr (λL s H fp _ _ _=>by
  obtain ⟨a1,a2,a3⟩:=hblk (cellsFrom (L+1) scope.names cl) L s H fp G1 H2 w1 (Y++List.replicate m none);rw[hC'] at a1 a2 a3;exact ⟨a1,a2,a3⟩) hcl hcf I2 T st2 f2
  (λD i Y' H' vs=>∃ Z' G' w' ac as,vs=as.map V.ref/\Rel X.K C' G' w' Z' Y' H'/\G' D=none/\w' D=none/\znS X.K H2 D G' H' w' ac as/\ac.length<=i/\∃ z,zeG g ft fe (ds.drop i) Z'=.ok z/\ac++z.1=zs/\z.2 = ρf) (λD hD=>?_) (λD i Y' H' vs hD ⟨Z',G',w',ac,as,ev,r5,gd5,wd5,q5,hac,z,ez,ez1,ez2⟩ hd5 hlt=>?_) (λD Y' H' vs ⟨Z',G',w',ac,as,_,r5,_⟩=>(it1 _ G' H' (by have:=r5.en.g;rw[cG] at this;exact this) r5.gh).2 (wal _)) λD L s' vs Y' H' IX lo hD hd5 hl6 ⟨Z',G',w',ac,as,ev,r5,gd5,wd5,q5,hac,z,ez,ez1,ez2⟩=>?_
 ·have w0:w1 D=none:=by
   cases q:w1 D with
   |none=>rfl
   |some k=>exact absurd hD (r1.wh _ (by rw[q];simp))
  have base:Rel X.K C' G1 w1 (Z1++List.replicate m none) (Y++List.replicate m none) H2:=by
   refine ⟨r1.gh,r1.wg,r1.wh,by simp[r1.len],λi b e=>?_,by rw[<- hC'];exact .refl _ _ _,λi _=>by rw[<- hC'];rfl⟩;have hi':i < Z1.length:=by
    by_cases hi':i < Z1.length
    ·exact hi'
    ·rw[List.getElem?_append_right xwl,List.getElem?_replicate] at e;split at e <;> cases e
   rw[List.getElem?_append_left hi'] at e;obtain ⟨v,h1,h2⟩:=r1.sl i b e;exact ⟨v,by rw[List.getElem?_append_left (by rw[<- r1.len];exact hi')];exact h1,h2⟩
  exact ⟨Z1++List.replicate m none,G1,w1,[],[],rfl,base.upd_new (r1.gh.free hD) w0 (by rw[c0];exact hD),r1.gh.free hD,w0,⟨xws,.nil⟩,Nat.zero_le _,(zs,ρf),by simpa using ec,xws,rfl⟩
 ·subst ev;have ed:ds.drop i=ds[i]::ds.drop (i+1):=List.drop_eq_getElem_cons hlt;obtain ⟨go,yl⟩:=(it1 i G' H' (by have:=r5.en.g;rw[cG] at this;exact this) r5.gh).1 ds[i] (by simp[hlt]);refine ⟨go,λx H7 y7=>?_⟩;obtain ⟨G7,gr,rep7⟩:=yl x H7 y7;have keep7:=(gr.step (w:=w')).keep gd5 wd5 hd5;rw[ed] at ez;unfold zeG at ez;obtain ⟨Z3,e3,ez⟩:=zd7 ez;obtain ⟨t4,e4,ez⟩:=zd7 ez;obtain ⟨b4,Z4⟩:=t4;refine ⟨G7,w',Z',ds[i],r5.grow gr,rep7,?_⟩;rw[e3];intro Y8 G8 H8 w8 s8s r8;have keep8:=s8s.keep keep7.1 keep7.2.1 keep7.2.2;refine ⟨G8,w8,Z3,r8,?_⟩;rw[e4];intro G9 H9 w9 s9s r9;have keep9:=s9s.keep keep8.1 keep8.2.1 keep8.2.2;have q9:=q5.step (((gr.step (w:=w')).trans s8s).trans s9s);cases b4 with
  |false =>
   show (if false=true then _ else _);rw[if_neg Bool.false_ne_true];simp only[Bool.false_eq_true,if_false] at ez;exact ⟨keep9.2.2,Z4,G9,w9,ac,as,rfl,r9,keep9.1,keep9.2.1,q9,xwl,z,ez,ez1,ez2⟩
  |true =>
   show (if true=true then _ else _);rw[if_pos rfl];simp only[if_true] at ez;obtain ⟨⟨yd,Z10⟩,e10,ez⟩:=zd7 ez;obtain ⟨z',ez',ez3⟩:=zd7 ez;refine ⟨G9,w9,Z4,r9,?_⟩;rw[e10];intro pn us G10 H10 w10 s10s r10 n0 n1 n2 n3 q10;have keep10:=s10s.keep keep9.1 keep9.2.1 keep9.2.2;cases ez3;have nD:pn≠D:=λz=>by rw[z,keep9.2.2] at n0;cases n0
   have h20:H2 pn=none:=by have:=r9.en.k pn n0;rw[c0] at this;exact this
   have nA:pn∉as:=λz=>by obtain ⟨_,_,_,_,us',e,_⟩:=zed q9.2 pn z;rw[n0] at e;cases e
   have hlen:=q9.len;have:=zka hfi;exact ⟨keep10.2.2,by rw[List.length_map];lia,Z10,G10,w10,ac++[yd],as++[pn],xws,r10.upd_new keep10.1 keep10.2.1 (by rw[c0];exact hD),keep10.1,keep10.2.1,((q9.step s10s).snoc nD nA h20 n2 n3 n1 q10).updD,by simp;lia,z',ez',by rw[<- ez1];simp,ez2⟩
 ·subst ev;simp only[List.drop_length] at ez;unfold zeG at ez;cases ez;simp only[List.append_nil] at ez1;subst ez1;subst ez2;have en':zbP G1 H2 w1 G' H' w':=by have:=r5.en;rw[cG,c0,cw] at this;exact this
  have hρlen:Z'.length=X.N.length+m:=by rw[r5.len,hl6]
  refine fin _ _ s' as G' H' w' IX lo en' ⟨r5.gh,r5.wg,r5.wh,?_,λi b e=>?_,r1.en.trans en',r1.pin⟩ hD hd5 gd5 wd5 q5
  ·rw[List.length_take,hρlen,r1.len,hlenσ];lia
  ·have hi':i < Z1.length:=by
    by_cases hi':i < Z1.length
    ·exact hi'
    ·rw[List.getElem?_eq_none (by rw[List.length_take];lia)] at e;cases e
   rw[List.getElem?_take_of_lt hi'] at e;obtain ⟨v,h1,h2⟩:=r5.sl i b e;refine ⟨v,?_,h2⟩;have hpi:=r5.pin i (by rw[<- hC'];exact List.mem_range.mpr (by rw[<- hlenσ,<- r1.len];exact hi'));rw[h1] at hpi;rw[<- hC'] at hpi;have hpi':some (some v)=(Y++List.replicate m none)[i]? := hpi;rw[List.getElem?_append_left (by rw[<- r1.len];exact hi')] at hpi';exact hpi'.symm
def znY(i:Nat)(fi:DA)(g:DG)(ft:DT)(fe:DN)(m:Nat):DS:=λZ=>(fi Z).bind λa=>if zhg a.1=true then match zeG g ft fe a.1 (a.2++List.replicate m none) with
  |.ok z=>if i<a.2.length then .ok (.nx,(z.2.take a.2.length).set i (some (.own2 z.1))) else .no
  |_=>.no
 else .no
theorem Rel.setOwn2{K:W.Frag}{Y:L2.St}{G0 H0:Hp}{w0:Wn}{G H:Hp}{w:Wn}{Z:Ev}{i:Nat}{dss:List (List Dt)}{p:Addr}{as:List Addr}(r:Rel K C G w Z Y H)(hi:i < Z.length)(hpp:i∉C.pp)(hp:H p=some (.lst (as.map V.ref)))(hg:G p=none)(hw:w p=none)
  (q:znS K H0 p G H w dss as) (s:zbP G0 H0 w0 G H w) (h0:H0 p=none) (en0:∀ b,H0 b=none->C.H₀ b=none) :
  Rel K C G (λb=>if b∈p::as then some i else w b) (Z.set i (some (.own2 dss))) (Y.set i (some (.ref p))) H/\zbP G0 H0 w0 G H (λb=>if b∈p::as then some i else w b):=by
 have fr:∀ b∈p::as,H0 b=none/\G b=none/\w b=none/\H b≠none:=λb hb=>by
  rcases wap.mp hb with rfl|hb
  ·exact ⟨h0,hg,hw,by rw[hp];simp⟩
  ·obtain ⟨ds,k1,k2,k3,us,k4,_⟩:=zed q.2 b hb;exact ⟨k1,k2,k3,by rw[k4];simp⟩
 have s1:∀{G1 H1:Hp}{w1:Wn},zbP G1 H1 w1 G H w->(∀ b∈p::as,H1 b=none)->zbP G1 H1 w1 G H (λb=>if b∈p::as then some i else w b):=λs z=>by
  refine ⟨s.g,s.fr,s.h,λb e=>?_,s.k⟩;by_cases hb:b∈p::as
  ·exact .inr (z b hb)
  ·simp only[hb,if_false] at e;exact s.w b e
 refine ⟨⟨r.gh,λb e=>?_,λb e=>?_,by simpa using r.len,λj b e=>?_,s1 r.en (λb hb=>en0 b (fr b hb).1),λj hj=>?_⟩,s1 s λb hb=>(fr b hb).1⟩
 ·by_cases hb:b∈p::as
  ·exact (fr b hb).2.1
  ·simp only[hb,if_false] at e;exact r.wg b e
 ·by_cases hb:b∈p::as
  ·exact (fr b hb).2.2.2
  ·simp only[hb,if_false] at e;exact r.wh b e
 ·by_cases hj:j=i
  ·subst hj;rw[List.getElem?_set_self hi] at e;cases e;refine ⟨_,way (by rw[<- r.len];exact hi),p,as,rfl,xws,hp,q.1,zbY q.2 λb ds hb ⟨_,_,_,us,k4,k5⟩=>⟨?_,us,k4,k5⟩⟩;simp[wah _ hb,hb]
  ·rw[List.getElem?_set_ne (Ne.symm hj)] at e;obtain ⟨v',k1,k2⟩:=r.sl j b e;refine ⟨v',by rw[List.getElem?_set_ne (Ne.symm hj)];exact k1,k2.grow (.refl _) λa o e1 e2=>⟨e2,?_⟩⟩;have:a∉p::as:=λz=>by rw[(fr a z).2.2.1] at e1;cases e1
   simp only[this,if_false];exact e1
 ·have:i≠j:=λz=>hpp (z ▸ hj);rw[List.getElem?_set_ne this];exact r.pin j hj
theorem zmA{tg iter elt:Expr}{ifs:List Expr}{scope:Scope}{pos spos:Pos}{N':List Str}{m i:Nat}{x:Str}{px:Pos}{fi:DA}{g:DG}{ft:DT}{fe:DN}(hN:X.N.Nodup)(hix:X.N[i]? = some x)(hx:Loc X.env.scope x)(hp:i∉C.pp)(hi:JI X C tg iter fi)(hc:X.calm=true)(hb:zhn X.N N' scope.names m=true)
  (hkind:scope.kind=.function) (hcell:Hce scope) (hfr:∀ y∈scope.names,y.2=.free->X.env.kindOf y.1=some .cell\/X.env.kindOf y.1=some .free) (hnames:∀ y∈scope.names,y.2=.local->scope.names.lookup y.1=some .local)
  (hblk:∀ cl L s H fp G H' w Y,JG (zf7 X N' scope cl L s H fp) (zhf C X.N.length G H' w Y) tg g/\JTs (zf7 X N' scope cl L s H fp) (zhf C X.N.length G H' w Y) ifs ft/\JN (zf7 X N' scope cl L s H fp) (zhf C X.N.length G H' w Y) elt fe)
  (hsw:swapsWith (.ListComp elt [⟨tg,iter,ifs,0⟩] scope pos) (some (.Name x px)) spos.line X.env=pure true:=by rfl) (hf:X.fn x=true\/X.env.scope.names.lookup x=some .local:=by exact xwA)
  (hs:∀ x,foldedSetIterable iter X.env x=pure x:=by intro _;rfl):JS X C (.Assign [.Name x px] (.ListComp elt [⟨tg,iter,ifs,0⟩] scope pos) spos) (znY i fi g ft fe m):=by
 intro pS s Y H D I ⟨G,w,Z,r,p⟩;obtain ⟨cl,hclos,hcl,hcf⟩:=zgB (scope:=scope) (env:=X.env) λy hy hf=>I.ok.has y.1 (hfr y hy hf);rw[exec_Assign_Name_used _ _ _ _ hsw];refine wab (wpAny_standAt (wab ?_));show wpAny _ X.A (do let _ <- comprehension (.ListComp elt [⟨tg,iter,ifs,0⟩] scope pos) scope X.env _ (newList []) false (eval iter X.env) (some (assign (.Name x px) X.env))) _ _ s;refine wab (wpAny_mono (wpAny_comprehension_free (use:=some (assign (.Name x px) X.env)) (Q:=λ_ s'=>SP X pS D .next s') rfl hs hclos hkind hnames ?_) (λ_ s' hq=>wad (wad hq)) λ_ _ e=>e);refine thn (hi pS s Y H (λJ H2=>∃ ds Z1 G1 w1 zs ρf,Rel X.K C G1 w1 Z1 Y H2/\zo4 X.K J G1 ds/\zhg ds=true/\zeG g ft fe ds (Z1++List.replicate m none)=.ok (zs,ρf)/\i < Z1.length/\zc1 C.ex (kS X.K C D G1 H2 w1) (.ok (.nx,(ρf.take Z1.length).set i (some (.own2 zs))))) I ?_) λv s1 h1=>thn h1 λitv s2 h2=>?_
 ·refine zxF (κ:=λG H w=>kS X.K C D G H w) zfj r p λds Z1 J G1 H1 w1 r1 st1 it1 p1=>?_;dsimp only at p1;split at p1
  ·rename_i hfi;split at p1
   ·rename_i z ez;split at p1
    ·rename_i hl;exact ⟨ds,Z1,G1,w1,z.1,z.2,r1,it1,hfi,ez,hl,p1⟩
    ·exact waO p1
   ·exact waO p1
  ·exact waO p1
 obtain ⟨it,fp,tn,J,H2,rfl,I2,T,st2,f2,ds,Z1,G1,w1,zs,ρf,r1,it1,hfi,ec,hil,kk⟩:=h2;refine zpj (RR:=λacc C=>compPost (model X.prog X.w) X.A X.xe (some (assign (.Name x px) X.env)) (λ_ s'=>SP X pS D .next s') acc C) hc hb hkind hcell hfr hblk hcl hcf I2 T st2 f2 r1 it1 hfi ec λDa L s' as G' H' w' I' lo st rel h0 h1 h2 h3 q=>?_;show wpAny _ X.A (assign (.Name x px) X.env (.ref Da)) _ _ _;refine wpAny_assign_Name (zi3 I' hN hix hx (v:=.ref Da) rfl (λs'' I'' hch=>?_) hf);obtain ⟨mm,hn⟩:=lo.ns;obtain ⟨a,sb,ha⟩:=hch;have hLa:L≠a:=by
  rcases ha with z|z
  ·rw[z];exact lo.nl
  ·exact λy=>lo.nc x a z y.symm
 refine ⟨mm,hn.sameBut sb hLa,λh' hsb=>⟨Y.set i (some (.ref Da)),H',?_,?_⟩⟩
 ·exact I''.turned (t':=s''.toks) (λb o hb e=>(hsb.2 b hb).trans e) lo.fr lo.nl lo.nw lo.nc lo.np
 ·have hlr:i<(ρf.take Z1.length).length:=by rw[rel.len,<- r1.len];exact hil
  obtain ⟨r',s'⟩:=rel.setOwn2 hlr hp h1 h2 h3 q st h0 r1.en.k;exact kk _ _ _ _ s' r'
end
theorem zjx{α β:Type}{F F':α->β->Prop}{b:α}{d':β}:∀{l:List α}{r:List β}{j:Nat},Paired F l r->l.Nodup->l[j]? = some b->(∀ c d,c≠b->F c d->F' c d)->F' b d'->Paired F' l (r.set j d')
 |_,_,j,.nil,_,e,_,_=>by simp at e
 |x::l,y::r,0,.cons h t,nd,e,k,n=>by simp at e;subst e;refine .cons n (zbY t λc d hc q=>k c d (λz=>?_) q);subst z;exact (List.nodup_cons.mp nd).1 hc
 |x::l,y::r,j+1,.cons h t,nd,e,k,n=>by
  have e':l[j]? = some b:=by simpa using e
  refine .cons (k x y (λz=>?_) h) (zjx t (List.nodup_cons.mp nd).2 e' k n);subst z;exact (List.nodup_cons.mp nd).1 (waH e')
theorem zjq{α β:Type}{F:α->β->Prop}:∀{l:List α}{r:List β}{j:Nat}{d:β},Paired F l r->r[j]? = some d->∃ a,l[j]? = some a/\F a d
 |_,_,j,d,.nil,e=>by simp at e
 |x::l,y::r,0,d,.cons h t,e=>by simp at e;subst e;exact ⟨x,rfl,h⟩
 |x::l,y::r,j+1,d,.cons h t,e=>by obtain ⟨a,h1,h2⟩:=zjq (j:=j) t (by simpa using e);exact ⟨a,by simpa using h1,h2⟩
theorem Rel.mutate2{K:W.Frag}{C:Cn}{Y:L2.St}{G H:Hp}{w:Wn}{Z:Ev}{i j:Nat}{dss:List (List Dt)}{ds':List Dt}{a b:Addr}{as:List Addr}{us':List V}(r:Rel K C G w Z Y H)(hi:Z[i]? = some (some (.own2 dss)))(hv:Y[i]? = some (some (.ref a)))(hw:w a=some i)
  (ha:H a=some (.lst (as.map V.ref))) (nd:(a::as).Nodup) (hp:Paired (λb ds=>w b=some i/\∃ vs,H b=some (.lst vs)/\za6 K G ds vs) as dss) (hb:as[j]? = some b) (h':za6 K G ds' us') :
  Rel K C G w (Z.set i (some (.own2 (dss.set j ds')))) Y (upd H b (.lst us'))/\zbP G H w G (upd H b (.lst us')) w:=by
 have hbm:b∈as:=waH hb;obtain ⟨_,hwb,_⟩:=zed hp b hbm;have gb:G b=none:=r.wg b (by rw[hwb];simp);have nab:a≠b:=λz=>(List.nodup_cons.mp nd).1 (z ▸ hbm);have st:zbP G H w G (upd H b (.lst us')) w:=by
  refine ⟨.refl _,λc o e=>.inl (by rw[e];simp),λc o e z=>?_,λ_ e=>.inl e,λc e=>?_⟩
  ·have:c≠b:=λq=>by subst q;rw[hwb] at z;cases z
   rw[zau this];exact e
  ·by_cases hc:c=b
   ·subst hc;rw[zat] at e;cases e
   ·rw[zau hc] at e;exact e
 refine ⟨⟨λc o e=>?_,r.wg,λc e=>?_,by simpa using r.len,λk bb e=>?_,r.en.trans st,r.pin⟩,st⟩
 ·rw[zau (zav e gb)];exact r.gh c o e
 ·by_cases hc:c=b
  ·subst hc;rw[zat];simp
  ·rw[zau hc];exact r.wh c e
 ·by_cases hk:k=i
  ·subst hk;rw[List.getElem?_set_self (List.getElem?_eq_some_iff.mp hi).1] at e;cases e;refine ⟨_,hv,a,as,rfl,hw,by rw[zau nab];exact ha,nd,?_⟩;refine zjx hp (List.nodup_cons.mp nd).2 hb (λc ds nc ⟨q1,vs,q2,q3⟩=>⟨q1,vs,by rw[zau nc];exact q2,q3⟩) ⟨hwb,us',zat,h'⟩
  ·rw[List.getElem?_set_ne (Ne.symm hk)] at e;obtain ⟨v',h1,h2⟩:=r.sl k bb e;refine ⟨v',h1,h2.grow (.refl _) λc o e1 e2=>⟨?_,e1⟩⟩;have:c≠b:=λz=>by subst z;rw[hwb] at e1;exact hk (waA e1).symm
   rw[zau this];exact e2
def zl5(i jx:Nat)(fk:De):De:=λZ=>match Z[i]? with
 |some (some (.own2 _))=>(fk Z).bind λk=>match k.2[i]?,k.1,k.2[jx]? with
  |some (some (.own2 dss)),.int n,some (some (.val d))=>match ixN dss.length n with
   |some j=>match dss[j]? with
    |some ds=>if ds.length<16777216 then .ok (.non,k.2.set i (some (.own2 (dss.set j (ds++[d]))))) else .no
    |none=>.no
   |none=>.no
  |_,_,_=>.no
 |_=>.no
section
variable{X:Cx}{C:Cn}{k:Expr}{fk:De}{pos ps py sp apos:Pos}{x y:Str}
theorem zu1(i jx:Nat)(hk:JE X C k fk)(hN:X.N[i]? = some x:=by rfl)(hNy:X.N[jx]? = some y:=by rfl)(hv:Vis X.env.scope x:=by exact xwV)(hvy:Vis X.env.scope y:=by exact xwV)
  (hd:(x == ("__debug__" : Str))=false:=by decide) (hcd:(x == ("__classdict__" : Str))=false:=by decide) (hdy:(y == ("__debug__" : Str))=false:=by decide) (hcdy:(y == ("__classdict__" : Str))=false:=by decide)
  (hix:zk4 k:=by exact λ_ _=>rfl)
  (hbase:attributeBase (.Subscript (.Name x ps) k sp) "append" X.env (eval (.Subscript (.Name x ps) k sp) X.env)=eval (.Subscript (.Name x ps) k sp) X.env:=by rfl)
  (hfew:((backTo pos (starEach [.Name y py] X.env)).all (λx=>!x.1) && (backToKw pos (keywordEach [] X.env)).all (λx=>x.1.isSome) && decide ([Expr.Name y py].length+([]:List Keyword).length+(if ([]:List Keyword).isEmpty then 0 else 1)<30))=true:=by rfl)
  (hline:(apos.endLine == pos.line)=true:=by rfl) (hs:starEach [.Name y py] X.env=(false,eval (.Name y py) X.env)::starEach [] X.env:=by rfl) (hplain:(backTo pos (starEach [] X.env)).any (·.1)=false:=by rfl) :
  JE X C (.Call (.Attribute (.Subscript (.Name x ps) k sp) "append" apos) [.Name y py] [] pos) (zl5 i jx fk) :=
 PE.weak (zqA PySem.F.plainAttrs_list PySem.F.slot_list_append PySem.F.type_list_append zh9 (zvA zm4 (zd2 hN hv hd hcd) hk hix) (zbn (zd2 hNy hvy hdy hcdy) zde hs) hbase hfew hline hs hplain) λY H Q ⟨G,w,Z,r,p⟩=>by
  unfold zl5 at p;split at p
  ·rename_i dss0 e0;obtain ⟨v0,h0,_⟩:=r.sl i _ e0;refine ⟨v0,h0,?_⟩;refine zeL (κ:=λG H w=>kE X.K C Y Q G H w) zcy r p λd Z1 v G1 H1 w1 r1 s1 q1 p1=>?_;dsimp only at p1;split at p1
   ·rename_i dss n dy e1 ey;split at p1
    ·rename_i j ej;split at p1
     ·rename_i ds eds;split at p1
      ·rename_i hl;obtain ⟨v1,g1,a,as,rfl,g2,g3,g4,g5⟩:=r1.sl i _ e1;rw[h0] at g1;cases g1;obtain ⟨b,eb,hwb,us,hb,hrs⟩:=zjq g5 eds;obtain ⟨vy,gy,hy⟩:=r1.sl jx _ ey;have hlen:=zgJ g5;have hat:atI (as.map V.ref) n=some (.ref b):=by unfold atI;rw[List.length_map,hlen,ej];simp only[Option.bind_some];rw[List.getElem?_map,eb];rfl
       have hy':Rep X.K G1 dy vy:=hy;obtain ⟨r',s'⟩:=r1.mutate2 e1 h0 g2 g3 g4 g5 eb (hrs.append (za6.cons hy' za6.nil));exact ⟨a,as.map V.ref,n,.ref b,rfl,zaB q1,SqL.of g3,hat,.inl ⟨rfl,us,SqL.of hb⟩,vy,gy,b,us,vy,rfl,rfl,hb,by rw[<- hrs.length,zdd];exact hl,p1 _ _ _ _ s' r' (by unfold Rep;rfl)⟩
      ·exact waO p1
     ·exact waO p1
    ·exact waO p1
   ·exact waO p1
  ·exact p.elim
end
theorem ztr:bootBuiltins "len"=some (.builtin "len"):=PySem.boot_len
theorem zwv:bootBuiltins "max"=some (.builtin "max"):=PyProof.Rows.boot_max
theorem ztS:bootBuiltins "min"=some (.builtin "min"):=PyProof.Rows.boot_min
theorem zxc:bootBuiltins "all"=some (.builtin "all"):=PyProof.Rows.boot_all
theorem zcr:bootBuiltins "isinstance"=some (.builtin "isinstance"):=PyProof.Rows.boot_isinstance
theorem zen:bootBuiltins "tuple"=some (.type "tuple"):=by decide +kernel
theorem zkC:bootBuiltins "list"=some (.type "list"):=by decide +kernel
theorem zjI:bootBuiltins "int"=some (.type "int"):=by decide +kernel
theorem zjS:bootBuiltins "bool"=some (.type "bool"):=by decide +kernel
theorem zwn:bootBuiltins "str"=some (.type "str"):=by decide +kernel
theorem za3{X:Cx}{E:XK}:zfe CX0 X E:=λ_ _ _ _ _ _ _ h=>h.elim
section
variable{X:Cx}{C:Cn}{a b e:Expr}{fa fb:De}{p pos:Pos}
theorem zcR(hm:X.mg "len"=none)(ha:JE X C e fa)(hg:Gl X "len":=by rfl)(hs:starEach [e] X.env=(false,eval e X.env)::starEach [] X.env:=by rfl)(hpl:(backTo pos (starEach [] X.env)).any (·.1)=false:=by rfl):JE X C (.Call (.Name "len" p) [e] [] pos) (dFn zb5 (dA fa dA0)) :=
 zgk zwF zwU (zfo.or zgZ) hg hm ztr (zao ha za1 hs) xwd xwd hs hpl
theorem zx1(hc:X.calm=true)(hm:X.mg "max"=none)(ha:JE X C a fa)(hb:JE X C b fb)(hg:Gl X "max":=by rfl)(hs:starEach [a,b] X.env=(false,eval a X.env)::starEach [b] X.env:=by rfl)(hs2:starEach [b] X.env=(false,eval b X.env)::starEach [] X.env:=by rfl)(hpl:(backTo pos (starEach [b] X.env)).any (·.1)=false:=by rfl):JE X C (.Call (.Name "max" p) [a,b] [] pos) (dFn zjV (dA fa (dA fb dA0))) :=
 zgk zuD zu9 (zpu hc) hg hm zwv (zao ha (zao hb za1 hs2) hs) xwd xwd hs hpl
theorem zxm(hc:X.calm=true)(hm:X.mg "min"=none)(ha:JE X C a fa)(hb:JE X C b fb)(hg:Gl X "min":=by rfl)(hs:starEach [a,b] X.env=(false,eval a X.env)::starEach [b] X.env:=by rfl)(hs2:starEach [b] X.env=(false,eval b X.env)::starEach [] X.env:=by rfl)(hpl:(backTo pos (starEach [b] X.env)).any (·.1)=false:=by rfl):JE X C (.Call (.Name "min" p) [a,b] [] pos) (dFn zki (dA fa (dA fb dA0))) :=
 zgk zuT zud (zpx hc) hg hm ztS (zao ha (zao hb za1 hs2) hs) xwd xwd hs hpl
theorem zwc(hc:X.calm=true)(hm:X.mg "min"=none)(ha:JE X C e fa)(hg:Gl X "min":=by rfl)(hs:starEach [e] X.env=(false,eval e X.env)::starEach [] X.env:=by rfl)(hpl:(backTo pos (starEach [] X.env)).any (·.1)=false:=by rfl):JE X C (.Call (.Name "min" p) [e] [] pos) (dFn zkI (dA fa dA0)) :=
 zgk zvp zv5 (zqv hc) hg hm ztS (zao ha za1 hs) xwd xwd hs hpl
theorem zxN(hc:X.calm=true)(hm:X.mg "all"=none)(ha:JE X C e fa)(hg:Gl X "all":=by rfl)(hs:starEach [e] X.env=(false,eval e X.env)::starEach [] X.env:=by rfl)(hpl:(backTo pos (starEach [] X.env)).any (·.1)=false:=by rfl):JE X C (.Call (.Name "all" p) [e] [] pos) (dFn zuc (dA fa dA0)) :=
 zgk zw4 zwC (zqd hc) hg hm zxc (zao ha za1 hs) xwd xwd hs hpl
theorem zdG(hm:X.mg "tuple"=none)(ha:JE X C e fa)(hg:Gl X "tuple":=by rfl)(hs:starEach [e] X.env=(false,eval e X.env)::starEach [] X.env:=by rfl)(hpl:(backTo pos (starEach [] X.env)).any (·.1)=false:=by rfl):JE X C (.Call (.Name "tuple" p) [e] [] pos) (dFn zbW (dA fa dA0)) :=
 zrs zsG zsW zkK hg hm zen (zao ha za1 hs) xwd xwd hs hpl
theorem zpG(hm:X.mg "list"=none)(ha:JE X C e fa)(hg:Gl X "list":=by rfl)(hs:starEach [e] X.env=(false,eval e X.env)::starEach [] X.env:=by rfl)(hpl:(backTo pos (starEach [] X.env)).any (·.1)=false:=by rfl):JN X C (.Call (.Name "list" p) [e] [] pos) (zdL ziY (dA fa dA0)) :=
 zqI zuC zus zkZ hg hm zkC (zao ha za1 hs) xwd xwd hs hpl
end
theorem zcD{nw:Bool}{P:Program}{w:World}{K:W.Frag}{mg:Str->Option Value}{base:Heap}{CX:CXT}{xv:Nat->Value}{k:Nat}{x qual:Str}{st:Stmt}{f:Addr}{fd:FuncData}{ps:List Str}{ks:List Bool}(hl:ps.length=ks.length)(U:Fun K x qual st f fd)(hm:mg x=some (.ref f))(hb:zkm K fd ps []) :
  Dfn nw P w K mg base CX xv k x ks (λ_=>.no) :=
 ⟨f,fd,ps,⟨λvs H Q E ⟨_,_,_,h,_⟩=>h.trans hl.symm,λ_ _ _ _ _ _ _ _ _ _ _ _ _ ⟨_,_,_,_,_,_,h⟩=>waO h⟩,hm,U.kp,hb,λbs h=>absurd rfl h⟩
theorem zeA{k:Nat}{A:Around}(hr:zgm k A):A.units+64<cLine:=by have:=hr.un;lia
theorem zrD{k:Nat}{A:Around}(hr:zgm k A):A.units+65<cLine:=by have:=hr.un;lia
theorem zaV{names:List (Str×NameKind)}(h:(names.all λy=>y.2 != .cell || (names.lookup y.1 == some .cell))=true):∀ y∈names,y.2=.cell->names.lookup y.1=some .cell:=λy hy z=>by rw[List.all_eq_true] at h;have:=h y hy;rw[z] at this;simpa using this
theorem zb8{names:List (Str×NameKind)}(h:(names.all λy=>y.2 != .local || (names.lookup y.1 == some .local))=true):∀ y∈names,y.2=.local->names.lookup y.1=some .local:=λy hy z=>by rw[List.all_eq_true] at h;have:=h y hy;rw[z] at this;simpa using this
theorem zb7{names:List (Str×NameKind)}{env:Env}(h:(names.all λy=>y.2 != .free || (env.kindOf y.1 == some .cell || env.kindOf y.1 == some .free))=true):∀ y∈names,y.2=.free->env.kindOf y.1=some .cell\/env.kindOf y.1=some .free:=λy hy z=>by rw[List.all_eq_true] at h;have:=h y hy;rw[z] at this;simpa using this
end PV
end
section
namespace PV
open PySem PySem.Spec L2 PyProof.Rows
section
variable{X:Cx}{C:Cn}{a b:Expr}{fa fb:De}{pos:Pos}
def zkG:Dt->Dt->R Dt
 |.tup x,.tup y=>if x.length+y.length<=16777216 then .ok (.tup (x++y)) else .no
 |_,_=>.no
def zwZ(K:W.Frag):R2:=λx y H Q=>∃ a b xs ys,x=.ref a/\y=.ref b/\SqT K H a xs/\SqT K H b ys/\xs.length+ys.length<=sizeLine /\
 (xs=[]->Q (.ref b) H)/\(xs≠[]->ys=[]->Q (.ref a) H)/\(xs≠[]->ys≠[]->∀ p,H p=none->Q (.ref p) (upd H p (.tup (xs++ys))))
theorem zrM{prog:Program}{w:World}{A:Around}{E:Value->Shared->Prop}{s:Shared}{t b:Addr}{ws:List Value}{Q:Value->Shared->Prop}(ht:IsTup s.heap t ([]:List Value).toArray)(hb:IsTup s.heap b ws.toArray)(h:Q (.ref b) s) :
  wpAny (model prog w) A (binaryOp .Add (.ref t) (.ref b)) Q E s:=by
 obtain ⟨⟨c1,d1,dt1,sl1⟩,e1,q1,n1,r1⟩:=id ht;obtain ⟨⟨c2,d2,dt2,sl2⟩,e2,q2,n2,r2⟩:=id hb;simp only at q1 r1 q2 r2;subst q1 r1 q2 r2;exact concat_meets ⟨_,e1,rfl⟩ ⟨_,e2,rfl⟩ noFill_tuple_add seq_tuple_add F.slot_tuple_add F.entry_tuple_add (F.args_tuple_add_2 _ _) (tuple_addW0 t b ([]:List Value).toArray ws.toArray n1 n2 d1 d2 sl1 sl2 rfl) ⟨e1,e2,h⟩
theorem zv1:OpR X (binaryOp .Add) (zwZ X.K):=by
 intro pS s Y H x y v u Q I rx ry h;obtain ⟨a,b,xs,ys,rfl,rfl,ha,hb,hz,q0,q1,q2⟩:=h;by_cases hx:xs=[]
 ·subst hx;cases rx;cases ry;obtain ⟨its,r1,p1,_⟩:=I.tuple ha;obtain ⟨its2,r2,p2,_⟩:=I.tuple hb;obtain rfl:its=[]:=by cases r1;rfl
  exact zrM p1 p2 ⟨.ref b,H,I,rfl,q0 rfl⟩
 ·exact zv8 pS s Y H _ _ v u Q I rx ry ⟨a,b,xs,ys,rfl,rfl,ha,hb,hx,hz,q1 hx,q2 hx⟩
theorem zrW:Op2 X.K (zwZ X.K) zkG:=λG H x y dx dy z Q sm hx hy e k=>by
 unfold zkG at e;split at e
 ·rename_i l l';split at e
  ·rename_i hl;cases e;obtain ⟨a,vs,rfl,h1,h2⟩:=zbF hx;obtain ⟨b,us,rfl,h3,h4⟩:=zbF hy;have nil_of:∀{m:List Dt}{ws:List V},za6 X.K G m ws->ws=[]->m=[]:=λ{m ws} r z=>by have:=r.length;rw[z] at this;exact List.length_eq_zero_iff.mp this
   refine ⟨a,b,vs,us,rfl,rfl,zaO sm h1,zaO sm h3,by rw[<- h2.length,<- h4.length,zdd];exact hl,λz=>?_,λ_ z=>?_,λ_ _ p hp=>?_⟩
   ·rw[nil_of h2 z] at k;exact k _ G H (.refl sm) hy
   ·rw[nil_of h4 z,List.append_nil] at k;exact k _ G H (.refl sm) hx
   ·have gr:zeC G H (upd G p (.tup (vs++us))) (upd H p (.tup (vs++us))):=.new sm hp;exact k _ _ _ gr (by unfold Rep;exact ⟨p,_,rfl,zku.of zat,(h2.same gr.g).append (h4.same gr.g)⟩)
  ·cases e
 ·cases e
theorem zqh:zmO zkG:=λx y n h=>by
 unfold zkG at h;split at h
 ·split at h <;> cases h
 ·cases h
theorem zux(ha:JE X C a fa)(hb:JE X C b fb):JE X C (.BinOp a .Add b pos) (dOp zkG fa fb):=zmC zv1 zrW zqh ha hb
end
end PV
end
section
namespace PV
open PySem PySem.Spec L2
open AutoSeq1 (wpAny_loadPart')
section
variable{X:Cx}{C:Cn}{a b o e:Expr}{es:List Expr}{fa fb:De}{pos apos cpos:Pos}{name:Str}{id:String}{to:TE}{t:TA}{r:V->List V->Hp->VK->Prop}
end
section
variable{X:Cx}{C:Cn}{e1 e2:Expr}{fk fv:De}{pos ps apos:Pos}{x:Str}
theorem zo8{y1 y2:V}{us:List Value}(h:zbf [y1,y2] us):∃ u1 u2,us=[u1,u2]/\zcs y1 u1/\zcs y2 u2:=by
 cases h with
 |cons h1 t=>cases t with
  |cons h2 t2=>cases t2;exact ⟨_,_,rfl,h1,h2⟩
end
def Ite(K:W.Frag)(a:Addr):It :=
 ⟨λi H=>∃ xs x,SqL K H a xs/\xs[i]? = some x,
   λi H v H'=>∃ p x,v=.ref p/\H p=none/\H'=upd H p (.tup [.int (i:Nat),x])/\∀ xs,SqL K H a xs->xs[i]? = some x,
   λi H=>∃ xs,SqL K H a xs/\xs.length<=i⟩
structure Ep(h:Heap)(e it l:Addr)(i:Nat):Prop where
 e:∃ old,IsEnum h e it i old
 a:h.IsListIter it l i
theorem Ep.keep{h h':Heap}{e it l:Addr}{i:Nat}(p:Ep h e it l i)(k:∀ b∈[e,it],∀ o,h.get? b=some o->h'.get? b=some o):Ep h' e it l i :=
 ⟨let ⟨old,q⟩:=p.e;⟨old,k e xws _ q⟩,p.a.at λo q=>k it xws o q⟩
theorem znA{X:Cx}{pS:List (Addr×Obj)}{Y:L2.St}{H:Hp}{s:Shared}{a b:Addr}{xs:List V}(I:L2.Inv X pS Y H s)(hf:zfA X pS H b)(hs:SqL X.K H a xs):b≠a:=by
 rintro rfl;rcases hs with (h|⟨o,h⟩)|⟨o,its,n,h,_⟩
 ·rw[hf.1] at h;cases h
 ·rw[hf.1] at h;cases h
 ·have hb:=I.mod.kin b o h;rcases hf.2.2.2.1 with z|z
  ·exact I.ok.noex b o hb z
  ·exact absurd (was (wai hb) (waN I.ok.bsz z)) (waL _)
theorem zq2{P:Program}{w:World}{K:W.Frag}{elts:List Expr}{x1}{ps:Pos}{a e it:Addr}(hne:e≠it):zqo P w K (.Tuple elts x1 ps) (Ite K a) [e,it] e (λi h=>Ep h e it a i) where
 mem:=by simp
 obj:=λi h st c hc=>by
  obtain ⟨⟨old,s1⟩,⟨o4,s4,_,d4⟩⟩:=st;simp only[wap,wak,or_false] at hc;rcases hc with rfl|rfl
  ·exact ⟨_,s1,λv q=>by cases q⟩
  ·exact ⟨_,s4,λv q=>by rw[d4] at q;cases q⟩
 keep:=λi h h' st k=>st.keep k
 item:=by
  intro X hP hw hK hc i pS s Y H E I hf st hg;subst hP hw hK;obtain ⟨xs,x,q1,hx⟩:=hg;obtain ⟨its,rv,p,hz⟩:=I.list q1;obtain ⟨u,hu,ru⟩:=rv.get hx;obtain ⟨old,he⟩:=st.e;refine wpAny_pyNext_enum_item he st.a p.isList (x:=u) (by simpa using hu) hne λh' a1 a2 a3 a4 a5=>?_;refine ⟨_,rfl,wpAny_letOwnedTupleGo_enum a1 λh2 he2 sb=>?_⟩;have hel:e<s.heap.objs.size:=wai he;have hitl:it<s.heap.objs.size:=by obtain ⟨o,ho,_⟩:=st.a;exact wai ho
  have hzp:∀ c∈[e,it],c≠s.heap.objs.size:=λc hc q=>by
   simp only[wap,wak,or_false] at hc;rcases hc with rfl|rfl
   ·exact absurd (q ▸ hel) (waL _)
   ·exact absurd (q ▸ hitl) (waL _)
  have st2:Ep h2 e it a (i+1):=⟨⟨_,he2⟩,a2.extBut sb.extBut (Ne.symm hne)⟩
  have hk2:∀ c ob,c∉[e,it]->s.heap.get? c=some ob->h2.get? c=some ob:=λc ob nc q=>by simp only[wap,wak,or_false,not_or] at nc;exact sb.extBut _ _ nc.1 (a5 c ob nc.1 nc.2 q)
  have hth:∀ c ob,s.heap.get? c=some ob->∃ ob',h2.get? c=some ob':=λc ob q=>by
   by_cases nc:c∈[e,it]
   ·simp only[wap,wak,or_false] at nc;obtain ⟨⟨o1,s1⟩,⟨o4,s4,_⟩⟩:=st2;rcases nc with rfl|rfl
    ·exact ⟨_,s1⟩
    ·exact ⟨_,s4⟩
   ·exact ⟨ob,hk2 c ob nc q⟩
  have hnew:h2.get? s.heap.objs.size=some { cls:=.type "tuple",data:=.seq #[.int i s.toks,u] }:=sb.extBut _ _ (Ne.symm (hzp e xws)) a3;have IN:L2.Inv X pS Y (upd H s.heap.objs.size (.tup [.int (i:Nat),x])) { s with heap:=h2,toks:=s.toks+1 }:=zfL (s:=s) (t':=s.toks+1) (o:=.tup [.int (i:Nat),x]) I hf hk2 (wal _) hth ⟨by show 2<=sizeLine;decide,[.int i s.toks,u],.cons ⟨_,rfl⟩ (.cons ru .nil),0,hnew⟩;exact ⟨.ref s.heap.objs.size,_,IN,rfl,
   ⟨_,x,rfl,I.hok.fresh (wal _),rfl,λzs q=>by rw[I.list_inj q q1];exact hx⟩,st2,λc hc=>by rw[zau (hzp c hc)];exact (hf c hc).1⟩
 done:=by
  intro X hP hw hK hc i pS s Y H E I hf st hg;subst hP hw hK;obtain ⟨xs,q1,hx⟩:=hg;obtain ⟨its,rv,p,hz⟩:=I.list q1;have hl:=rv.length;obtain ⟨old,he⟩:=st.e;refine wpAny_pyNext_enum_end (I.ok.hd hc) he st.a p.isList (by simp;lia) λh' hk=>⟨rfl,?_⟩
  refine zey (t':=s.toks) I hf λc ob nc q=>?_;simp only[wap,wak,or_false,not_or] at nc;exact hk c ob nc.2 q
 self:=λ_ _ _ _ _ st h=>let ⟨_,he⟩:=st.e;wpAny_pyIter_enum he h
def zoN(l:List Dt):List Dt:=(List.range l.length).zip l |>.map λz=>.tup [.int (z.1:Nat),z.2]
def zoX(fa:De):DA:=λZ=>(fa Z).bind λa=>match a.1 with
 |.lst l=>.ok (zoN l,a.2)
 |_=>.no
theorem zwi{K:W.Frag}{G:Hp}{a:Addr}{vs:List V}{ds:List Dt}(hs:G a=some (.lst vs))(q:za6 K G ds vs):zo4 K (Ite K a) G (zoN ds):=λi G1 H s1 s2=>by
 have h1:SqL K H a vs:=SqL.of (s2 _ _ (s1 _ _ hs));refine ⟨λd e=>?_,λh=>⟨vs,h1,?_⟩⟩
 ·unfold zoN at e;rw[List.getElem?_map] at e;have hi:i<ds.length:=by
   by_cases hi:i<ds.length
   ·exact hi
   ·rw[List.getElem?_eq_none (by rw[List.length_zip,List.length_range];lia)] at e;cases e
  have z1:(List.range ds.length)[i]? = some i:=by simp[hi]
  have z2:ds[i]? = some ds[i]:=by simp[hi]
  obtain ⟨v,e1,e2⟩:=q.get z2;have ed:d=.tup [.int (i:Nat),ds[i]]:=by rw[(List.getElem?_zip_eq_some (z:=(i,ds[i]))).mpr ⟨z1,z2⟩] at e;exact (waA e).symm
  refine ⟨⟨vs,v,h1,e1⟩,λx H' y=>?_⟩;obtain ⟨p,x',rfl,hp,rfl,k1⟩:=y;have kx:=k1 vs h1;rw[e1] at kx;cases kx;have gr:zeC G1 H (upd G1 p (.tup [.int (i:Nat),v])) (upd H p (.tup [.int (i:Nat),v])):=.new s2 hp;refine ⟨_,gr,?_⟩;rw[ed];unfold Rep;exact ⟨p,[.int (i:Nat),v],rfl,zku.of zat,za6.cons (zaG _) (za6.cons ((e2.same s1).same gr.g) za6.nil)⟩
 ·rw[<- q.length];unfold zoN at h;simpa using h
section
variable{X:Cx}{C:Cn}{elts:List Expr}{x1:Nat}{pt:Pos}{a:Expr}{fa:De}{p pos:Pos}
theorem ztZ(hg:Gl X "enumerate")(hm:X.mg "enumerate"=none)(ha:JE X C a fa)(hs:starEach [a] X.env=(false,eval a X.env)::starEach [] X.env:=by rfl)(hpl:(backTo pos (starEach [] X.env)).any (·.1)=false:=by rfl) :
  JI X C (.Tuple elts x1 pt) (.Call (.Name "enumerate" p) [a] [] pos) (zoX fa):=by
 intro pS s Y H R I ⟨G,w,Z,r,pp⟩;refine PyProof.Rows.Call_ (zeD I hg hm PyProof.Rows.boot_enumerate (PyProof.Rows.callWith_type1 (thn (zao ha za1 hs pos pS s Y H (λvs H1=>∃(l1:Addr)(xs:List V),vs=[.ref l1]/\SqL X.K H1 l1 xs/\R (Ite X.K l1) H1) I ?_) λus s1 ⟨vs,H1,I1,r1,q1⟩=>?_) hs hpl))
 ·refine ⟨G,w,Z,r,?_⟩;unfold zoX at pp;unfold dA dA0;cases e:fa Z with
  |ok x =>
   obtain ⟨d,Z1⟩:=x;rw[e] at pp;simp only[PV.R.bind_ok] at pp ⊢;intro vs G1 H1 w1 s1 r1 q;obtain ⟨v,rfl,k1⟩:=zgh q;cases d with
   |lst l =>
    obtain ⟨a1,xs,rfl,m1,m2⟩:=zaT k1;exact ⟨a1,xs,rfl,SqL.of (r1.gh _ _ m1),pp _ G1 H1 w1 s1 r1 (zwi m1 m2)⟩
   |_=>exact waO pp
  |er n=>rw[e] at pp;exact pp
  |no=>rw[e] at pp;exact pp
 ·obtain ⟨l1,xs,rfl,k1,q⟩:=q1;obtain ⟨u1,rfl,c1⟩:=zf6 r1;cases c1;obtain ⟨its,rv,p1,_⟩:=I1.list k1;refine call_enumerate_list p1.isList λh' he hit hz hk=>?_;refine wpAny_pyIter_enum he ?_;refine ⟨s1.heap.objs.size+1,[s1.heap.objs.size+1,s1.heap.objs.size],_,_,H1,rfl,I1.kept (t':=s1.toks) hk,zq2 (by intro h;have h:(s1.heap.objs.size+1:Nat)=s1.heap.objs.size:=h;lia),⟨⟨_,he⟩,hit⟩,λc hc=>?_,q⟩;have hle:s1.heap.objs.size<=c:=by
   simp only[wap,wak,or_false] at hc;rcases hc with rfl|rfl
   ·exact waT ..
   ·exact wal _
  exact I1.fpOk hle (I1.hok.fresh hle)
end
end PV
end
section
namespace PV
open PySem PySem.Spec L2 PyProof.Rows
section
variable{X:Cx}{C:Cn}{a b:Expr}{fa fb:De}{pos:Pos}
end
section
variable{prog:Program}{w:World}{A:Around}{E:Value->Shared->Prop}{s:Shared}
theorem zgb{t sl:Addr}{items:Array Value}{vl vu:Value}{lo hi:Option Int}{Q:Value->Shared->Prop}(ht:IsTup s.heap t items)(hs:s.heap.IsSliceOf sl vl vu .none)(pl:IsPart vl lo)(pu:IsPart vu hi)
  (hw:HT.sIx items.size 0 lo=0/\HT.sIx items.size items.size hi=items.size) (h:Q (.ref t) s):wpAny (model prog w) A (getItem (.ref t) (.ref sl)) Q E s:=by
 obtain ⟨os,hos,hcs,hds⟩:=id hs;have hTs:s.TypeIs (.ref sl) "slice":=⟨os,hos,hcs⟩
 unfold getItem
 try with_reducible refine wpAny_holding ?_
 first|refine wab (wad ?_)|skip
 refine wab (wpAny_sequenceKey ht.typeIs xwd ?_);refine wab (wpAny_callSpecial?_slot (name:=Str.ofString "__getitem__") ht.typeIs PyProof.Rows.slot_tuple_getitem
  (wpAny_call_entry PyProof.Rows.slot_tuple_getitem ht.typeIs entry_tuple_getitem ?_ (args_tuple_getitem _ _)))
 show wpAny _ _ (Builtin.Tuple.tupleItemsOf (.ref t) >>= _) _ _ s;refine wab (tupleItemsOf_ ht ?_);refine wab (wpAny_typeOf hTs ?_);rw[if_pos xwd];refine wab (HT.sliceApplied_gen hs pl pu ?_);have hyes:(((HT.sIx items.size 0 lo:Nat):Int) == 0 && (1:Int) == 1 && (HT.sIx items.size items.size hi-HT.sIx items.size 0 lo) == items.size)=true:=by rw[hw.1,hw.2];simp
 show wpAny _ _ (if (((HT.sIx items.size 0 lo:Nat):Int) == 0 && (1:Int) == 1 && (HT.sIx items.size items.size hi-HT.sIx items.size 0 lo) == items.size)=true then _ else _) _ _ s;rw[if_pos hyes];refine wab ?_;unfold Builtin.Tuple.tupleIsExact;refine wab (wpAny_typeOf ht.typeIs (wad ?_));rw[if_pos xwd];refine wab (wpAny_rule ?_);exact wad ⟨_,rfl,wad h⟩
end
section
variable{X:Cx}{C:Cn}{a b e:Expr}{fa fb:De}{pos:Pos}
def rSlW(K:W.Frag):V->Option Int->Option Int->Hp->VK->Prop:=λx lo hi H Q=>∃ a xs,x=.ref a/\SqT K H a xs /\
 (HT.sIx xs.length 0 lo=0/\HT.sIx xs.length xs.length hi=xs.length)/\Q (.ref a) H
theorem zst:SlR X (rSlW X.K):=by
 intro pS s Y H x v vl vu lo hi sl Q I rx hs pl pu h;obtain ⟨a,xs,rfl,hx,hw,q⟩:=h;cases rx;obtain ⟨its,r,ht,hz⟩:=I.tuple hx;have hlen:its.toArray.size=xs.length:=by rw[List.size_toArray];exact r.length.symm
 refine ⟨"tuple",_,PyProof.Rows.slot_tuple_getitem.lookup,ht.typeIs,?_⟩;exact zgb ht hs pl pu (by rw[hlen];exact hw) ⟨.ref a,H,I,rfl,q⟩
def zfG(fa:De)(fl fh:DO):De:=λZ=>(fa Z).bind λa=>(fl a.2).bind λl=>(fh l.2).bind λh=>match a.1 with
 |.tup ds=>.ok (.tup (ziE ds l.1 h.1),h.2)
 |_=>.no
theorem zkr{lo hi:Option Expr}{fl fh:DO}{p2:Pos}(ha:JE X C a fa)(hl:JO X C lo fl)(hh:JO X C hi fh):JE X C (.Subscript a (.Slice lo hi none p2) pos) (zfG fa fl fh) :=
 PE.weak (zop (zw6.or zst) ha hl hh) λY H Q ⟨G,w,Z,r,p⟩=>by
  refine zeL (κ:=λG H w=>kE X.K C Y Q G H w) zcy r p λd Z1 v G1 H1 w1 r1 s1 q1 p1=>?_;refine zx9 (κ:=λG H w=>kE X.K C Y Q G H w) zcy r1 p1 λl Z2 G2 H2 w2 r2 s2 p2=>?_;refine zx9 (κ:=λG H w=>kE X.K C Y Q G H w) zcy r2 p2 λh Z3 G3 H3 w3 r3 s3 p3=>?_;cases d with
  |tup ds =>
   have q3:=q1.same (s2.g.trans s3.g);obtain ⟨ad,vs,rfl,h1,h2⟩:=zgd q3;dsimp only at p3;by_cases hw:HT.sIx ds.length 0 l=0/\HT.sIx ds.length ds.length h=ds.length
   ·refine .inr ⟨ad,vs,rfl,zaO r3.gh h1.sq,by rw[<- h2.length];exact hw,?_⟩;have e:ziE ds l h=ds:=by unfold ziE;rw[hw.1,hw.2,List.drop_zero,Nat.sub_zero,List.take_length]
    rw[e] at p3;exact p3 _ G3 H3 w3 (.refl _ _ _) r3 q3
   ·have fin:∀ p,H3 p=none->Q (.ref p) (upd H3 p (.tup (zpl vs l h))):=λp hp=>by have gr:zeC G3 H3 (upd G3 p (.tup (zpl vs l h))) (upd H3 p (.tup (zpl vs l h))):=.new r3.gh hp;exact p3 _ _ _ w3 gr.step (r3.grow gr) (by unfold Rep;exact ⟨p,_,rfl,zku.of zat,(znZ h2 l h).same gr.g⟩)
    exact .inl ⟨ad,vs,rfl,zaO r3.gh h1.sq,by rw[<- h2.length];exact hw,fin⟩
  |_=>exact p3.elim
end
section
variable{prog:Program}{w:World}{A:Around}{E:Value->Shared->Prop}{s:Shared}
theorem zk7{r:Addr}{a b c:Int}{t u v:Tok}{n:Nat}{Q:List Value->Shared->Prop}(hh:A.handled=none)(hr:IsRange s.heap r a b c t u v)(hsmall:Builtin.Range.small a b c=true)
  (hn:Builtin.Range.rangeSize a b c=n) (hlen:n<=2 ^ 24)
  (h:∀(h':Heap)(tk:Nat)(acc:Array Value),s.heap.objs.size<=h'.objs.size->(∀ b o,s.heap.get? b=some o->h'.get? b=some o)->ItemsOf (λi v=>∃ t,v=.int (a+i * c) t) acc n->Q acc.toList { s with heap:=h',toks:=tk }) :
  wpAny (model prog w) A (collect (.ref r)) Q E s:=by
 unfold collect;refine wab (wpAny_runValue (codeAny_builtin entry_proto_collect' ?_));show wpAny _ _ (do again (.builtin "list.__iadd__" ⟨[<- newList [],.ref r],[]⟩)) _ _ s;refine wab (wpAny_newList (wad ⟨Code.quiet_builtin _ xwD,codeAny_builtin entry_list_iadd' ?_⟩));show wpAny _ _ (Builtin.List.listExtendWith (.ref s.heap.objs.size) (.ref r) (.ref s.heap.objs.size)) _ _ { s with heap:=s.heap.push (seqObj "list" #[] 0) };have hS0:(s.heap.push (seqObj "list" #[] 0)).get? s.heap.objs.size=some { cls:=.type "list",data:=.seq #[] 0 }:=waj _ rfl;have hpl:plainId "list.__iadd__"=true:=by decide +kernel
 rw[Around.under_plainId hpl _];refine wpAny_extend_range (A:=A) (R:=λr s'=>match r with
    |.ok (.ret v)=>wpAny (model prog w) A (match v with
      |.ref a=>do
       let o <- load a
       match o.data with
        |.seq xs _=>pure xs.toList
        |_=>unsupported "internal:collect"
      |_=>unsupported "internal:collect") Q E s'
    |.ok _=>False
    |.error e=>E e s') (s:={ s with heap:=s.heap.push (seqObj "list" #[] 0) }) hh (waa _ hr) hsmall hn hlen s.heap.objs.size (.ref s.heap.objs.size) 0 hS0 λh' tk acc' c' hk hS hacc=>?_
 have hz:∀ b o,s.heap.get? b=some o->h'.get? b=some o:=λb o e=>hk b o (waM (wai e)) (waa _ e);refine wab (wpAny_load hS ?_);exact wad (h h' tk acc' (Nat.le_of_lt (wai hS)) hz hacc)
theorem ziM{r:Addr}{a b c:Int}{t u v:Tok}{n:Nat}{Q₁:Value->Shared->Prop}(hh:A.handled=none)(hr:IsRange s.heap r a b c t u v)(hsmall:Builtin.Range.small a b c=true)
  (hn:Builtin.Range.rangeSize a b c=n) (hlen:n<=2 ^ 24)
  (h:∀(h':Heap)(tk:Nat)(acc:Array Value),s.heap.objs.size<=h'.objs.size->(∀ b o,s.heap.get? b=some o->h'.get? b=some o)->ItemsOf (λi v=>∃ t,v=.int (a+i * c) t) acc n->Q₁ (.ref h'.objs.size) { s with heap:=h'.push { cls:=.type "tuple",data:=.seq acc },toks:=tk }) :
  codeAny (model prog w) A (.call (.builtin "tuple.__new__") ⟨[.type "tuple",.ref r],[]⟩) (wants Q₁ E) s:=by
 refine codeAny_of_tree ?_;show wpAny _ A.in1 (do checkBuiltinCall "tuple.__new__" ⟨[.type "tuple",.ref r],[]⟩;again (.builtin "tuple.__new__" ⟨[.type "tuple",.ref r],[]⟩)) _ _ s;refine wab (wpAny_of_eq (F.newCall_tuple_1 _) (wad ⟨plainId_quiet F.plain_tuple_new _,codeAny_builtin F.entry_tuple_new ?_⟩));rw[Around.under_plainId F.plain_tuple_new _];have hsub:=sub_tuple_self;have hinit:=init_tuple_lookup;have hmh:=madeHere_tuple;have hTI:s.TypeIs (.ref r) "range":=⟨_,hr,rfl⟩
 wp_walk using wpAny_typeOf hTI,zk7 (A:=A.in1) hh hr hsmall hn hlen
 intro h' tk acc hle hk hacc;show wpAny _ _ (Builtin.Tuple.tupleExact acc.toList.toArray >>= λv=>ret v) _ _ _;unfold Builtin.Tuple.tupleExact;refine wab (wpAny_newObj_type ?_ (by show acc.toList.toArray.size<=sizeLine;simp only[Array.toArray_toList];rw[hacc.1,zdd];exact hlen));refine wad ?_;have e:acc.toList.toArray=acc:=by simp
 rw[e];exact h h' tk acc hle hk hacc
theorem zil{r:Addr}{a b c:Int}{t u v:Tok}{n:Nat}{Q:Value->Shared->Prop}(hh:A.handled=none)(hr:IsRange s.heap r a b c t u v)(hsmall:Builtin.Range.small a b c=true)
  (hn:Builtin.Range.rangeSize a b c=n) (hlen:n<=2 ^ 24)
  (hQ:∀(h':Heap)(tk:Nat)(acc:Array Value),s.heap.objs.size<=h'.objs.size->(∀ b o,s.heap.get? b=some o->h'.get? b=some o)->ItemsOf (λi v=>∃ t,v=.int (a+i * c) t) acc n->Q (.ref h'.objs.size) { s with heap:=h'.push { cls:=.type "tuple",data:=.seq acc },toks:=tk }) :
  wpAny (model prog w) A (call (.type "tuple") [.ref r]) Q E s:=by
 refine callType_codes (Q₁:=λobj s₁=>s₁.TypeIs obj "tuple"/\Q obj s₁) F.called_tuple (F.typeCall_tuple_1 _) F.entry_object_init
  (ziM hh hr hsmall hn hlen λh' tk acc hle hk hacc=>⟨⟨_,waj _ rfl,rfl⟩,hQ h' tk acc hle hk hacc⟩) λobj s₁ h₁=>?_
 exact ⟨h₁.1,F.args_object_init_2 obj _,object_init_meets F.called_tuple.init.lookup F.called_tuple.made xwd prog w A.in1 _ s₁ ⟨h₁.1,rfl,h₁.2⟩⟩
theorem zni{l:Addr}{vs:List Value}{Q:List Value->Shared->Prop}(hl:s.heap.IsTuple l vs.toArray)
  (h:Q vs { s with heap:=(s.heap.push (seqObj "list" #[] 0)).update s.heap.objs.size (Obj.mapSeq (·++vs.toArray)) }) (hsz:vs.length<=sizeLine) :
  wpAny (model prog w) A (collect (.ref l)) Q E s:=by
 obtain ⟨o,ho,hc,n,hd⟩:=id hl;unfold collect;refine wab (wpAny_runValue (codeAny_builtin entry_proto_collect' ?_));show wpAny _ _ (do again (.builtin "list.__iadd__" ⟨[<- newList [],.ref l],[]⟩)) _ _ s;refine wab (wpAny_newList (wad ⟨Code.quiet_builtin _ xwD,codeAny_builtin entry_list_iadd' ?_⟩));show wpAny _ _ (Builtin.List.listExtendWith (.ref s.heap.objs.size) (.ref l) (.ref s.heap.objs.size)) _ _ { s with heap:=s.heap.push (seqObj "list" #[] 0) };unfold Builtin.List.listExtendWith;have ho':(s.heap.push (seqObj "list" #[] 0)).get? l=some o:=waa _ ho;refine wab (wpAny_typeOf (T:="tuple") ⟨o,ho',hc⟩ ?_);have ht:(Value.type "tuple" == Value.type "tuple")=true:=by rfl
 rw[if_pos (by rw[ht];simp)];refine wab (listItems_at ho' hd ?_);refine wab (listItems_at (xs:=#[]) (n:=0) (waj _ rfl) rfl ?_);rw[if_neg xws];refine wab (listUpdate_at (xs:=#[]) (n:=0) (waj _ rfl) rfl ?_ (Nat.zero_le _) (by show (#[]++vs.toArray).size<=sizeLine+1;simp only[Array.size_append,waf,List.length_nil];lia));refine wad ?_;show wpAny (model prog w) A (do
   let o <- load s.heap.objs.size
   match o.data with
   |.seq xs _=>pure xs.toList
   |_=>unsupported "internal:collect") Q E { s with heap:=(s.heap.push (seqObj "list" #[] 0)).update s.heap.objs.size (Obj.mapSeq (·++vs.toArray)) }
 refine wab (wpAny_load (get?_update_seq (waj _ rfl) _) ?_);show wpAny _ _ (pure ((#[]:Array Value)++vs.toArray).toList) Q E _;rw[show ((#[]:Array Value)++vs.toArray).toList=vs by simp];exact wad h
theorem zle{l:Addr}{vs:List Value}{ns:List Int}{Q:Value->Shared->Prop}(hl:s.heap.IsTuple l vs.toArray)(hI:IntsAre vs ns)(h64:vs.length<64)
  (h:∀(out:Array Value)(ns':List Int),IntsAre out.toList ns'->ns'.Perm ns->ns'.Pairwise (· <= ·)->Q (.ref (s.heap.objs.size+1)) { s with heap:=sortedAll s.heap vs out }) :
  wpAny (model prog w) A (call (.builtin "sorted") [.ref l]) Q E s:=by
 refine Calls.call_function_entry kind_sorted plain_sorted entry_sorted (args_sorted1 _) ?_;unfold Builtin.«sorted»;refine wab (m:=checkCount "sorted" 1 1 _) (wad ?_);refine wab (zni hl ?_ (by rw[zdd];lia));refine wab (wpAny_newList ?_);have hsz:((s.heap.push (seqObj "list" #[] 0)).update s.heap.objs.size (Obj.mapSeq (·++vs.toArray))).objs.size=s.heap.objs.size+1:=by rw[Heap.size_update,size_push']
 have hoL:(((s.heap.push (seqObj "list" #[] 0)).update s.heap.objs.size (Obj.mapSeq (·++vs.toArray))).push (seqObj "list" vs.toArray 0)).get? (s.heap.objs.size+1)=some (seqObj "list" vs.toArray 0):=by rw[<- hsz];exact waj _ rfl
 show wpAny _ _ _ _ _ { s with heap:=((s.heap.push (seqObj "list" #[] 0)).update s.heap.objs.size (Obj.mapSeq (·++vs.toArray))).push (seqObj "list" vs.toArray 0) };rw[hsz];refine wab (wpAny_holding (wpAny_call_entry slot_list_sort ⟨_,hoL,rfl⟩ entry_list_sort (list_sort_tree hoL hI h64 λout ns' a1 a2 a3=>⟨_,rfl,?_⟩) (args_list_sort _)));exact wad ⟨_,rfl,h out ns' a1 a2 a3⟩
end
section
variable{X:Cx}{C:Cn}{a b e:Expr}{fa fb:De}{pos:Pos}
theorem zo2:zcZ X (.builtin "sorted") (λxs H Q=>∃(p:Addr)(ns:List Int),xs=[.ref p]/\SqT X.K H p (ns.map V.int)/\ns.length<64/\∀ l,H l=none->Q (.ref l) (upd H l (.lst ((zaR ns).map V.int)))):=by
 intro pS s Y H xs us Q I r h;obtain ⟨p,ns,rfl,hq,hl,q⟩:=h;obtain ⟨u,rfl,ru⟩:=zf6 r;cases ru;obtain ⟨its,rv,pl,hz⟩:=I.tuple hq;have hlen:its.length=ns.length:=by rw[<- rv.length];simp
 refine zle (show s.heap.IsTuple p its.toArray from pl) (PV.intsAre_of rv) xwl λout ns' a1 a2 a3=>?_;have e:ns'=zaR ns:=W.lks_uniq (a2.trans (zaI ns).symm) a3 (zcn ns);subst e;obtain ⟨c,hc⟩:=PyProof.Rows.sortedAll_at s.heap its out;refine ⟨.ref (s.heap.objs.size+1),_,I.laid (t':=s.toks) (λb o=>PyProof.Rows.sortedAll_old) (Nat.le_succ _) (o:=.lst ((zaR ns).map V.int)) ⟨?_,out.toList,c,PV.vals_ints a1,?_⟩,rfl,q _ (I.hok.fresh (Nat.le_succ _))⟩
 ·rw[List.length_map,(zaI ns).length_eq,zdd];lia
 ·simpa using hc
def zd4:List Dt->R (List Dt)
 |[.tup l]=>match zkV l with
  |some ns=>if ns.length<64 then .ok ((zaR ns).map .int) else .no
  |none=>.no
 |_=>.no
theorem zrK{K:W.Frag}:FnN K (λxs H Q=>∃(p:Addr)(ns:List Int),xs=[.ref p]/\SqT K H p (ns.map V.int)/\ns.length<64/\∀ l,H l=none->Q (.ref l) (upd H l (.lst ((zaR ns).map V.int)))) zd4:=λG H vs ds z Q gh hr e k=>by
 unfold zd4 at e;split at e
 ·split at e
  ·rename_i ns en;split at e
   ·rename_i hl;obtain ⟨v,rfl,h1⟩:=zgh hr;obtain ⟨a,us,rfl,h2,h3⟩:=zgd h1;cases e;rw[zjT h3 en] at h2;exact ⟨a,ns,rfl,zaO gh h2.sq,hl,λl hl=>k l _ hl (zi2 _)⟩
   ·cases e
  ·cases e
 ·cases e
theorem zse:znl zd4:=λx n h=>by
 unfold zd4 at h;split at h
 ·split at h
  ·split at h <;> cases h
  ·cases h
 ·cases h
theorem znI{x:Expr}{p:Pos}(hg:Gl X "sorted")(hm:X.mg "sorted"=none)(ha:JE X C x fa)(hs:starEach [x] X.env=(false,eval x X.env)::starEach [] X.env:=by rfl)(hpl:(backTo pos (starEach [] X.env)).any (·.1)=false:=by rfl) :
  JN X C (.Call (.Name "sorted" p) [x] [] pos) (zdL zd4 (dA fa dA0)) :=
 zox zrK zse zo2 hg hm PyProof.Rows.boot_sorted (zao ha za1 hs) xwd xwd hs hpl
theorem ziG(hc:X.calm=true):zcZ X (.type "tuple") (λxs H Q=>∃(p:Addr)(j:Int),xs=[.ref p]/\H p=some (.rng 0 j)/\0<=j/\j<=16777216/\∀ l,H l=none->Q (.ref l) (upd H l (.tup ((List.range j.toNat).map λk=>V.int (0+(k:Nat)))))):=by
 intro pS s Y H xs us Q I r h;obtain ⟨p,j,rfl,hp,j0,j1,q⟩:=h;obtain ⟨u,rfl,ru⟩:=zf6 r;cases ru;obtain ⟨t,u,v,e⟩:=(show zdP X.prog X.w H s.heap p (.rng 0 j) from I.hok p _ hp)
 refine zil (n:=j.toNat) (I.ok.hd hc) e (small_one xwl xwl xwl xwl) (by rw[rangeSize_one];split <;> lia) xwl λh' tk acc' hle hk hacc=>?_;refine ⟨.ref h'.objs.size,_,I.laid (t':=tk) (λb o q=>waa _ (hk b o q)) hle (o:=.tup ((List.range j.toNat).map λk=>V.int (0+(k:Nat)))) ⟨?_,acc'.toList,?_,0,by simpa using waj (o:={ cls:=.type "tuple",data:=.seq acc' }) h' rfl⟩,rfl,q _ (I.hok.fresh hle)⟩
 ·rw[List.length_map,List.length_range,zdd];lia
 ·refine zgT j.toNat acc'.toList (by rw[Array.length_toList];exact hacc.1) λi v' ev=>?_;obtain ⟨t',ht'⟩:=hacc.2 i v' (by simpa using ev);exact ⟨t',by rw[ht',Int.mul_one]⟩
def zmu(fa:De):De:=λZ=>(fa Z).bind λa=>match a.1 with
 |.int j=>if 0<=j/\j<=16777216 then .ok (.tup (zca 0 j.toNat),a.2) else .no
 |_=>.no
theorem zvg{p1 p2 pos2:Pos}(hc:X.calm=true)(hg:Gl X "tuple")(hm:X.mg "tuple"=none)(hg2:Gl X "range")(hm2:X.mg "range"=none)(ha:JE X C e fa)(hs:starEach [e] X.env=[(false,eval e X.env)]:=by rfl)
  (hs2:starEach [.Call (.Name "range" p2) [e] [] pos2] X.env=(false,eval (.Call (.Name "range" p2) [e] [] pos2) X.env)::starEach [] X.env:=by rfl) (hpl:(backTo pos (starEach [] X.env)).any (·.1)=false:=by rfl) :
  JE X C (.Call (.Name "tuple" p1) [.Call (.Name "range" p2) [e] [] pos2] [] pos) (zmu fa) :=
 PE.weak (zg5 (ziG hc) hg hm PyProof.Rows.boot_tuple (zbn (ztC hg2 hm2 (zao ha za1 (by rw[hs];rfl)) hs) zde hs2) xwd xwd hs2 hpl) λY H Q ⟨G,w,Z,r,p⟩=>by
  unfold zmu at p;refine ⟨G,w,Z,r,?_⟩;unfold dA dA0;cases e:fa Z with
  |ok x =>
   obtain ⟨d,Z1⟩:=x;rw[e] at p;intro vs G1 H1 w1 s1 r1 q;obtain ⟨v,t,rfl,q1,q2⟩:=q.cons_inv;rw[q2.nil_inv];have p1:=zc1.step (κ:=λG H w=>kE X.K C Y Q G H w) zcy s1 p;cases d with
   |int j =>
    refine ⟨j,by rw[zaB q1],λp hp=>?_⟩;have p1:zc1 C.ex (kE X.K C Y Q G1 H1 w1) (if 0<=j/\j<=16777216 then .ok (.tup (zca 0 j.toNat),Z1) else .no):=p1;by_cases hj:0<=j/\j<=16777216
    ·rw[if_pos hj] at p1;refine ⟨p,j,rfl,zat,hj.1,hj.2,λl hl=>?_⟩;have gr:zeC G1 H1 G1 (upd H1 p (.rng 0 j)):=.newH r1.gh hp;have r2:=r1.grow gr;have gr2:zeC G1 (upd H1 p (.rng 0 j)) (upd G1 l (.tup ((List.range j.toNat).map λk=>V.int (0+(k:Nat))))) (upd (upd H1 p (.rng 0 j)) l (.tup ((List.range j.toNat).map λk=>V.int (0+(k:Nat))))):=.new r2.gh hl;exact p1 _ _ _ w1 (gr.step.trans gr2.step) (r2.grow gr2) (by unfold Rep;exact ⟨l,_,rfl,zku.of zat,zg9 _⟩)
    ·rw[if_neg hj] at p1;exact p1.elim
   |_=>exact waO p1
  |er n=>rw[e] at p;exact p
  |no=>rw[e] at p;exact p
end
end PV
end
section
namespace PV
open PySem PySem.Spec L2
structure ZpL(h:Heap)(z TI TO i1 i2 l1 l2:Addr)(f0:Value)(k:Nat):Prop where
 z:IsZip h z TI TO f0
 ti:IsPair h TI (.ref i1) (.ref i2)
 to:∃ a b,IsPair h TO a b
 a1:h.IsListIter i1 l1 k
 a2:h.IsListIter i2 l2 k
theorem ZpL.keep{h h':Heap}{z TI TO i1 i2 l1 l2:Addr}{f0:Value}{k:Nat}(p:ZpL h z TI TO i1 i2 l1 l2 f0 k)(e:∀ b∈[z,TI,TO,i1,i2],∀ o,h.get? b=some o->h'.get? b=some o):ZpL h' z TI TO i1 i2 l1 l2 f0 k :=
 ⟨e z xws _ p.z,e TI xws _ p.ti,let ⟨a,b,q⟩:=p.to;⟨a,b,e TO xws _ q⟩,p.a1.at λo q=>e i1 xws o q,p.a2.at λo q=>e i2 xws o q⟩
theorem zgt{z TI TO i1 i2 l1 l2:Addr}(D:ZpD z TI TO i1 i2)(n1:∀ b∈[z,TI,TO,i1,i2],b≠l1)(n2:∀ b∈[z,TI,TO,i1,i2],b≠l2):ZipApart z TI TO i1 i2 l1 l2 :=
 ⟨D.d1,D.d2,D.d3,D.d4,D.d5,D.d6,D.d7,D.d8,D.d9,D.d0,(n1 z xws).symm,(n1 TO xws).symm,(n1 i1 xws).symm,(n1 i2 xws).symm,(n2 z xws).symm,(n2 TO xws).symm,(n2 i1 xws).symm,(n2 i2 xws).symm⟩
def Itl(K:W.Frag)(a b:Addr):It :=
 ⟨λi H=>∃ xs ys x y,SqL K H a xs/\SqL K H b ys/\xs[i]? = some x/\ys[i]? = some y,
   λi H v H'=>∃ p x y,v=.ref p/\H p=none/\H'=upd H p (.tup [x,y])/\(∀ xs,SqL K H a xs->xs[i]? = some x)/\∀ ys,SqL K H b ys->ys[i]? = some y,
   λi H=>∃ xs ys,SqL K H a xs/\SqL K H b ys/\xs.length<=i⟩
theorem zpN{P:Program}{w:World}{K:W.Frag}{elts:List Expr}{x1}{ps:Pos}{a b z TI TO i1 i2:Addr}(D:ZpD z TI TO i1 i2):zqo P w K (.Tuple elts x1 ps) (Itl K a b) [z,TI,TO,i1,i2] z (λi h=>ZpL h z TI TO i1 i2 a b .none i) where
 mem:=by simp
 obj:=λi h st c hc=>by
  obtain ⟨s1,s2,⟨oa,ob,s3⟩,⟨o4,s4,_,d4⟩,⟨o5,s5,_,d5⟩⟩:=st;simp only[wap,wak,or_false] at hc;rcases hc with rfl|rfl|rfl|rfl|rfl
  ·exact ⟨_,s1,λv q=>by cases q⟩
  ·exact ⟨_,s2,λv q=>by cases q⟩
  ·exact ⟨_,s3,λv q=>by cases q⟩
  ·exact ⟨_,s4,λv q=>by rw[d4] at q;cases q⟩
  ·exact ⟨_,s5,λv q=>by rw[d5] at q;cases q⟩
 keep:=λi h h' st k=>st.keep k
 item:=by
  intro X hP hw hK hc i pS s Y H E I hf st hg;subst hP hw hK;obtain ⟨xs,ys,x,y,q1,q2,hx,hy⟩:=hg;obtain ⟨its,rv,p,hz⟩:=I.list q1;obtain ⟨jts,rw',p',hz'⟩:=I.list q2;obtain ⟨u,hu,ru⟩:=rv.get hx;obtain ⟨v,hv,rv'⟩:=rw'.get hy;obtain ⟨oa0,ob0,hto⟩:=st.to;have AP:=zgt D (λc hc=>znA I (hf c hc) q1) (λc hc=>znA I (hf c hc) q2);refine wpAny_pyNext_zip_item (x:=u) (y:=v) AP st.z st.ti hto st.a1 st.a2 p.isList p'.isList (by simpa using hu) (by simpa using hv) λh' b1 b2 b3 b4 ht b6 hk=>?_;refine ⟨_,rfl,wpAny_letOwnedTupleGo_zip b1 λh2 hz2 sb=>?_⟩;have hzp:∀ c∈[z,TI,TO,i1,i2],c≠s.heap.objs.size:=λc hc q=>by
   obtain ⟨s1,s2,⟨oa,ob,s3⟩,⟨o4,s4,_⟩,⟨o5,s5,_⟩⟩:=st;simp only[wap,wak,or_false] at hc;subst q;rcases hc with rfl|rfl|rfl|rfl|rfl
   ·exact absurd (wai s1) (waL _)
   ·exact absurd (wai s2) (waL _)
   ·exact absurd (wai s3) (waL _)
   ·exact absurd (wai s4) (waL _)
   ·exact absurd (wai s5) (waL _)
  have st2:ZpL h2 z TI TO i1 i2 a b .none (i+1) :=
   ⟨hz2,sb.extBut _ _ D.d1 (hk TI _ D.d1 D.d5 D.d6 D.d7 st.ti),⟨_,_,sb.extBut _ _ D.d2 b2⟩,b3.extBut sb.extBut D.d3,b4.extBut sb.extBut D.d4⟩
  have hk2:∀ c ob,c∉[z,TI,TO,i1,i2]->s.heap.get? c=some ob->h2.get? c=some ob:=λc ob nc e=>by simp only[wap,wak,or_false,not_or] at nc;exact sb.extBut _ _ nc.1 (hk c ob nc.1 nc.2.2.1 nc.2.2.2.1 nc.2.2.2.2 e)
  have hth:∀ c ob,s.heap.get? c=some ob->∃ ob',h2.get? c=some ob':=λc ob e=>by
   by_cases nc:c∈[z,TI,TO,i1,i2]
   ·obtain ⟨s1,s2,⟨oa,ob,s3⟩,⟨o4,s4,_⟩,⟨o5,s5,_⟩⟩:=st2;simp only[wap,wak,or_false] at nc;rcases nc with rfl|rfl|rfl|rfl|rfl
    ·exact ⟨_,s1⟩
    ·exact ⟨_,s2⟩
    ·exact ⟨_,s3⟩
    ·exact ⟨_,s4⟩
    ·exact ⟨_,s5⟩
   ·exact ⟨ob,hk2 c ob nc e⟩
  have hnew:h2.get? s.heap.objs.size=some { cls:=.type "tuple",data:=.seq #[u,v] }:=sb.extBut _ _ (Ne.symm (hzp z xws)) ht;have IN:L2.Inv X pS Y (upd H s.heap.objs.size (.tup [x,y])) { s with heap:=h2 }:=zfL (s:=s) (t':=s.toks) (o:=.tup [x,y]) I hf hk2 (wal _) hth ⟨by show 2<=sizeLine;decide,[u,v],.cons ru (.cons rv' .nil),0,hnew⟩;exact ⟨.ref s.heap.objs.size,_,IN,rfl,
   ⟨_,x,y,rfl,I.hok.fresh (wal _),rfl,λzs q=>by rw[I.list_inj q q1];exact hx,λzs q=>by rw[I.list_inj q q2];exact hy⟩,st2,λc hc=>by rw[zau (hzp c hc)];exact (hf c hc).1⟩
 done:=by
  intro X hP hw hK hc i pS s Y H E I hf st hg;subst hP hw hK;obtain ⟨xs,ys,q1,q2,hx⟩:=hg;obtain ⟨its,rv,p,hz⟩:=I.list q1;obtain ⟨jts,rw',p',hz'⟩:=I.list q2;have hl:=rv.length;obtain ⟨oa0,ob0,hto⟩:=st.to;have AP:=zgt D (λc hc=>znA I (hf c hc) q1) (λc hc=>znA I (hf c hc) q2);refine wpAny_pyNext_zip_end (I.ok.hd hc) AP st.z st.ti hto st.a1 st.a2 p.isList p'.isList (.inl (by simp;lia)) λh' hk=>⟨rfl,?_⟩
  refine zey (t':=s.toks) I hf λc ob nc e=>?_;simp only[wap,wak,or_false,not_or] at nc;exact hk c ob nc.1 nc.2.2.1 nc.2.2.2.1 nc.2.2.2.2 e
 self:=λ_ _ _ _ _ st h=>wpAny_pyIter_zip st.z h
theorem zwr{K:W.Frag}{G:Hp}{a b:Addr}{vs us:List V}{ds es:List Dt}(hs:G a=some (.lst vs))(ht:G b=some (.lst us))(q:za6 K G ds vs)(q':za6 K G es us)(hl:ds.length=es.length):zo4 K (Itl K a b) G ((ds.zip es).map λz=>.tup [z.1,z.2]):=λi G1 H s1 s2=>by
 have h1:SqL K H a vs:=SqL.of (s2 _ _ (s1 _ _ hs));have h2:SqL K H b us:=SqL.of (s2 _ _ (s1 _ _ ht));refine ⟨λd e=>?_,λh=>⟨vs,us,h1,h2,?_⟩⟩
 ·rw[List.getElem?_map] at e;have hi:i<ds.length:=by
   by_cases hi:i<ds.length
   ·exact hi
   ·rw[List.getElem?_eq_none (by rw[List.length_zip];lia)] at e;cases e
  have z1:ds[i]? = some ds[i]:=by simp[hi]
  have z2:es[i]? = some (es[i]'xwl):=by simp[show i<es.length by lia]
  obtain ⟨v,e1,e2⟩:=q.get z1;obtain ⟨u,e3,e4⟩:=q'.get z2;have ed:d=.tup [ds[i],es[i]'xwl]:=by rw[(List.getElem?_zip_eq_some (z:=(ds[i],es[i]'xwl))).mpr ⟨z1,z2⟩] at e;exact (waA e).symm
  refine ⟨⟨vs,us,v,u,h1,h2,e1,e3⟩,λx H' y=>?_⟩;obtain ⟨p,x',y',rfl,hp,rfl,k1,k2⟩:=y;have kx:=k1 vs h1;have ky:=k2 us h2;rw[e1] at kx;rw[e3] at ky;cases kx;cases ky;have gr:zeC G1 H (upd G1 p (.tup [v,u])) (upd H p (.tup [v,u])):=.new s2 hp;refine ⟨_,gr,?_⟩;rw[ed];unfold Rep;exact ⟨p,[v,u],rfl,zku.of zat,za6.cons ((e2.same s1).same gr.g) (za6.cons ((e4.same s1).same gr.g) za6.nil)⟩
 ·rw[<- q.length];simpa [hl] using h
def zqk(fa fb:De):DA:=λZ=>(fa Z).bind λa=>(fb a.2).bind λb=>match a.1,b.1 with
 |.tup l,.tup r=>if l.length=r.length then .ok ((l.zip r).map λz=>.tup [z.1,z.2],b.2) else .no
 |.lst l,.lst r=>if l.length=r.length then .ok ((l.zip r).map λz=>.tup [z.1,z.2],b.2) else .no
 |_,_=>.no
section
variable{X:Cx}{C:Cn}{elts:List Expr}{x1:Nat}{pt:Pos}{a b:Expr}{fa fb:De}{p pos:Pos}
theorem zvb(hg:Gl X "zip")(hm:X.mg "zip"=none)(ha:JE X C a fa)(hb:JE X C b fb)(hs:starEach [a,b] X.env=(false,eval a X.env)::starEach [b] X.env:=by rfl)(hs2:starEach [b] X.env=(false,eval b X.env)::starEach [] X.env:=by rfl)(hpl:(backTo pos (starEach [b] X.env)).any (·.1)=false:=by rfl) :
  JI X C (.Tuple elts x1 pt) (.Call (.Name "zip" p) [a,b] [] pos) (zqk fa fb):=by
 intro pS s Y H R I ⟨G,w,Z,r,pp⟩;refine PyProof.Rows.Call_ (zeD I hg hm PyProof.Rows.boot_zip (PyProof.Rows.callWith_type1 (thn (zao ha (zao hb za1 hs2) hs pos pS s Y H (λvs H1=>∃(l1 l2:Addr)(xs ys:List V),vs=[.ref l1,.ref l2]/\((SqT X.K H1 l1 xs/\SqT X.K H1 l2 ys/\R (Itz X.K l1 l2) H1)\/(SqL X.K H1 l1 xs/\SqL X.K H1 l2 ys/\R (Itl X.K l1 l2) H1))) I ?_) λus s1 ⟨vs,H1,I1,r1,q1⟩=>?_) hs hpl))
 ·refine ⟨G,w,Z,r,?_⟩;unfold zqk at pp;unfold dA dA0;cases e:fa Z with
  |ok x =>
   obtain ⟨d,Z1⟩:=x;rw[e] at pp;simp only[PV.R.bind_ok] at pp ⊢;cases e2:fb Z1 with
   |ok y =>
    obtain ⟨d2,Z2⟩:=y;rw[e2] at pp;simp only[PV.R.bind_ok] at pp ⊢;intro vs G1 H1 w1 s1 r1 q;obtain ⟨v,u,rfl,k1,k2⟩:=zuX q;cases d with
    |tup l =>
     cases d2 with
     |tup l' =>
      dsimp only at pp;by_cases hl:l.length=l'.length
      ·rw[if_pos hl] at pp;obtain ⟨a1,xs,rfl,m1,m2⟩:=zbF k1;obtain ⟨a2,ys,rfl,m3,m4⟩:=zbF k2;exact ⟨a1,a2,xs,ys,rfl,.inl ⟨zaO r1.gh m1,zaO r1.gh m3,pp _ G1 H1 w1 s1 r1 (zwe m1 m3 m2 m4 hl)⟩⟩
      ·rw[if_neg hl] at pp;exact pp.elim
     |_=>exact waO pp
    |lst l =>
     cases d2 with
     |lst l' =>
      dsimp only at pp;by_cases hl:l.length=l'.length
      ·rw[if_pos hl] at pp;obtain ⟨a1,xs,rfl,m1,m2⟩:=zaT k1;obtain ⟨a2,ys,rfl,m3,m4⟩:=zaT k2;exact ⟨a1,a2,xs,ys,rfl,.inr ⟨SqL.of (r1.gh _ _ m1),SqL.of (r1.gh _ _ m3),pp _ G1 H1 w1 s1 r1 (zwr m1 m3 m2 m4 hl)⟩⟩
      ·rw[if_neg hl] at pp;exact pp.elim
     |_=>exact waO pp
    |_=>exact waO pp
   |er n=>rw[e2] at pp;exact pp
   |no=>rw[e2] at pp;exact pp
  |er n=>rw[e] at pp;exact pp
  |no=>rw[e] at pp;exact pp
 ·obtain ⟨l1,l2,xs,ys,rfl,q⟩:=q1;obtain ⟨u1,u2,rfl,c1,c2⟩ : ∃ u1 u2,us=[u1,u2]/\zcs (.ref l1) u1/\zcs (.ref l2) u2:=by
   cases r1 with
   |cons h1 t=>cases t with
    |cons h2 t2=>cases t2;exact ⟨_,_,rfl,h1,h2⟩
  cases c1;cases c2;have D:ZpD (s1.heap.objs.size+4) (s1.heap.objs.size+2) (s1.heap.objs.size+3) s1.heap.objs.size (s1.heap.objs.size+1):=zxn _;have hfp:∀ c∈[s1.heap.objs.size+4,s1.heap.objs.size+2,s1.heap.objs.size+3,s1.heap.objs.size,s1.heap.objs.size+1],zfA X pS H1 c:=λc hc=>by
   have hle:s1.heap.objs.size<=c:=by
    simp only[wap,wak,or_false] at hc;rcases hc with rfl|rfl|rfl|rfl|rfl
    ·exact waT ..
    ·exact waT ..
    ·exact waT ..
    ·exact wal _
    ·exact waT ..
   exact I1.fpOk hle (I1.hok.fresh hle)
  rcases q with ⟨k1,k2,q⟩|⟨k1,k2,q⟩
  ·obtain ⟨its,rv,p1,_⟩:=I1.tuple k1;obtain ⟨jts,rw',p2,_⟩:=I1.tuple k2;refine zv6 (show s1.heap.IsTuple l1 its.toArray from p1) (show s1.heap.IsTuple l2 jts.toArray from p2) λh' zp hk=>?_;refine wpAny_pyIter_zip zp.z ?_;exact ⟨s1.heap.objs.size+4,[s1.heap.objs.size+4,s1.heap.objs.size+2,s1.heap.objs.size+3,s1.heap.objs.size,s1.heap.objs.size+1],_,_,H1,rfl,I1.kept (t':=s1.toks) hk,zrE D,zp,hfp,q⟩
  ·obtain ⟨its,rv,p1,_⟩:=I1.list k1;obtain ⟨jts,rw',p2,_⟩:=I1.list k2;refine call_zip_2 p1.isList p2.isList λh' b1 b2 b3 b4 b5 b6 hk=>?_;refine wpAny_pyIter_zip b1 ?_;exact ⟨s1.heap.objs.size+4,[s1.heap.objs.size+4,s1.heap.objs.size+2,s1.heap.objs.size+3,s1.heap.objs.size,s1.heap.objs.size+1],_,_,H1,rfl,I1.kept (t':=s1.toks) hk,zpN D,⟨b1,b2,⟨_,_,b3⟩,b4,b5⟩,hfp,q⟩
end
end PV
end
section
namespace PV
open PySem PySem.Spec L2 PyProof.Rows
def zsF:Dt->Bool
 |.non=>true
 |_=>false
theorem zlY{K:W.Frag}{G:Hp}:∀{d:Dt}{v:V},Rep K G d v->decide (v=V.non)=zsF d
 |.non,v,h=>by unfold Rep at h;subst h;rfl
 |.bl _,v,h=>by unfold Rep at h;subst h;rfl
 |.int _,v,h=>by unfold Rep at h;subst h;rfl
 |.str _,v,h=>by unfold Rep at h;subst h;rfl
 |.tup _,v,h=>by unfold Rep at h;obtain ⟨a,vs,rfl,_⟩:=h;rfl
 |.lst _,v,h=>by unfold Rep at h;obtain ⟨a,vs,rfl,_⟩:=h;rfl
 |.dct _,v,h=>by unfold Rep at h;obtain ⟨a,rfl,_⟩:=h;rfl
 |.scr _,v,h=>by unfold Rep at h;obtain ⟨a,rfl,_⟩:=h;rfl
def zoV(b:Bool)(fa:De):DT:=λZ=>(fa Z).bind λa=>.ok (b == zsF a.1,a.2)
section
variable{X:Cx}{C:Cn}{a:Expr}{fa:De}{pos pn:Pos}{j:Nat}
theorem zqj(ha:JE X C a fa):JT X C (.Compare a [.Is] [.Constant .none j pn] pos) (zoV true fa) :=
 PT.weak (ztU (zx4 ha)) λY H Q ⟨G,w,Z,r,p⟩=>by
  unfold zoV at p;refine zeL (κ:=λG H w=>kT X.K C Y Q G H w) zoB r p λd Z1 v G1 H1 w1 r1 s1 q1 p1=>⟨_,rfl,?_⟩
  rw[zlY q1];have:=p1 _ _ _ (.refl _ _ _) r1;simpa using this
theorem zvI(ha:JE X C a fa):JT X C (.Compare a [.IsNot] [.Constant .none j pn] pos) (zoV false fa) :=
 PT.weak (ztU (zvl ha)) λY H Q ⟨G,w,Z,r,p⟩=>by
  unfold zoV at p;refine zeL (κ:=λG H w=>kT X.K C Y Q G H w) zoB r p λd Z1 v G1 H1 w1 r1 s1 q1 p1=>⟨_,rfl,?_⟩
  rw[zlY q1];have:=p1 _ _ _ (.refl _ _ _) r1;simpa using this
end
def zsR(i:Nat)(f2 f3:De)(F:FD):De:=λZ=>match Z[i]? with
 |some (some (.own _))=>(f2 Z).bind λb=>(f3 b.2).bind λc=>match c.2[i]? with
  |some (some (.own l))=>match F [.val (.lst l),.val b.1,.val c.1] with
   |.ok (.lst ds,_)=>.ok (.int ds.length,c.2)
   |_=>.no
  |_=>.no
 |_=>.no
section
variable{X:Cx}{C:Cn}{CX:CXT}{k k':Nat}{ks:List Bool}{Fd:FD}{x a:Str}{e2 e3:Expr}{f2 f3:De}{p pl pos posl pa:Pos}
theorem zuQ(i:Nat)(D:Dfn false X.prog X.w X.K X.mg X.base CX C.xv k x ks Fd)(hr:zgm k' X.A)(hk:k<=k')(hx:zfe CX X (EXc C))(hml:X.mg "len"=none)(hb:JE X C e2 f2)(hc:JE X C e3 f3)(hN:X.N[i]? = some a:=by rfl)
  (hv:Vis X.env.scope a:=by exact xwV)
  (d1:(a == ("__debug__" : Str))=false:=by decide) (d2:(a == ("__classdict__" : Str))=false:=by decide)
  (hg:Gl X x:=by rfl) (hgl:Gl X "len":=by rfl) (hdb:(x == ("__debug__" : Str))=false:=by decide) (he:starEach [.Name a pa,e2,e3] X.env=(false,eval (.Name a pa) X.env)::starEach [e2,e3] X.env:=by rfl) (he2:starEach [e2,e3] X.env=(false,eval e2 X.env)::starEach [e3] X.env:=by rfl) (he3:starEach [e3] X.env=(false,eval e3 X.env)::starEach [] X.env:=by rfl)
  (hpl:(backTo pos (starEach [e2,e3] X.env)).any (·.1)=false:=by rfl)
  (hsl:starEach [.Call (.Name x p) [.Name a pa,e2,e3] [] pos] X.env=(false,eval (.Call (.Name x p) [.Name a pa,e2,e3] [] pos) X.env)::starEach [] X.env:=by rfl) (hpl2:(backTo posl (starEach [] X.env)).any (·.1)=false:=by rfl) :
  JE X C (.Call (.Name "len" pl) [.Call (.Name x p) [.Name a pa,e2,e3] [] pos] [] posl) (zsR i f2 f3 Fd):=by
 obtain ⟨f,fd,ps,h1,h2,h3,h4,h5⟩:=D.ex;refine PE.weak (zfq (zfo.or zgZ) hgl hml ztr (zbn (zmP h1 (hr.mono hk) hg h2 h3 h4 .nil hx (zbn (zd2 (i:=i) hN hv d1 d2) (zbn hb (zbn hc zde he3) he2) he) hdb he hpl) zde hsl) xwd xwd hsl hpl2) λY H Q ⟨G,w,Z,r,q⟩=>?_;unfold zsR at q;split at q
 case h_2=>exact q.elim
 rename_i l0 ei0;obtain ⟨al,vs0,e1,_,_,_⟩:=zd0 r ei0;refine ⟨.ref al,e1,?_⟩;refine zeL (κ:=λG H w=>kE X.K C Y Q G H w) zcy r q λd Z1 v G1 H1 w1 r1 s1 q1 p1=>?_;refine zeL (κ:=λG H w=>kE X.K C Y Q G H w) zcy r1 p1 λd' Z2 v2 G2 H2 w2 r2 s2 q2 p2=>?_;dsimp only at p2;split at p2
 case h_2=>exact p2.elim
 rename_i l ei;obtain ⟨al',vs,e1',e2,e3,e4⟩:=zd0 r2 ei;rw[e1] at e1';cases e1';have hgl:G2 al=none:=r2.wg al (by rw[e2];simp);have sg:zdN G2 (upd G2 al (.lst vs)):=λb u e=>by rw[zau (zav e hgl)];exact e
 split at p2
 case h_2=>exact p2.elim
 rename_i ds bs' eF;have hks:zdE [.val (.lst l),.val d,.val d']=ks:=h5 _ (by rw[eF];exact λz=>by cases z);refine ⟨upd G2 al (.lst vs),λ_=>none,[.val (.lst l),.val d,.val d'],by rw[<- hks];rfl,hks,⟨λb u e=>?_,λb e=>absurd rfl e,λb e=>absurd rfl e,rfl,λjj bz vz g1 g2=>?_⟩,?_⟩
 ·by_cases hb:b=al
  ·subst hb;rw[zat] at e;cases e;exact e3
  ·rw[zau hb] at e;exact r2.gh b u e
 ·match jj with
  |0 =>
   cases g1;cases g2;show Rep X.K _ (.lst l) (.ref al);unfold Rep;exact ⟨al,vs,rfl,zat,e4.same sg⟩
  |1 =>
   cases g1;cases g2;exact Rep.same sg (q1.same s2.g)
  |2 =>
   cases g1;cases g2;exact Rep.same sg q2
  |n+3=>simp at g1
 ·rw[eF];intro v' G' H' w' s' pb rt;obtain ⟨a',us,ea,h6,h7⟩:=zaT (K:=X.K) (G:=G') rt;subst ea;have st:zbP G2 H2 w2 G2 H' w2:=⟨.refl _,λb u e=>.inl (by rw[e];simp),λb u e _=>s'.h b u e rfl,λ_ e=>.inl e,s'.k⟩
  refine .inl ⟨a',us,rfl,.inl (SqL.of (pb.gh _ _ h6)),?_⟩;rw[<- h7.length];refine p2 _ G2 H' w2 st ⟨λb u e=>s'.h b u (r2.gh b u e) rfl,r2.wg,λb e z=>r2.wh b e (s'.k b z),r2.len,λi' b' e=>?_,r2.en.trans st,r2.pin⟩ (by unfold Rep;rfl);obtain ⟨v2,g1,g2⟩:=r2.sl i' b' e;exact ⟨v2,g1,g2.grow (.refl _) λa' o q1 q2=>⟨s'.h a' o q2 rfl,q1⟩⟩
end
end PV
end
section
namespace PV
open PySem PySem.Spec PyProof.Rows L2
namespace RV
theorem zib:Manifest.owners.lookup "reversed"=some Manifest.sig_reversed:=by kernel_rfl
theorem zfm:Slot "reversed" "__next__" "reversed.__next__" :=
 .of (owner:="reversed") (n:="__next__") (by rw[typeLookup_type,builtinLookup_eq_fast];kernel_rfl) xwD xwD xwD
  (by first|exact .inl xwD|exact .inr xwD) (by rw[isSubtype_type];kernel_rfl)
theorem zjP:entryFor table "reversed.__next__"=some Builtin.«reversed.__next__» := entryFor_of_tree xwk
theorem zll(a:Value):argsOk "reversed.__next__" ⟨[a],[]⟩:=by unfold argsOk;rw[signature?_of (id:="reversed.__next__") (n:=['_','_','t','x','e','n','_','_']) (o:=['d','e','s','r','e','v','e','r']) xwk zib];kernel_rfl
theorem zmj:Slot "reversed" "__iter__" "reversed.__iter__" :=
 .of (owner:="reversed") (n:="__iter__") (by rw[typeLookup_type,builtinLookup_eq_fast];kernel_rfl) xwD xwD xwD
  (by first|exact .inl xwD|exact .inr xwD) (by rw[isSubtype_type];kernel_rfl)
theorem zrm(a:Value):argsOk "reversed.__iter__" ⟨[a],[]⟩:=by unfold argsOk;rw[signature?_of (id:="reversed.__iter__") (n:=['_','_','r','e','t','i','_','_']) (o:=['d','e','s','r','e','v','e','r']) xwk zib];kernel_rfl
theorem zoZ:entryFor table "reversed.__iter__"=some Builtin.«dict_keyiterator.__iter__» :=
 entryFor_alias (id':="dict_keyiterator.__iter__") xwk (by first|rfl|decide +kernel|(unfold String.splitOn;simp +decide [String.splitOnAux])) xwD xwk
theorem zwP:typeLookup (.type "reversed") "__len__"=pure none:=by rw[typeLookup_type,builtinLookup_eq_fast];kernel_rfl
theorem hint:typeLookup (.type "reversed") "__length_hint__"=pure (some (.builtin "reversed.__length_hint__")):=by rw[typeLookup_type,builtinLookup_eq_fast];kernel_rfl
theorem zw8:typeLookup (.type "tuple") "__reversed__"=pure none:=by rw[typeLookup_type,builtinLookup_eq_fast];kernel_rfl
theorem zp4:Slot "reversed" "__init__" "object.__init__" :=
 .of (owner:="object") (n:="__init__") (by rw[typeLookup_type,builtinLookup_eq_fast];kernel_rfl) xwD xwD xwD
  (by first|exact .inl xwD|exact .inr xwD) (by rw[isSubtype_type];kernel_rfl)
theorem zvZ:TypeCalled "reversed" "reversed.__new__" "object.__init__":=⟨xwD,F.create_reversed,⟨_,_,F.mro_reversed⟩,F.made_reversed,F.plain_reversed_new,F.sub_reversed_self,zp4⟩
theorem tup_at{h h':Heap}{t:Addr}{items:Array Value}(x:IsTup h t items)(e:∀ o,h.get? t=some o->h'.get? t=some o):IsTup h' t items:=let ⟨o,ho,r⟩:=x;⟨o,e _ ho,r⟩
def rvObj(t:Addr)(i:Int):Obj:={ cls:=.type "reversed",data:=.fields #[.ref t,rawInt i] }
def IsRv(h:Heap)(a t:Addr)(i:Int):Prop:=h.get? a=some (rvObj t i)
theorem zpR(t:Addr)(items:Array Value)(hn:(items.size:Int)<2 ^ 62) :
  Meets (Builtin.«reversed.__new__» ⟨[.type "reversed",.ref t],[]⟩) (λ_ R s=>IsTup s.heap t items/\R (.ok (.ret (.ref s.heap.objs.size))) { s with heap:=s.heap.push (rvObj t ((items.size:Int)-1)),toks:=s.toks+1+1 }) :=
 .of_wp λprog w A R s h=>by
  obtain ⟨ht,h⟩:=h;have hT:s.TypeIs (.ref t) "tuple":=ht.typeIs;unfold Builtin.«reversed.__new__»;refine wab (wpAny_of_eq (newClass_reversed _) ?_)
  try dsimp only
  refine wab (wpAny_of_eq (a:=()) (by first|rfl|kernel_rfl) ?_);refine wab (wpAny_of_eq (a:=()) (by first|rfl|kernel_rfl) ?_)
  try dsimp only
  refine wab (wpAny_specialOf hT zw8 ?_)
  try dsimp only
  refine wab ?_
  wp_delta
  refine wab (wpAny_isInstance (T:="tuple") (b:=false) hT (by rw[isSubtype_type];kernel_rfl) ?_);refine wpAny_ite_split (λh=>absurd h xwd) (λ_=>?_)
  try dsimp only
  refine wab (wpAny_specialOf hT F.slot_tuple_getitem.lookup ?_)
  try dsimp only
  refine wpAny_ite_split (λ_=>?_) (λh=>absurd xwD h);refine wad ?_;refine wpAny_ite_split (λh=>absurd h xwd) (λ_=>?_);refine wab (len_tuple ht xwo ?_);refine wab (wpAny_of_eq (a:=some (items.size:Int)) rfl ?_)
  try dsimp only
  refine wab (show wpAny _ _ (newObj (.type "reversed") (.fields #[.ref t,rawInt ((items.size:Int)-1)])) _ _ _ from ?_);exact wpAny_newObj_type (wad ⟨_,rfl,h⟩)
section
variable{prog:Program}{w:World}{A:Around}{E:Value->Shared->Prop}{s:Shared}
theorem IsRv.typeIs{a t:Addr}{i:Int}(x:IsRv s.heap a t i):s.TypeIs (.ref a) "reversed":=⟨_,x,rfl⟩
theorem call_new{t:Addr}{items:Array Value}{Q:Value->Shared->Prop}(ht:IsTup s.heap t items)(hn:(items.size:Int)<2 ^ 62)(h:Q (.ref s.heap.objs.size) { s with heap:=s.heap.push (rvObj t ((items.size:Int)-1)),toks:=s.toks+1+1 }) :
  wpAny (model prog w) A (call (.type "reversed") [.ref t]) Q E s :=
 callType_new zvZ xwd (F.typeCall_reversed_1 _) (F.newCall_reversed_1 _) (λobj=>F.args_object_init_2 obj _) F.entry_reversed_new (zpR t items hn) ⟨ht,⟨_,waj _ rfl,rfl⟩,h⟩
theorem zrb{it t:Addr}{i:Nat}{items:Array Value}{x:Value}{Q:Option Value->Shared->Prop}(hit:IsRv s.heap it t (i:Int))(ht:IsTup s.heap t items)(hn:(items.size:Int)<2 ^ 62)(hx:items[i]? = some x)
  (hQ:∀ h' tk,IsRv h' it t ((i:Int)-1)->Heap.SameBut it s.heap h'->Q (some x) { s with heap:=h',toks:=tk }):wpAny (model prog w) A (pyNext (.ref it)) Q E s:=by
 have hT:s.TypeIs (.ref t) "tuple":=ht.typeIs;have hlt:i<items.size:=by obtain ⟨h,_⟩:=Array.getElem?_eq_some_iff.mp hx;exact h
 unfold pyNext;refine wab (wpAny_attempt (wpAny_callSpecial?_slot (name:=Str.ofString "__next__") (IsRv.typeIs hit) zfm
  (wpAny_call_entry zfm (IsRv.typeIs hit) zjP ?_ (zll _))))
 unfold Builtin.«reversed.__next__»;refine wab (wpAny_of_eq (a:=(Value.ref it,[])) rfl ?_)
 try dsimp only
 refine wab (wpAny_field hit (show (rvObj t (i:Int)).data=.fields #[.ref t,rawInt (i:Int)] from rfl) (x:=.ref t) rfl ?_);refine wab (wpAny_field hit (show (rvObj t (i:Int)).data=.fields #[.ref t,rawInt (i:Int)] from rfl) (x:=rawInt (i:Int)) rfl ?_);show wpAny _ _ (if (i:Int)<0 then _ else _) _ _ s;rw[if_neg xwo];refine wab (wpAny_specialOf hT F.slot_tuple_getitem.lookup ?_);refine wpAny_ite_split (λh=>absurd h xwd) (λ_=>?_);refine wab (wpAny_mkInt ?_);have hk:seqIndex? (i:Int) items.size=some i:=by
  unfold seqIndex?;simp only
  first|(rw[if_neg xwo];simp;omega)|(simp;omega)
 refine wab (wpAny_attempt (getItem_tuple ht xwo xwo hk hx ?_))
 try dsimp only
 refine wab (wpAny_field hit (show (rvObj t (i:Int)).data=.fields #[.ref t,rawInt (i:Int)] from rfl) (x:=rawInt (i:Int)) rfl ?_);show wpAny _ _ (setField (.ref it) 1 (rawInt ((i:Int)-1)) >>= _) _ _ _;refine wab (wpAny_setField hit (show (rvObj t (i:Int)).data=.fields #[.ref t,rawInt (i:Int)] from rfl) xws ?_);refine wad ⟨x,rfl,wad (hQ _ _ ?_ (Heap.SameBut.update ..))⟩;exact (Heap.get?_update_self _ hit (Obj.isFreed_of_fields (Obj.data_mapFields (show (rvObj t (i:Int)).data=.fields #[.ref t,rawInt (i:Int)] from rfl) _))).trans rfl
theorem zsQ{it t:Addr}{Q:Option Value->Shared->Prop}(hh:A.handled=none)(hit:IsRv s.heap it t (-1))
  (hQ:∀ h',Heap.ExtBut it s.heap h'->Q none { s with heap:=h' }):wpAny (model prog w) A (pyNext (.ref it)) Q E s:=by
 unfold pyNext;refine wab (wpAny_attempt (wpAny_callSpecial?_slot (name:=Str.ofString "__next__") (IsRv.typeIs hit) zfm
  (wpAny_call_entry zfm (IsRv.typeIs hit) zjP ?_ (zll _))))
 unfold Builtin.«reversed.__next__»;refine wab (wpAny_of_eq (a:=(Value.ref it,[])) rfl ?_)
 try dsimp only
 refine wab (wpAny_field hit (show (rvObj t (-1)).data=.fields #[.ref t,rawInt (-1)] from rfl) (x:=.ref t) rfl ?_);refine wab (wpAny_field hit (show (rvObj t (-1)).data=.fields #[.ref t,rawInt (-1)] from rfl) (x:=rawInt (-1)) rfl ?_);show wpAny _ _ (if (-1:Int)<0 then _ else _) _ _ s;rw[if_pos xwd];refine wab (wpAny_rule ?_);refine wab ?_
 wp_delta
 refine wab (wpAny_setField hit (show (rvObj t (-1)).data=.fields #[.ref t,rawInt (-1)] from rfl) xws ?_);have h1:(s.heap.update it (Obj.mapFields λfs=>fs.set! 1 (rawInt (-1)))).get? it=some (rvObj t (-1)):=(Heap.get?_update_self _ hit (Obj.isFreed_of_fields (Obj.data_mapFields (show (rvObj t (-1)).data=.fields #[.ref t,rawInt (-1)] from rfl) _))).trans rfl;refine wpAny_setField h1 (show (rvObj t (-1)).data=.fields #[.ref t,rawInt (-1)] from rfl) xws ?_;refine wab ?_;show wpAny _ _ (newExc (.type "StopIteration") [] >>= _) _ _ _;refine wab ?_;simp only[newExc,newTuple];refine wab (wpAny_newObj_type ?_ (by size_fits));refine wab (m:=firstArgMember _ _) (wpAny_of_eq (a:=Value.none) (by first|rfl|(simp only[firstArgMember];rfl)) ?_);refine wpAny_newObj_type ?_ (by size_fits);simp only[raiseNew];refine wab (wpAny_handled ?_)
 first|rw[show A.in1.handled=none from hh]|rw[hh]
 refine wab (wad (wpAny_throw ?_));refine wab (wpAny_isInstance (T:="StopIteration") (b:=true) ⟨_,waj _ rfl,rfl⟩ isSubtype_stop ?_);refine wad (hQ _ ?_);have e0:Heap.ExtBut it s.heap ((s.heap.update it (Obj.mapFields λfs=>fs.set! 1 (rawInt (-1)))).update it (Obj.mapFields λfs=>fs.set! 0 Value.none)):=λb o hb e=>(Heap.get?_update_other _ _ (Ne.symm hb)).trans ((Heap.get?_update_other _ _ (Ne.symm hb)).trans e);exact (e0.push _).push _
theorem zlZ{it t:Addr}{i:Int}{Q:Value->Shared->Prop}(hit:IsRv s.heap it t i)(h:Q (.ref it) s):wpAny (model prog w) A (pyIter (.ref it)) Q E s:=by refine wpAny_pyIter_slot (IsRv.typeIs hit) zmj (wpAny_call_entry zmj (IsRv.typeIs hit) zoZ ?_ (zrm _));show wpAny _ _ (ret (.ref it)) _ _ s;exact wad ⟨_,rfl,"reversed",_,IsRv.typeIs hit,zfm.lookup,h⟩
end
theorem IsRv.at{h h':Heap}{a t:Addr}{i:Int}(x:IsRv h a t i)(e:∀ o,h.get? a=some o->h'.get? a=some o):IsRv h' a t i:=e _ x
theorem zya{prog:Program}{w:World}{A:Around}(hh:A.handled=none)(I t:Addr)(hne:t≠I)(items:Array Value)(hn:(items.size:Int)<2 ^ 62) :
  Walks prog w A I [I,t] [I] items.size (λi v=>items[items.size-1-i]? = some v) (λi h=>i<=items.size/\IsRv h I t ((items.size:Int)-1-(i:Int))/\IsTup h t items) where
 sub:=λb hb=>by simp at hb;simp[hb]
 frame:=λ_ _ _ x hk=>⟨x.1,IsRv.at x.2.1 λo e=>hk I xws o e,tup_at x.2.2 λo e=>hk t xws o e⟩
 item:=λi s Q E hi x hQ=>by
  have e:(items.size:Int)-1-(i:Int)=((items.size-1-i:Nat):Int):=by omega
  have hit:=x.2.1;rw[e] at hit;have hx:items[items.size-1-i]? = some (items[items.size-1-i]'xwo):=Array.getElem?_eq_getElem xwo;refine zrb hit x.2.2 hn hx λh' tk hit' hs'=>?_;have e2:((items.size-1-i:Nat):Int)-1=(items.size:Int)-1-((i+1:Nat):Int):=by omega
  rw[e2] at hit';exact hQ _ h' tk hx ⟨hi,hit',tup_at x.2.2 λo e=>(hs'.2 t hne).trans e⟩ λb o hb eo=>hs'.extBut b o (λh=>hb (by simp[h])) eo
 done:=λs Q E x hQ=>by
  have e:(items.size:Int)-1-(items.size:Int) = -1:=by omega
  have hit:=x.2.1;rw[e] at hit;exact zsQ hh hit λh' he'=>hQ h' s.toks λb o hb eo=>he' b o (λh=>hb (by simp[h])) eo
 self:=λ_ _ _ _ x hQ=>zlZ x.2.1 hQ
theorem zrr(a:Value):argsOk "reversed.__length_hint__" ⟨[a],[]⟩:=by unfold argsOk;rw[signature?_of (id:="reversed.__length_hint__") (n:=['_','_','t','n','i','h','_','h','t','g','n','e','l','_','_']) (o:=['d','e','s','r','e','v','e','r']) xwk zib];kernel_rfl
theorem zlR:Slot "reversed" "__length_hint__" "reversed.__length_hint__" :=
 .of (owner:="reversed") (n:="__length_hint__") hint xwD xwD xwD
  (by first|exact .inl xwD|exact .inr xwD) (by rw[isSubtype_type];kernel_rfl)
theorem zpk:entryFor table "reversed.__length_hint__"=some Builtin.«reversed.__length_hint__» := entryFor_of_tree xwk
section
variable{prog:Program}{w:World}{A:Around}{E:Value->Shared->Prop}{s:Shared}
theorem zpW{it t:Addr}{items:Array Value}{Q:Value->Shared->Prop}(hit:IsRv s.heap it t ((items.size:Int)-1))(ht:IsTup s.heap t items)(hn:(items.size:Int)<2 ^ 62)
  (h:∀ tk tk',Q (.int (items.size:Int) tk) { s with toks:=tk' }):wpAny (model prog w) A (call (.builtin "reversed.__length_hint__") [.ref it]) Q E s:=by
 refine wpAny_call_entry zlR (IsRv.typeIs hit) zpk ?_ (zrr _);unfold Builtin.«reversed.__length_hint__»;refine wab (wpAny_of_eq (a:=Value.ref it) rfl ?_);refine wab (wpAny_field hit (show (rvObj t ((items.size:Int)-1)).data=.fields #[.ref t,rawInt ((items.size:Int)-1)] from rfl) (x:=.ref t) rfl ?_);refine wpAny_ite_split (λh=>absurd (show (Value.ref t == Value.none)=true from h) Bool.false_ne_true) (λ_=>?_);refine wab (len_tuple ht xwo ?_);refine wab (wpAny_of_eq (a:=some (items.size:Int)) rfl ?_)
 try dsimp only
 refine wab (wpAny_field hit (show (rvObj t ((items.size:Int)-1)).data=.fields #[.ref t,rawInt ((items.size:Int)-1)] from rfl) (x:=rawInt ((items.size:Int)-1)) rfl ?_);show wpAny _ _ (if (items.size:Int)<(items.size:Int)-1+1 then _ else _) _ _ _;rw[if_neg xwo];rw[show (items.size:Int)-1+1=items.size by omega];exact wab (wpAny_mkInt (wad ⟨_,rfl,h _ _⟩))
theorem zwx{R:Result->Shared->Prop}{it t:Addr}{items:Array Value}(hh:A.handled=none)(hit:IsRv s.heap it t ((items.size:Int)-1))(ht:IsTup s.heap t items)(hne:t≠it)(hpos:0<items.size)(S:Addr)(res:Value)(c₀:Nat)(hS:s.heap.get? S=some { cls:=.type "list",data:=.seq #[] c₀ })(hSl:S≠t)
  (hn:items.size<=sizeLine)
  (hR:∀ h' tk acc' c',(∀ b o,b≠S->b≠it->s.heap.get? b=some o->h'.get? b=some o)->h'.get? S=some { cls:=.type "list",dict:=none,data:=.seq acc' c',slots:=#[] } ->
   ItemsOf (λi v=>items[items.size-1-i]? = some v) acc' items.size->R (.ok (.ret res)) { s with heap:=h',toks:=tk }) :
  wpAny (model prog w) A.in1 (Builtin.List.listExtendWith (.ref S) (.ref it) res)
   (λfin s'=>match fin with|.done f=>R (.ok f) s'|.again c'=>c'.quiet=true/\codeAny (model prog w) A c' R s') (λe s'=>R (.error e) s') s:=by
 have hn62:(items.size:Int)<2 ^ 62:=by unfold sizeLine at hn;omega
 have hSI:S≠it:=λe=>by rw[e,hit] at hS;have:=congrArg Obj.cls (waA hS);exact absurd (show Value.type "reversed"=Value.type "list" from this) xwD
 have hSf:S∉[it,t]:=λhm=>by
  rcases wap.mp hm with z|z
  ·exact hSI z
  ·exact hSl (List.mem_singleton.mp z)
 unfold Builtin.List.listExtendWith;refine wab (wpAny_typeOf (T:="reversed") (IsRv.typeIs hit) ?_);have h1:Builtin.List.listSameRef (.ref S) (.ref it)=false:=by simp[Builtin.List.listSameRef,hSI]
 have h2:(Value.type "reversed" == Value.type "list")=false:=by decide +kernel
 have h3:(Value.type "reversed" == Value.type "tuple")=false:=by decide +kernel
 simp only[h1,h2,h3,Bool.or_false,Bool.false_eq_true,if_false];refine wab (zlZ hit ?_);refine wab (wpAny_holding ?_);unfold Builtin.List.listLengthHint;refine wab (wpAny_specialOf (IsRv.typeIs hit) zwP ?_);show wpAny _ A.in1 (specialOf (Value.ref it) (Str.ofString "__length_hint__") >>= _) _ _ _;refine wab (wpAny_specialOf (IsRv.typeIs hit) hint ?_)
 wp_delta
 refine wab (wpAny_isInstance (T:="reversed") (b:=true) (IsRv.typeIs hit) (by rw[isSubtype_type];kernel_rfl) ?_);refine wpAny_ite_split (λh=>absurd h xwd) (λ_=>?_);refine wpAny_ite_split (λh=>absurd h xwD) (λ_=>?_);refine wab (wpAny_rule ?_);refine wab (wpAny_of_eq (zlR.bind _) ?_)
 try dsimp only
 refine wab (wpAny_attempt (zpW hit ht hn62 λtk tk'=>?_));generalize hz:(items.size:Int)=z
 try dsimp only
 refine wab (wpAny_of_eq (a:=some z) rfl ?_)
 try dsimp only
 have hf:Builtin.List.listFitsIndex z=true:=by unfold Builtin.List.listFitsIndex;rw[Bool.and_eq_true,decide_eq_true_eq,decide_eq_true_eq];omega
 have hlo:Builtin.List.listTooLong z.toNat=false:=by rw[<- hz,Int.toNat_natCast];unfold Builtin.List.listTooLong;rw[decide_eq_false_iff_not];exact Nat.not_lt.mpr hn
 refine wpAny_ite_split (λh=>absurd h (by rw[hf];decide)) (λ_=>?_);refine wpAny_ite_split (λh=>absurd h xwo) (λ_=>?_);refine wpAny_ite_split (λh=>absurd h (by rw[hlo];decide)) (λ_=>?_);refine wad ?_;rw[show (z != 0:Bool)=true by rw[bne_iff_ne];omega,Bool.true_or,if_pos rfl];refine wab (wpAny_rule ?_);refine wab ?_;show wpAny _ A.in1 (updateSeq S (·.push .none) >>= λ_=>updateSeq S (·.pop)) _ _ _;refine wab (wpAny_updateSeq hS rfl ?_);have hS2:=Heap.get?_update_self (Obj.mapSeq (·.push Value.none)) hS rfl;refine wpAny_updateSeq (hz:=by seq_fits) hS2 rfl ?_;have hS3:=Heap.get?_update_self (Obj.mapSeq (·.pop)) hS2 rfl;have oth:∀ b o,b≠S->s.heap.get? b=some o->((s.heap.update S (Obj.mapSeq (·.push Value.none))).update S (Obj.mapSeq (·.pop))).get? b=some o :=
  λb o hb e=>(Heap.get?_update_other _ _ (Ne.symm hb)).trans ((Heap.get?_update_other _ _ (Ne.symm hb)).trans e)
 have W:=(zya (prog:=prog) (w:=w) (A:=A.in1) hh it t hne items hn62).toS;refine wad ⟨plainId_quiet F.plain_extend_loop _,codeAny_extend_loopS W hn _ hSf _ items.size 0 _ _ _ rfl (Nat.zero_le _) ⟨Nat.zero_le _,by rw[show (items.size:Int)-1-((0:Nat):Int)=(items.size:Int)-1 by omega];exact oth it _ (Ne.symm hSI) hit,tup_at ht λo e=>oth t o (Ne.symm hSl) e⟩ hS3 (ItemsOf.nil _) λs' acc' c' hm hS' hacc=>?_⟩;rw[Moved.eq_with hm];refine hR s'.heap s'.toks acc' c' (λb ob hb hb2 e=>hm.heap b ob (λhmem=>?_) (oth b ob hb e)) hS' hacc;rcases wap.mp hmem with e'|hmem
 ·exact hb e'
 ·exact hb2 (List.mem_singleton.mp hmem)
theorem zuM{R:Result->Shared->Prop}{it t:Addr}{items:Array Value}(hh:A.handled=none)(hit:IsRv s.heap it t ((items.size:Int)-1))(ht:IsTup s.heap t items)(hne:t≠it)(hpos:0<items.size)(S:Addr)(hS:s.heap.get? S=some { cls:=.type "list",data:=.seq #[] })(hSl:S≠t)(hSI:S≠it)
  (hn:items.size<=sizeLine)
  (hR:∀ h' tk acc' c',(∀ b o,b≠S->b≠it->s.heap.get? b=some o->h'.get? b=some o)->h'.get? S=some { cls:=.type "list",dict:=none,data:=.seq acc' c',slots:=#[] } ->
   ItemsOf (λi v=>items[items.size-1-i]? = some v) acc' items.size->R (.ok (.ret .none)) { s with heap:=h',toks:=tk }) :
  wpAny (model prog w) A.in1 (Builtin.«list.__init__» ⟨[.ref S,.ref it],[]⟩)
   (λfin s'=>match fin with|.done f=>R (.ok f) s'|.again c'=>c'.quiet=true/\codeAny (model prog w) A c' R s') (λe s'=>R (.error e) s') s:=by
 show wpAny _ _ (do let old <- Builtin.List.listItems (.ref S);Builtin.List.listUpdate (.ref S) (λ_=>#[]);letGo old.toList.reverse;Builtin.List.listExtendWith (.ref S) (.ref it) .none) _ _ s;refine wab ?_;unfold Builtin.List.listItems;refine wab (wpAny_seqItems hS rfl (wad ?_));show wpAny _ _ (updateSeq S (λ_=>#[]) >>= λ_=>letGo (#[]:Array Value).toList.reverse >>= λ_=>Builtin.List.listExtendWith (.ref S) (.ref it) .none) _ _ s;refine wab (wpAny_updateSeq hS rfl ?_);have k2:=Heap.get?_update_self (Obj.mapSeq (λ_=>(#[]:Array Value))) hS rfl;have oth:∀ b o,b≠S->s.heap.get? b=some o->(s.heap.update S (Obj.mapSeq (λ_=>(#[]:Array Value)))).get? b=some o :=
  λb o hb e=>(Heap.get?_update_other _ _ (Ne.symm hb)).trans e
 refine wab (wpAny_letGo ?_);exact zwx hh (IsRv.at hit λo e=>oth it o (Ne.symm hSI) e) (tup_at ht λo e=>oth t o (Ne.symm hSl) e) hne hpos S .none _ k2 hSl hn λh' tk acc' c' hk hS' hacc=>hR h' tk acc' c' (λb o hb hb2 e=>hk b o hb hb2 (oth b o hb e)) hS' hacc
theorem list_rv{Q:Value->Shared->Prop}{it t:Addr}{items:Array Value}(hh:A.handled=none)(hit:IsRv s.heap it t ((items.size:Int)-1))(ht:IsTup s.heap t items)(hne:t≠it)(hpos:0<items.size)(hn:items.size<=sizeLine)
  (hQ:∀ h' tk acc' c',(∀ b o,b≠it->s.heap.get? b=some o->h'.get? b=some o) ->
   h'.get? s.heap.objs.size=some { cls:=.type "list",dict:=none,data:=.seq acc' c',slots:=#[] }->ItemsOf (λi v=>items[items.size-1-i]? = some v) acc' items.size->Q (.ref s.heap.objs.size) { s with heap:=h',toks:=tk }) :
  wpAny (model prog w) A (call (.type "list") [.ref it]) Q E s:=by
 refine callType_codes (Q₁:=λobj s₁=>obj=.ref s.heap.objs.size/\s₁={ s with heap:=s.heap.push { cls:=.type "list",data:=.seq #[] } }) F.called_list (F.typeCall_list_1 _) F.entry_list_init
  (code_list_new _ ⟨rfl,rfl⟩) λobj s₁ h₁=>?_
 obtain ⟨rfl,rfl⟩:=h₁;have kS:(s.heap.push { cls:=.type "list",data:=.seq #[] }).get? s.heap.objs.size=some { cls:=.type "list",data:=.seq #[] }:=waj _ rfl;have lt1:t≠s.heap.objs.size:=by obtain ⟨o,e,_⟩:=ht;exact waM (wai e)
 have lt2:it≠s.heap.objs.size:=waM (wai hit);refine ⟨⟨_,kS,rfl⟩,F.args_list_init_2 _ _,zuM (A:=A.in1) hh (IsRv.at hit λo e=>waa _ e) (tup_at ht λo e=>waa _ e) hne hpos _ kS (Ne.symm lt1) (Ne.symm lt2) hn λh' tk acc' c' hk hS' hacc=>?_⟩;exact ⟨rfl,hQ h' tk acc' c' (λb o hb e=>hk b o (waM (wai e)) hb (waa _ e)) hS' hacc⟩
end
end RV
def zqR(fa:De):DN:=λZ=>(fa Z).bind λa=>match a.1 with
 |.tup ds=>if ds.length=0 then .no else .ok (ds.reverse,a.2)
 |_=>.no
section
variable{X:Cx}{C:Cn}{a:Expr}{fa:De}{pos:Pos}
theorem zs0{p1 p2 pos2:Pos}(hc:X.calm=true)(hg:Gl X "list")(hm:X.mg "list"=none)(hg2:Gl X "reversed")(hm2:X.mg "reversed"=none)(ha:JE X C a fa)(hs:starEach [a] X.env=[(false,eval a X.env)]:=by rfl)
  (hs2:starEach [.Call (.Name "reversed" p2) [a] [] pos2] X.env=[(false,eval (.Call (.Name "reversed" p2) [a] [] pos2) X.env)]:=by rfl) :
  JN X C (.Call (.Name "list" p1) [.Call (.Name "reversed" p2) [a] [] pos2] [] pos) (zqR fa):=by
 intro pS s Y H Q I ⟨G,w,Z,r,p⟩;refine PyProof.Rows.Call_ (zeD I hg hm PyProof.Rows.boot_list (PyProof.Rows.callWith_type1 ?_ hs2 rfl));rw[hs2];show wpAny _ _ (spliced ((false,eval (.Call (.Name "reversed" p2) [a] [] pos2) X.env)::backTo pos (starEach [] X.env))) _ _ s;refine Calls.spliced_cons (PyProof.Rows.Call_ (zeD I hg2 hm2 zol (PyProof.Rows.callWith_type1 (thn (zao ha za1 hs pos2 pS s Y H (λvs H1=>∃(ad:Addr)(zs:List V),vs=[.ref ad]/\zs≠[]/\SqT X.K H1 ad zs/\∀ p,H1 p=none->Q (.ref p) (upd H1 p (.lst zs.reverse))) I ?_) λus s1 ⟨vs,H1,I1,r1,q1⟩=>?_) hs rfl)))
 ·refine ⟨G,w,Z,r,?_⟩;unfold zqR at p;unfold dA dA0;cases e:fa Z with
  |ok x =>
   obtain ⟨d,Z1⟩:=x;rw[e] at p;intro vs G1 H1 w1 s1 r1 q;obtain ⟨v,t,rfl,q1,q2⟩:=q.cons_inv;rw[q2.nil_inv];have p1:=zc1.step (κ:=λG H w=>kN X.K C Y Q G H w) zf4 s1 p;cases d with
   |tup ds =>
    obtain ⟨ad,zs,rfl,h1,h2⟩:=zbF q1;simp only[R.bind_ok] at p1;by_cases h0:ds.length=0
    ·rw[if_pos h0] at p1;exact waO p1
    rw[if_neg h0] at p1;refine ⟨ad,zs,rfl,λz=>h0 (by have:=h2.length;rw[z] at this;simpa using this),zaO r1.gh h1,λp hp=>?_⟩;have gr:zeC G1 H1 G1 (upd H1 p (.lst zs.reverse)):=.newH r1.gh hp;exact p1 p _ G1 _ w1 gr.step (r1.grow gr) hp zat (r1.gh.free hp) (zfn r1 hp) h2.reverse
   |_=>exact waO p1
  |er n=>rw[e] at p;exact p
  |no=>rw[e] at p;exact p
 ·obtain ⟨ad,zs,rfl,hz0,hq,q⟩:=q1;obtain ⟨u,rfl,ru⟩:=zf6 r1;cases ru;obtain ⟨its,rv,pl,hz⟩:=I1.tuple hq;have hlen:=rv.length;have h62:(its.toArray.size:Int)<2 ^ 62:=by rw[List.size_toArray];unfold sizeLine at hz;omega
  refine RV.call_new pl h62 ?_;refine Calls.spliced_nil ?_;have ne:ad≠s1.heap.objs.size:=by obtain ⟨o,e,_⟩:=id pl;exact waM (wai e)
  have hit:RV.IsRv (s1.heap.push (RV.rvObj ad ((its.toArray.size:Int)-1))) s1.heap.objs.size ad ((its.toArray.size:Int)-1):=waj _ rfl;have hl2:IsTup (s1.heap.push (RV.rvObj ad ((its.toArray.size:Int)-1))) ad its.toArray:=RV.tup_at pl λo e=>waa _ e;have hp0:0<its.toArray.size:=by rw[List.size_toArray,<- hlen];exact List.length_pos_iff.mpr hz0
  refine RV.list_rv (s:={ s1 with heap:=s1.heap.push (RV.rvObj ad ((its.toArray.size:Int)-1)),toks:=s1.toks+1+1 }) (I.ok.hd hc) hit hl2 ne hp0 (by rw[List.size_toArray];omega) λh' tk acc c' hk hS hacc=>?_;have hsz:(s1.heap.push (RV.rvObj ad ((its.toArray.size:Int)-1))).objs.size=s1.heap.objs.size+1:=Heap.size_push ..;have hS':h'.get? (s1.heap.objs.size+1)=some { cls:=.type "list",dict:=none,data:=.seq acc c',slots:=#[] }:=by rw[<- hsz];exact hS
  show EP X pS Y Q (.ref (s1.heap.push (RV.rvObj ad ((its.toArray.size:Int)-1))).objs.size) _;rw[hsz];refine ⟨.ref (s1.heap.objs.size+1),_,I1.laid (h':=h') (t':=tk) (o:=.lst zs.reverse) (λb o e=>hk b o (waM (wai e)) (waa _ e)) (Nat.le_succ _) ⟨?_,acc.toList,c',znD rv hacc,by simpa using hS'⟩,rfl,q _ (I1.hok.fresh (Nat.le_succ _))⟩;rw[List.length_reverse];exact hz
end
end PV
end
section
namespace Lw
open PySem PySem.Spec L2 PV
def top(i:Nat):Stmt:=PySem.Challenge.pw_standtogether_k08_trees_tightened.main.body.getD i (.Pass ⟨0,0,0,0⟩)
abbrev Uf(K:W.Frag)(mg:Str->Option Value)(x:String)(i:Nat):Prop:=∃ f fd,Fun K (Str.ofString x) (Str.ofString x) (top i) f fd/\mg (Str.ofString x)=some (.ref f)
structure Tx(K:W.Frag)(mg:Str->Option Value):Prop where
 u_is_whole:Uf K mg "is_whole" 5
 u_check_guests:Uf K mg "check_guests" 6
 u_is_leaf:Uf K mg "is_leaf" 8
 u_row_as_written:Uf K mg "row_as_written" 9
 u_guests_in:Uf K mg "guests_in" 10
 u_least_guest:Uf K mg "least_guest" 11
 u_put_least:Uf K mg "put_least" 12
 u_share:Uf K mg "share" 17
 u_with_share:Uf K mg "with_share" 18
 u_bunched:Uf K mg "bunched" 19
 u_leaning_order:Uf K mg "leaning_order" 20
 u_laid:Uf K mg "laid" 22
 u_leaned:Uf K mg "leaned" 21
 u_touching:Uf K mg "touching" 23
 u_tighten_any:Uf K mg "tighten_any" 24
 u_tighten_row:Uf K mg "tighten_row" 25
 u_tighten_within:Uf K mg "tighten_within" 26
 u_tighten:Uf K mg "tighten" 27
 u_tightened:Uf K mg "tightened" 28
 u__law_cell_at:Uf K mg "_law_cell_at" 30
 u__law_state:Uf K mg "_law_state" 31
 u__law_take:Uf K mg "_law_take" 32
 u__law_mixed_row:Uf K mg "_law_mixed_row" 33
 u__law_tree:Uf K mg "_law_tree" 34
 u__law_party:Uf K mg "_law_party" 35
 u__law_side:Uf K mg "_law_side" 36
 u__law_perms:Uf K mg "_law_perms" 37
 u__law_leaves:Uf K mg "_law_leaves" 38
 u__law_of_tree:Uf K mg "_law_of_tree" 39
 u__law_rows_by:Uf K mg "_law_rows_by" 40
 u__law_sits:Uf K mg "_law_sits" 41
 u__law_kept:Uf K mg "_law_kept" 42
 u__law_whole:Uf K mg "_law_whole" 43
 u__law_is_node:Uf K mg "_law_is_node" 44
 u__law_is_tree:Uf K mg "_law_is_tree" 45
 u__law_least:Uf K mg "_law_least" 46
 u__law_same:Uf K mg "_law_same" 47
 u_law:Uf K mg "law" 48
 b_all:mg (Str.ofString "all")=none
 b_bool:mg (Str.ofString "bool")=none
 b_enumerate:mg (Str.ofString "enumerate")=none
 b_int:mg (Str.ofString "int")=none
 b_isinstance:mg (Str.ofString "isinstance")=none
 b_len:mg (Str.ofString "len")=none
 b_list:mg (Str.ofString "list")=none
 b_max:mg (Str.ofString "max")=none
 b_min:mg (Str.ofString "min")=none
 b_range:mg (Str.ofString "range")=none
 b_reversed:mg (Str.ofString "reversed")=none
 b_sorted:mg (Str.ofString "sorted")=none
 b_str:mg (Str.ofString "str")=none
 b_tuple:mg (Str.ofString "tuple")=none
 b_zip:mg (Str.ofString "zip")=none
 g_MOST_GUESTS:∃ t,mg (Str.ofString "MOST_GUESTS")=some (.int 7 t)
 g_NONE_OF_THEM:∃ t,mg (Str.ofString "NONE_OF_THEM")=some (.int 0 t)
 g_SOME_OF_THEM:∃ t,mg (Str.ofString "SOME_OF_THEM")=some (.int 1 t)
 g_ALL_OF_THEM:∃ t,mg (Str.ofString "ALL_OF_THEM")=some (.int 2 t)
section
variable{P:Program}{w:World}{K:W.Frag}{mg:Str->Option Value}{base:Heap}{xv:Nat->Value}{cls:Nat->Addr}
abbrev zo9:List Str:=["thing"]
abbrev zgL:List Str:=["thing"]
theorem zm3:za4 zo9 zgL (zan (top 5)):=⟨rfl,rfl,rfl,xwD,rfl,xwD,xwD⟩
noncomputable def zjJ:DS:=(zbd (zrU (zfw "int" (zab 0)) (zxl (zfw "bool" (zab 0)))))
noncomputable def zdR:FD:=za0 false [false] 0 zjJ
theorem zoT(T:Tx K mg):Dfn false P w K mg base CX0 xv 3 (Str.ofString "is_whole") [false] zdR:=by obtain ⟨f,fd,U,hm⟩:=T.u_is_whole;refine ⟨f,fd,zgL,?_,hm,U.kp,U.binds (ps:=zgL) λ_ _ _ _ _ _ us hl=>match us,hl with|[_],_=>rfl,zas⟩;refine zaA (k:=2) false za9 U zm3 rfl rfl λX C hX hpp hxv hnw hr hx hpo=>?_;subst hxv;obtain ⟨cdv,A,outer,s,H,E,rfl⟩:=hX;exact (zah (zax hnw (zod (zcv zgI rfl T.b_isinstance zcr rfl T.b_int zjI (zaa 0)) (zkT (zpr (zcv zh1 rfl T.b_isinstance zcr rfl T.b_bool zjS (zaa 0)))))))
abbrev ziZ:List Str:=["n"]
abbrev zdJ:List Str:=["n"]
theorem ziB:za4 ziZ zdJ (zan (top 6)):=⟨rfl,rfl,rfl,xwD,rfl,xwD,xwD⟩
noncomputable def zfB:DS:=(dIf (zhl (zdx (dTB (zai zdR (dR (zab 0) dR0)))) (zhl (dTB (dOp gLt (zab 0) (dC (.int 1)))) (dTB (dOp gGt (zab 0) (dC (.int 7)))))) dNo dNx)
noncomputable def zc6:FD:=za0 false [false] 0 zfB
theorem ziK(T:Tx K mg):Dfn false P w K mg base CX0 xv 6 (Str.ofString "check_guests") [false] zc6:=by obtain ⟨f,fd,U,hm⟩:=T.u_check_guests;refine ⟨f,fd,zdJ,?_,hm,U.kp,U.binds (ps:=zdJ) λ_ _ _ _ _ _ us hl=>match us,hl with|[_],_=>rfl,zas⟩;refine zaA (k:=5) false za9 U ziB rfl rfl λX C hX hpp hxv hnw hr hx hpo=>?_;subst hxv;obtain ⟨cdv,A,outer,s,H,E,rfl⟩:=hX;exact (zah (zbt (JW.jt (ziO (zgl (zcu (zaC (zoT T) hr xwo za3 (zac (zaa 0) zaq)))) (ziO (zo0 (zaa 0) zam) (zjl (zr4 (zaa 0) (zbQ rfl T.g_MOST_GUESTS.choose_spec)))))) (zah zrV) zaF))
abbrev zqs:List Str:=["tree"]
abbrev zhR:List Str:=["tree"]
theorem zoU:za4 zqs zhR (zan (top 8)):=⟨rfl,rfl,rfl,xwD,rfl,xwD,xwD⟩
noncomputable def zr2:DS:=(zbd (zxl (zfw "tuple" (zab 0))))
noncomputable def zcM:FD:=za0 false [false] 0 zr2
theorem zlA(T:Tx K mg):Dfn false P w K mg base CX0 xv 3 (Str.ofString "is_leaf") [false] zcM:=by obtain ⟨f,fd,U,hm⟩:=T.u_is_leaf;refine ⟨f,fd,zhR,?_,hm,U.kp,U.binds (ps:=zhR) λ_ _ _ _ _ _ us hl=>match us,hl with|[_],_=>rfl,zas⟩;refine zaA (k:=2) false za9 U zoU rfl rfl λX C hX hpp hxv hnw hr hx hpo=>?_;subst hxv;obtain ⟨cdv,A,outer,s,H,E,rfl⟩:=hX;exact (zah (zax hnw (zpr (zcv zdX rfl T.b_isinstance zcr rfl T.b_tuple zen (zaa 0)))))
abbrev zhh:List Str:=["tree","guests","branch"]
abbrev zce:List Str:=["tree"]
theorem zc5:za4 zhh zce (zan (top 9)):=⟨rfl,rfl,rfl,xwD,rfl,xwD,xwD⟩
noncomputable def zeJ(F_self:FD):DS:=(za2 (dIf (dTB (zai zcM (dR (zab 0) dR0))) (zbd (dFz (zc8 (dA (zab 0) dA0)))) dNx) (za2 (zdC 1 (zc8 dA0)) (za2 (ziF (dIt (dOp gIx (zab 0) (dC (.int 1)))) (zb0 2) (dEx (zhi 1 (zai F_self (dR (zab 2) dR0))))) (zbd (zgC 1)))))
noncomputable def zb4:Nat->FD
 |0=>λ_=>.no
 |n+1=>za0 false [false] 2 (zeJ (zb4 n))
theorem zeI(T:Tx K mg):∀ n,Dfn false P w K mg base CX0 xv (n+5) (Str.ofString "row_as_written") [false] (zb4 n)
 |0=>by obtain ⟨f,fd,U,hm⟩:=T.u_row_as_written;exact zcD rfl U hm (U.binds (ps:=zce) λ_ _ _ _ _ _ us hl=>match us,hl with|[_],_=>rfl)
 |n+1=>by have DS:=zeI T n;obtain ⟨f,fd,U,hm⟩:=T.u_row_as_written;refine ⟨f,fd,zce,?_,hm,U.kp,U.binds (ps:=zce) λ_ _ _ _ _ _ us hl=>match us,hl with|[_],_=>rfl,zas⟩;refine zgu.mono (j:=(n+5)+1) ?_ xwo;refine zaA (k:=n+5) false za9 U zc5 rfl rfl λX C hX hpp hxv hnw hr hx hpo=>?_;subst hxv;obtain ⟨cdv,A,outer,s,H,E,rfl⟩:=hX;exact (zaf (zbt (zcu (zaC (zlA T) hr xwo za3 (zac (zaa 0) zaq))) (zah (zax hnw (zaz (zbE (zao (zaa 0) za1))))) zaF) (zaf (zeT (i:=1) zc5.nd rfl xwO (by rw[hpp];decide) (zbE za1)) (zaf (zg0 hpo rfl (zcg (zbc (zaa 0) zam)) (zbb (i:=2) zc5.nd rfl xwO (by rw[hpp];decide)) (zah (zeq (zm7 1 (zaC DS hr (wal _) za3 (zac (zaa 2) zaq)))))) (zah (zax hnw (zgv 1))))))
abbrev zmG:List Str:=["tree"]
abbrev zfK:List Str:=["tree"]
theorem zkX:za4 zmG zfK (zan (top 10)):=⟨rfl,rfl,rfl,xwD,rfl,xwD,xwD⟩
noncomputable def zmW:DS:=(zbd (dFz (zdL zbh (dA (zai (zb4 8) (dR (zab 0) dR0)) dA0))))
noncomputable def zdp:FD:=za0 false [false] 0 zmW
theorem zhF(T:Tx K mg):Dfn false P w K mg base CX0 xv 16 (Str.ofString "guests_in") [false] zdp:=by obtain ⟨f,fd,U,hm⟩:=T.u_guests_in;refine ⟨f,fd,zfK,?_,hm,U.kp,U.binds (ps:=zfK) λ_ _ _ _ _ _ us hl=>match us,hl with|[_],_=>rfl,zas⟩;refine zaA (k:=15) false za9 U zkX rfl rfl λX C hX hpp hxv hnw hr hx hpo=>?_;subst hxv;obtain ⟨cdv,A,outer,s,H,E,rfl⟩:=hX;exact (zah (zax hnw (zaz (zf0 rfl T.b_sorted (zaC (zeI T 8) hr xwo za3 (zac (zaa 0) zaq))))))
abbrev zkB:List Str:=["tree"]
abbrev zex:List Str:=["tree"]
theorem ziR:za4 zkB zex (zan (top 11)):=⟨rfl,rfl,rfl,xwD,rfl,xwD,xwD⟩
noncomputable def zef:DS:=(zbd (dOp gIx (zai zdp (dR (zab 0) dR0)) (dC (.int 0))))
noncomputable def za7:FD:=za0 false [false] 0 zef
theorem zew(T:Tx K mg):Dfn false P w K mg base CX0 xv 19 (Str.ofString "least_guest") [false] za7:=by obtain ⟨f,fd,U,hm⟩:=T.u_least_guest;refine ⟨f,fd,zex,?_,hm,U.kp,U.binds (ps:=zex) λ_ _ _ _ _ _ us hl=>match us,hl with|[_],_=>rfl,zas⟩;refine zaA (k:=18) false za9 U ziR rfl rfl λX C hX hpp hxv hnw hr hx hpo=>?_;subst hxv;obtain ⟨cdv,A,outer,s,H,E,rfl⟩:=hX;exact (zah (zax hnw (zbc (zaC (zhF T) hr xwo za3 (zac (zaa 0) zaq)) zam)))
abbrev zmH:List Str:=["tree","branches"]
abbrev zeo:List Str:=["tree"]
theorem zd1:za4 zmH zeo (zan (top 12)):=⟨rfl,rfl,rfl,xwD,rfl,xwD,xwD⟩
abbrev ze6:List Str:=["tree","branches","branch"]
theorem zjb:ze6.Nodup:=by decide +kernel
noncomputable def zfU(F_self:FD):DS:=(za2 (dIf (dTB (zai zcM (dR (zab 0) dR0))) (zbd (zab 0)) dNx) (za2 (zaX 1 (dFz (zbl (dIt (dOp gIx (zab 0) (dC (.int 1)))) (zb0 2) dTT (zai F_self (dR (zab 2) dR0)) 1))) (za2 (dIf (dTB (dOp (gEq false) (dOp gIx (zab 0) (dC (.int 0))) (dC (.str (Str.ofString "any"))))) (zaX 1 (dFz (zl3 za7 (zab 1)))) (dIf (dTB (dOp gGt (zai za7 (dR (dOp gIx (zab 1) (dC (.int 0))) dR0)) (zai za7 (dR (dOp gIx (zab 1) (zpg (dC (.int 1)))) dR0)))) (zaX 1 (dFz (zgj (zab 1)))) dNx)) (zbd (zdO (dA (dOp gIx (zab 0) (dC (.int 0))) (dA (dFn zbW (dA (zab 1) dA0)) dA0)))))))
noncomputable def zbD:Nat->FD
 |0=>λ_=>.no
 |n+1=>za0 false [false] 1 (zfU (zbD n))
theorem zhS(T:Tx K mg):∀ n,Dfn false P w K mg base CX0 xv (n+21) (Str.ofString "put_least") [false] (zbD n)
 |0=>by obtain ⟨f,fd,U,hm⟩:=T.u_put_least;exact zcD rfl U hm (U.binds (ps:=zeo) λ_ _ _ _ _ _ us hl=>match us,hl with|[_],_=>rfl)
 |n+1=>by have DS:=zhS T n;obtain ⟨f,fd,U,hm⟩:=T.u_put_least;refine ⟨f,fd,zeo,?_,hm,U.kp,U.binds (ps:=zeo) λ_ _ _ _ _ _ us hl=>match us,hl with|[_],_=>rfl,zas⟩;refine zgu.mono (j:=(n+21)+1) ?_ xwo;refine zaA (k:=n+21) false za9 U zd1 rfl rfl λX C hX hpp hxv hnw hr hx hpo=>?_;subst hxv;obtain ⟨cdv,A,outer,s,H,E,rfl⟩:=hX;exact (zaf (zbt (zcu (zaC (zlA T) hr xwo za3 (zac (zaa 0) zaq))) (zah (zax hnw (zaa 0))) zaF) (zaf (zgQ (i:=1) zd1.nd rfl xwO (by rw[hpp];decide) (zcg (zbc (zaa 0) zam)) rfl (N':=ze6) (m:=1) xwk rfl (zaV xwk) (zb7 xwk) (zb8 xwk) (λcl L s H fp G H' w Y=>⟨(zbb (i:=2) zjb rfl xwO (xwN rfl)),zff,(zaC DS hr (wal _) za3 (zac (zaa 2) zaq))⟩)) (zaf (zbt (zdV (zeA hr) (zbc (zaa 0) zam) zdq) (zah (zaM (i:=1) zd1.nd rfl xwO (by rw[hpp];decide) (zaz (zsH (zew T) hr xwo za3 rfl T.b_sorted (zaa 1))))) (zah (zbt (zr4 (zaC (zew T) hr xwo za3 (zac (zbc (zaa 1) zam) zaq)) (zaC (zew T) hr xwo za3 (zac (zbc (zaa 1) (zos zam)) zaq))) (zah (zaM (i:=1) zd1.nd rfl xwO (by rw[hpp];decide) (zaz (zre rfl rfl T.b_list rfl T.b_reversed (zaa 1))))) zaF))) (zah (zax hnw (zct (zao (zbc (zaa 0) zam) (zao (zdG T.b_tuple (zaa 1)) za1))))))))
end
section
variable{P:Program}{w:World}{K:W.Frag}{mg:Str->Option Value}{base:Heap}{xv:Nat->Value}{cls:Nat->Addr}
abbrev zv7:List Str:=["tree","party","guests","many"]
abbrev zm9:List Str:=["tree","party"]
theorem zkF:za4 zv7 zm9 (zan (top 17)):=⟨rfl,rfl,rfl,xwD,rfl,xwD,xwD⟩
abbrev zgV:List Str:=["tree","party","guests","many","guest"]
theorem zoY:zgV.Nodup:=by decide +kernel
noncomputable def zuq:DS:=(za2 (zaX 2 (zai zdp (dR (zab 0) dR0))) (za2 (zaX 3 (dFn zb5 (dA (dFz (zbl (dIt (zab 2)) (zb0 4) (dTB (dOp (gIn false) (zab 4) (zab 1))) (zab 4) 1)) dA0))) (za2 (dIf (dTB (dOp (gEq false) (zab 3) (dC (.int 0)))) (zbd (dC (.int 0))) dNx) (zbd (zjA (dTB (dOp (gEq false) (zab 3) (dFn zb5 (dA (zab 2) dA0)))) (dC (.int 2)) (dC (.int 1)))))))
noncomputable def zbs:FD:=za0 false [false,false] 2 zuq
theorem zfY(T:Tx K mg):Dfn false P w K mg base CX0 xv 19 (Str.ofString "share") [false,false] zbs:=by obtain ⟨f,fd,U,hm⟩:=T.u_share;refine ⟨f,fd,zm9,?_,hm,U.kp,U.binds (ps:=zm9) λ_ _ _ _ _ _ us hl=>match us,hl with|[_,_],_=>rfl,zas⟩;refine zaA (k:=18) false za9 U zkF rfl rfl λX C hX hpp hxv hnw hr hx hpo=>?_;subst hxv;obtain ⟨cdv,A,outer,s,H,E,rfl⟩:=hX;exact (zaf (zaM (i:=2) zkF.nd rfl xwO (by rw[hpp];decide) (zaC (zhF T) hr xwo za3 (zac (zaa 0) zaq))) (zaf (zaM (i:=3) zkF.nd rfl xwO (by rw[hpp];decide) (zcR T.b_len (zaz (zcp (zcg (zaa 2)) rfl (N':=zgV) (m:=1) xwk rfl (zaV xwk) (zb7 xwk) (zb8 xwk) (λcl L s H fp G H' w Y=>⟨(zbb (i:=4) zoY rfl xwO (xwN rfl)),(zdI (zwQ (zrD hr) (zaa 4) (zaa 1))),(zaa 4)⟩))))) (zaf (zbt (zdV (zeA hr) (zaa 3) zam) (zah (zax hnw (zbQ rfl T.g_NONE_OF_THEM.choose_spec))) zaF) (zah (zax hnw (zhZ (zdV (zeA hr) (zaa 3) (zcR T.b_len (zaa 2))) (zbQ rfl T.g_ALL_OF_THEM.choose_spec) (zbQ rfl T.g_SOME_OF_THEM.choose_spec)))))))
abbrev zlh:List Str:=["branches","party","wanted"]
abbrev zeS:List Str:=["branches","party","wanted"]
theorem zkA:za4 zlh zeS (zan (top 18)):=⟨rfl,rfl,rfl,xwD,rfl,xwD,xwD⟩
abbrev zdZ:List Str:=["branches","party","wanted","branch"]
theorem ziD:zdZ.Nodup:=by decide +kernel
noncomputable def zlL:DS:=(zbd (dFz (zbl (dIt (zab 0)) (zb0 3) (dTB (dOp (gEq false) (zai zbs (dR (zab 3) (dR (zab 1) dR0))) (zab 2))) (zab 3) 1)))
noncomputable def zay:FD:=za0 false [false,false,false] 0 zlL
theorem zbu(T:Tx K mg):Dfn false P w K mg base CX0 xv 22 (Str.ofString "with_share") [false,false,false] zay:=by obtain ⟨f,fd,U,hm⟩:=T.u_with_share;refine ⟨f,fd,zeS,?_,hm,U.kp,U.binds (ps:=zeS) λ_ _ _ _ _ _ us hl=>match us,hl with|[_,_,_],_=>rfl,zas⟩;refine zaA (k:=21) false za9 U zkA rfl rfl λX C hX hpp hxv hnw hr hx hpo=>?_;subst hxv;obtain ⟨cdv,A,outer,s,H,E,rfl⟩:=hX;exact (zah (zax hnw (zaz (zcp (zcg (zaa 0)) rfl (N':=zdZ) (m:=1) xwk rfl (zaV xwk) (zb7 xwk) (zb8 xwk) (λcl L s H fp G H' w Y=>⟨(zbb (i:=3) ziD rfl xwO (xwN rfl)),(zdI (zdV (zeA hr) (zaC (zfY T) hr xwo za3 (zac (zaa 3) (zac (zaa 1) zaq))) (zaa 2))),(zaa 3)⟩)))))
abbrev zq9:List Str:=["branches"]
abbrev zhW:List Str:=["branches"]
theorem zoM:za4 zq9 zhW (zan (top 19)):=⟨rfl,rfl,rfl,xwD,rfl,xwD,xwD⟩
noncomputable def zqE:DS:=(za2 (dIf (dTB (dOp gLt (dFn zb5 (dA (zab 0) dA0)) (dC (.int 2)))) (zeP (zdL ziY (dA (zab 0) dA0))) dNx) (zeP (zc8 (dA (zdO (dA (dC (.str (Str.ofString "any"))) (dA (dFn zbW (dA (zab 0) dA0)) dA0))) dA0))))
noncomputable def zbI:FD:=za0 true [false] 0 zqE
theorem zgs(T:Tx K mg):Dfn true P w K mg base CX0 xv 3 (Str.ofString "bunched") [false] zbI:=by obtain ⟨f,fd,U,hm⟩:=T.u_bunched;refine ⟨f,fd,zhW,?_,hm,U.kp,U.binds (ps:=zhW) λ_ _ _ _ _ _ us hl=>match us,hl with|[_],_=>rfl,zas⟩;refine zaA (k:=2) true za9 U zoM rfl rfl λX C hX hpp hxv hnw hr hx hpo=>?_;subst hxv;obtain ⟨cdv,A,outer,s,H,E,rfl⟩:=hX;exact (zaf (zbt (zo0 (zcR T.b_len (zaa 0)) zam) (zah (zek hnw (zpG T.b_list (zaa 0)))) zaF) (zah (zek hnw (zbE (zao (zct (zao zdq (zao (zdG T.b_tuple (zaa 0)) za1))) za1)))))
abbrev zh7:List Str:=["tree","party","branches","torn","ahead"]
abbrev zdo:List Str:=["tree","party"]
theorem zcf:za4 zh7 zdo (zan (top 20)):=⟨rfl,rfl,rfl,xwD,rfl,xwD,xwD⟩
noncomputable def zeV:DS:=(za2 (zaX 2 (dOp gIx (zab 0) (dC (.int 1)))) (za2 (dIf (dTB (dOp (gEq false) (dOp gIx (zab 0) (dC (.int 0))) (dC (.str (Str.ofString "any"))))) (za2 (zaX 3 (zai zay (dR (zab 2) (dR (zab 1) (dR (dC (.int 1)) dR0))))) (za2 (zaX 4 (dFz (zbm zbI (dR (zai zay (dR (zab 2) (dR (zab 1) (dR (dC (.int 0)) dR0)))) dR0)))) (zeP (zj1 (dFz (zj1 (zab 4) (zab 3))) (dFz (zbm zbI (dR (zai zay (dR (zab 2) (dR (zab 1) (dR (dC (.int 2)) dR0)))) dR0))))))) dNx) (za2 (dIf (dTB (dOp gGt (zai zbs (dR (dOp gIx (zab 2) (dC (.int 0))) (dR (zab 1) dR0))) (zai zbs (dR (dOp gIx (zab 2) (zpg (dC (.int 1)))) (dR (zab 1) dR0))))) (zeP (zqR (zab 2))) dNx) (zeP (zdL ziY (dA (zab 2) dA0))))))
noncomputable def zdj:FD:=za0 true [false,false] 3 zeV
theorem ziC(T:Tx K mg):Dfn true P w K mg base CX0 xv 25 (Str.ofString "leaning_order") [false,false] zdj:=by obtain ⟨f,fd,U,hm⟩:=T.u_leaning_order;refine ⟨f,fd,zdo,?_,hm,U.kp,U.binds (ps:=zdo) λ_ _ _ _ _ _ us hl=>match us,hl with|[_,_],_=>rfl,zas⟩;refine zaA (k:=24) true za9 U zcf rfl rfl λX C hX hpp hxv hnw hr hx hpo=>?_;subst hxv;obtain ⟨cdv,A,outer,s,H,E,rfl⟩:=hX;exact (zaf (zaM (i:=2) zcf.nd rfl xwO (by rw[hpp];decide) (zbc (zaa 0) zam)) (zaf (zbt (zdV (zeA hr) (zbc (zaa 0) zam) zdq) (zaf (zaM (i:=3) zcf.nd rfl xwO (by rw[hpp];decide) (zaC (zbu T) hr xwo za3 (zac (zaa 2) (zac (zaa 1) (zac (zbQ rfl T.g_SOME_OF_THEM.choose_spec) zaq))))) (zaf (zaM (i:=4) zcf.nd rfl xwO (by rw[hpp];decide) (zaz (zja (zgs T) hr xwo za3 (zac (zaC (zbu T) hr xwo za3 (zac (zaa 2) (zac (zaa 1) (zac (zbQ rfl T.g_NONE_OF_THEM.choose_spec) zaq)))) zaq)))) (zah (zek hnw (zjz (zaz (zjz (zaa 4) (zaa 3))) (zaz (zja (zgs T) hr xwo za3 (zac (zaC (zbu T) hr xwo za3 (zac (zaa 2) (zac (zaa 1) (zac (zbQ rfl T.g_ALL_OF_THEM.choose_spec) zaq)))) zaq)))))))) zaF) (zaf (zbt (zr4 (zaC (zfY T) hr xwo za3 (zac (zbc (zaa 2) zam) (zac (zaa 1) zaq))) (zaC (zfY T) hr xwo za3 (zac (zbc (zaa 2) (zos zam)) (zac (zaa 1) zaq)))) (zah (zek hnw (zs0 rfl rfl T.b_list rfl T.b_reversed (zaa 2)))) zaF) (zah (zek hnw (zpG T.b_list (zaa 2)))))))
abbrev zwk:List Str:=["order","party","pieces","branch","more"]
abbrev zqB:List Str:=["order","party"]
theorem ziq:za4 zwk zqB (zan (top 22)):=⟨rfl,rfl,rfl,xwD,rfl,xwD,xwD⟩
noncomputable def ztI(F_m:FD):DS:=(za2 (zdC 2 (zc8 dA0)) (za2 (ziF (dIt (zab 0)) (zb0 3) (za2 (zaX 4 (zai F_m (dR (zab 3) (dR (zab 1) dR0)))) (za2 (dIf (dTB (dOp gGt (zsR 2 (zab 1) (dC (.int 2)) zay) (dC (.int 0)))) (zaX 4 (dFz (zgj (zab 4)))) dNx) (dEx (zhi 2 (zab 4)))))) (zbd (zgC 2))))
noncomputable def zju(F_m:FD):FD:=za0 false [false,false] 3 (ztI F_m)
theorem ztM(T:Tx K mg){F_m:FD}{km:Nat}(hkm:22<=km)(DM:Dfn false P w K mg base CX0 xv km (Str.ofString "leaned") [false,false] F_m):Dfn false P w K mg base CX0 xv (km+3) (Str.ofString "laid") [false,false] (zju F_m):=by obtain ⟨f,fd,U,hm⟩:=T.u_laid;refine ⟨f,fd,zqB,?_,hm,U.kp,U.binds (ps:=zqB) λ_ _ _ _ _ _ us hl=>match us,hl with|[_,_],_=>rfl,zas⟩;refine zaA (k:=km+2) false za9 U ziq rfl rfl λX C hX hpp hxv hnw hr hx hpo=>?_;subst hxv;obtain ⟨cdv,A,outer,s,H,E,rfl⟩:=hX;exact (zaf (zeT (i:=2) ziq.nd rfl xwO (by rw[hpp];decide) (zbE za1)) (zaf (zg0 hpo rfl (zcg (zaa 0)) (zbb (i:=3) ziq.nd rfl xwO (by rw[hpp];decide)) (zaf (zaM (i:=4) ziq.nd rfl xwO (by rw[hpp];decide) (zaC DM hr xwo za3 (zac (zaa 3) (zac (zaa 1) zaq)))) (zaf (zbt (zr4 (zuQ 2 (zbu T) hr xwo za3 T.b_len (zaa 1) (zbQ rfl T.g_ALL_OF_THEM.choose_spec)) zam) (zah (zaM (i:=4) ziq.nd rfl xwO (by rw[hpp];decide) (zaz (zre rfl rfl T.b_list rfl T.b_reversed (zaa 4))))) zaF) (zah (zeq (zm7 2 (zaa 4))))))) (zah (zax hnw (zgv 2)))))
abbrev zsv:List Str:=["tree","party"]
abbrev zht:List Str:=["tree","party"]
theorem zp6:za4 zsv zht (zan (top 21)):=⟨rfl,rfl,rfl,xwD,rfl,xwD,xwD⟩
noncomputable def zkO(F_self:FD):DS:=(za2 (dIf (dTB (dOp (gEq true) (zai zbs (dR (zab 0) (dR (zab 1) dR0))) (dC (.int 1)))) (zbd (dFz (zc8 (dA (zab 0) dA0)))) dNx) (zbd (zai (zju F_self) (dR (dFz (zbm zdj (dR (zab 0) (dR (zab 1) dR0)))) (dR (zab 1) dR0)))))
noncomputable def zd3:Nat->FD
 |0=>λ_=>.no
 |n+1=>za0 false [false,false] 0 (zkO (zd3 n))
theorem znO(T:Tx K mg):∀ n,Dfn false P w K mg base CX0 xv (4 * n+27) (Str.ofString "leaned") [false,false] (zd3 n)
 |0=>by obtain ⟨f,fd,U,hm⟩:=T.u_leaned;exact zcD rfl U hm (U.binds (ps:=zht) λ_ _ _ _ _ _ us hl=>match us,hl with|[_,_],_=>rfl)
 |n+1=>by have DS:=znO T n;obtain ⟨f,fd,U,hm⟩:=T.u_leaned;refine ⟨f,fd,zht,?_,hm,U.kp,U.binds (ps:=zht) λ_ _ _ _ _ _ us hl=>match us,hl with|[_,_],_=>rfl,zas⟩;refine zgu.mono (j:=(4 * n+30)+1) ?_ xwo;refine zaA (k:=4 * n+30) false za9 U zp6 rfl rfl λX C hX hpp hxv hnw hr hx hpo=>?_;subst hxv;obtain ⟨cdv,A,outer,s,H,E,rfl⟩:=hX;exact (zaf (zbt (zjd (zeA hr) (zaC (zfY T) hr xwo za3 (zac (zaa 0) (zac (zaa 1) zaq))) (zbQ rfl T.g_SOME_OF_THEM.choose_spec)) (zah (zax hnw (zaz (zbE (zao (zaa 0) za1))))) zaF) (zah (zax hnw (zaC (ztM T xwo DS) hr xwo za3 (zac (zaz (zja (ziC T) hr xwo za3 (zac (zaa 0) (zac (zaa 1) zaq)))) (zac (zaa 1) zaq))))))
abbrev zoJ:List Str:=["order","party","pieces","places"]
abbrev zgF:List Str:=["order","party"]
theorem zfE:za4 zoJ zgF (zan (top 23)):=⟨rfl,rfl,rfl,xwD,rfl,xwD,xwD⟩
abbrev zeW:List Str:=["order","party","pieces","places","place","piece"]
theorem zkN:zeW.Nodup:=by decide +kernel
noncomputable def zj2:DS:=(za2 (zaX 2 (zai (zju (zd3 8)) (dR (zab 0) (dR (zab 1) dR0)))) (za2 (zaX 3 (dFz (zbl (zoX (zab 2)) (zhD 4 5) (dTB (dOp (gEq false) (zai zbs (dR (zab 5) (dR (zab 1) dR0))) (dC (.int 2)))) (zab 4) 2))) (zbd (zjA (dTB (dOp (gEq false) (dOp zjG (dOp gIx (zab 3) (zpg (dC (.int 1)))) (dOp gIx (zab 3) (dC (.int 0)))) (dOp zjG (dFn zb5 (dA (zab 3) dA0)) (dC (.int 1))))) (zab 2) (dC .non)))))
noncomputable def zdc:FD:=za0 false [false,false] 2 zj2
theorem zj3(T:Tx K mg):Dfn false P w K mg base CX0 xv 65 (Str.ofString "touching") [false,false] zdc:=by obtain ⟨f,fd,U,hm⟩:=T.u_touching;refine ⟨f,fd,zgF,?_,hm,U.kp,U.binds (ps:=zgF) λ_ _ _ _ _ _ us hl=>match us,hl with|[_,_],_=>rfl,zas⟩;refine zaA (k:=64) false za9 U zfE rfl rfl λX C hX hpp hxv hnw hr hx hpo=>?_;subst hxv;obtain ⟨cdv,A,outer,s,H,E,rfl⟩:=hX;exact (zaf (zaM (i:=2) zfE.nd rfl xwO (by rw[hpp];decide) (zaC (ztM T xwo (znO T 8)) hr xwo za3 (zac (zaa 0) (zac (zaa 1) zaq)))) (zaf (zgQ (i:=3) zfE.nd rfl xwO (by rw[hpp];decide) (ztZ rfl T.b_enumerate (zaa 2)) rfl (N':=zeW) (m:=2) xwk rfl (zaV xwk) (zb7 xwk) (zb8 xwk) (λcl L s H fp G H' w Y=>⟨(zru (i:=4) (j:=5) rfl zkN rfl rfl xwO xwO (xwN rfl) (xwN rfl)),(zdI (zdV (zeA hr) (zaC (zfY T) hr xwo za3 (zac (zaa 5) (zac (zaa 1) zaq))) (zbQ rfl T.g_ALL_OF_THEM.choose_spec))),(zaa 4)⟩)) (zah (zax hnw (zhZ (zdV (zeA hr) (zjB (zbc (zaa 3) (zos zam)) (zbc (zaa 3) zam)) (zjB (zcR T.b_len (zaa 3)) zam)) (zaa 2) zjC)))))
abbrev zjQ:List Str:=["branches","party","torn","core","pieces","inner"]
abbrev ze3:List Str:=["branches","party"]
theorem zbU:za4 zjQ ze3 (zan (top 24)):=⟨rfl,rfl,rfl,xwD,rfl,xwD,xwD⟩
noncomputable def zgr:DS:=(za2 (zaX 2 (zai zay (dR (zab 0) (dR (zab 1) (dR (dC (.int 1)) dR0))))) (za2 (zaX 3 (dFz (zbm zbI (dR (zai zay (dR (zab 0) (dR (zab 1) (dR (dC (.int 2)) dR0)))) dR0)))) (za2 (zaX 4 (zai zdc (dR (dFz (zj1 (dFz (zj1 (dFz (zlM (zab 2) dO0 (dO1 (dC (.int 1))))) (zab 3))) (dFz (zlM (zab 2) (dO1 (dC (.int 1))) dO0)))) (dR (zab 1) dR0)))) (za2 (dIf (zoV true (zab 4)) (zbd (dC .non)) dNx) (za2 (zaX 5 (zjA (dTB (dOp (gEq false) (dFn zb5 (dA (zab 4) dA0)) (dC (.int 1)))) (dOp gIx (zab 4) (dC (.int 0))) (zdO (dA (dC (.str (Str.ofString "row"))) (dA (dFn zbW (dA (zab 4) dA0)) dA0))))) (zbd (dOp gIx (dFz (zbm zbI (dR (dFz (zj1 (zai zay (dR (zab 0) (dR (zab 1) (dR (dC (.int 0)) dR0)))) (dFz (zc8 (dA (zab 5) dA0))))) dR0))) (dC (.int 0)))))))))
noncomputable def zda:FD:=za0 false [false,false] 4 zgr
theorem zk0(T:Tx K mg):Dfn false P w K mg base CX0 xv 68 (Str.ofString "tighten_any") [false,false] zda:=by obtain ⟨f,fd,U,hm⟩:=T.u_tighten_any;refine ⟨f,fd,ze3,?_,hm,U.kp,U.binds (ps:=ze3) λ_ _ _ _ _ _ us hl=>match us,hl with|[_,_],_=>rfl,zas⟩;refine zaA (k:=67) false za9 U zbU rfl rfl λX C hX hpp hxv hnw hr hx hpo=>?_;subst hxv;obtain ⟨cdv,A,outer,s,H,E,rfl⟩:=hX;exact (zaf (zaM (i:=2) zbU.nd rfl xwO (by rw[hpp];decide) (zaC (zbu T) hr xwo za3 (zac (zaa 0) (zac (zaa 1) (zac (zbQ rfl T.g_SOME_OF_THEM.choose_spec) zaq))))) (zaf (zaM (i:=3) zbU.nd rfl xwO (by rw[hpp];decide) (zaz (zja (zgs T) hr xwo za3 (zac (zaC (zbu T) hr xwo za3 (zac (zaa 0) (zac (zaa 1) (zac (zbQ rfl T.g_ALL_OF_THEM.choose_spec) zaq)))) zaq)))) (zaf (zaM (i:=4) zbU.nd rfl xwO (by rw[hpp];decide) (zaC (zj3 T) hr xwo za3 (zac (zaz (zjz (zaz (zjz (zaz (zlt (zaa 2) zfV (zdh zam))) (zaa 3))) (zaz (zlt (zaa 2) (zdh zam) zfV)))) (zac (zaa 1) zaq)))) (zaf (zbt (zqj (zaa 4)) (zah (zax hnw zjC)) zaF) (zaf (zaM (i:=5) zbU.nd rfl xwO (by rw[hpp];decide) (zhZ (zdV (zeA hr) (zcR T.b_len (zaa 4)) zam) (zbc (zaa 4) zam) (zct (zao zdq (zao (zdG T.b_tuple (zaa 4)) za1))))) (zah (zax hnw (zbc (zaz (zja (zgs T) hr xwo za3 (zac (zaz (zjz (zaC (zbu T) hr xwo za3 (zac (zaa 0) (zac (zaa 1) (zac (zbQ rfl T.g_NONE_OF_THEM.choose_spec) zaq)))) (zaz (zbE (zao (zaa 5) za1))))) zaq))) zam))))))))
abbrev zkz:List Str:=["branches","party","pieces"]
abbrev ze0:List Str:=["branches","party"]
theorem zfC:za4 zkz ze0 (zan (top 25)):=⟨rfl,rfl,rfl,xwD,rfl,xwD,xwD⟩
noncomputable def zkL:DS:=(za2 (zaX 2 (zai zdc (dR (zab 0) (dR (zab 1) dR0)))) (zbd (zjA (zoV true (zab 2)) (dC .non) (zdO (dA (dC (.str (Str.ofString "row"))) (dA (dFn zbW (dA (zab 2) dA0)) dA0))))))
noncomputable def zcW:FD:=za0 false [false,false] 1 zkL
theorem zjY(T:Tx K mg):Dfn false P w K mg base CX0 xv 68 (Str.ofString "tighten_row") [false,false] zcW:=by obtain ⟨f,fd,U,hm⟩:=T.u_tighten_row;refine ⟨f,fd,ze0,?_,hm,U.kp,U.binds (ps:=ze0) λ_ _ _ _ _ _ us hl=>match us,hl with|[_,_],_=>rfl,zas⟩;refine zaA (k:=67) false za9 U zfC rfl rfl λX C hX hpp hxv hnw hr hx hpo=>?_;subst hxv;obtain ⟨cdv,A,outer,s,H,E,rfl⟩:=hX;exact (zaf (zaM (i:=2) zfC.nd rfl xwO (by rw[hpp];decide) (zaC (zj3 T) hr xwo za3 (zac (zaa 0) (zac (zaa 1) zaq)))) (zah (zax hnw (zhZ (zqj (zaa 2)) zjC (zct (zao zdq (zao (zdG T.b_tuple (zaa 2)) za1)))))))
abbrev zhe:List Str:=["tree","party","branches","branch"]
abbrev zcQ:List Str:=["tree","party"]
theorem zc0:za4 zhe zcQ (zan (top 26)):=⟨rfl,rfl,rfl,xwD,rfl,xwD,xwD⟩
noncomputable def zcT(F_m:FD):DS:=(za2 (zdC 2 (zc8 dA0)) (za2 (ziF (dIt (dOp gIx (zab 0) (dC (.int 1)))) (zb0 3) (dIf (dTB (dOp (gEq false) (zai zbs (dR (zab 3) (dR (zab 1) dR0))) (dC (.int 0)))) (dEx (zeK 2 (zab 3))) (dEx (zeK 2 (zai F_m (dR (zab 3) (dR (zab 1) dR0))))))) (zbd (zjA (dTB (zpm false 2 (dC .non))) (dC .non) (zdO (dA (dOp gIx (zab 0) (dC (.int 0))) (dA (dFn zbW (dA (zgC 2) dA0)) dA0)))))))
noncomputable def zcb(F_m:FD):FD:=za0 false [false,false] 2 (zcT F_m)
theorem zhj(T:Tx K mg){F_m:FD}{km:Nat}(hkm:19<=km)(DM:Dfn false P w K mg base CX0 xv km (Str.ofString "tighten") [false,false] F_m):Dfn false P w K mg base CX0 xv (km+3) (Str.ofString "tighten_within") [false,false] (zcb F_m):=by obtain ⟨f,fd,U,hm⟩:=T.u_tighten_within;refine ⟨f,fd,zcQ,?_,hm,U.kp,U.binds (ps:=zcQ) λ_ _ _ _ _ _ us hl=>match us,hl with|[_,_],_=>rfl,zas⟩;refine zaA (k:=km+2) false za9 U zc0 rfl rfl λX C hX hpp hxv hnw hr hx hpo=>?_;subst hxv;obtain ⟨cdv,A,outer,s,H,E,rfl⟩:=hX;exact (zaf (zeT (i:=2) zc0.nd rfl xwO (by rw[hpp];decide) (zbE za1)) (zaf (zg0 hpo rfl (zcg (zbc (zaa 0) zam)) (zbb (i:=3) zc0.nd rfl xwO (by rw[hpp];decide)) (zah (zbt (zdV (zeA hr) (zaC (zfY T) hr xwo za3 (zac (zaa 3) (zac (zaa 1) zaq))) (zbQ rfl T.g_NONE_OF_THEM.choose_spec)) (zah (zeq (zkd 2 (zaa 3)))) (zah (zeq (zkd 2 (zaC DM hr xwo za3 (zac (zaa 3) (zac (zaa 1) zaq))))))))) (zah (zax hnw (zhZ (ztj 2 (zrD hr) zjC) zjC (zct (zao (zbc (zaa 0) zam) (zao (zdG T.b_tuple (zgv 2)) za1))))))))
abbrev zqD:List Str:=["tree","party","strange"]
abbrev zge:List Str:=["tree","party"]
theorem zjD:za4 zqD zge (zan (top 27)):=⟨rfl,rfl,rfl,xwD,rfl,xwD,xwD⟩
noncomputable def zi6(F_self:FD):DS:=(za2 (dIf (dTB (dOp (gEq false) (zai zbs (dR (zab 0) (dR (zab 1) dR0))) (dC (.int 2)))) (zbd (zab 0)) dNx) (za2 (zaX 2 (zai zay (dR (dOp gIx (zab 0) (dC (.int 1))) (dR (zab 1) (dR (dC (.int 0)) dR0))))) (za2 (dIf (dTB (dOp (gEq false) (dFn zb5 (dA (zab 2) dA0)) (dOp zjG (dFn zb5 (dA (dOp gIx (zab 0) (dC (.int 1))) dA0)) (dC (.int 1))))) (zbd (zai (zcb F_self) (dR (zab 0) (dR (zab 1) dR0)))) dNx) (za2 (dIf (dTB (dOp (gEq false) (dOp gIx (zab 0) (dC (.int 0))) (dC (.str (Str.ofString "any"))))) (zbd (zai zda (dR (dOp gIx (zab 0) (dC (.int 1))) (dR (zab 1) dR0)))) dNx) (zbd (zai zcW (dR (dOp gIx (zab 0) (dC (.int 1))) (dR (zab 1) dR0))))))))
noncomputable def zfk:Nat->FD
 |0=>λ_=>.no
 |n+1=>za0 false [false,false] 1 (zi6 (zfk n))
theorem zl9(T:Tx K mg):∀ n,Dfn false P w K mg base CX0 xv (4 * n+70) (Str.ofString "tighten") [false,false] (zfk n)
 |0=>by obtain ⟨f,fd,U,hm⟩:=T.u_tighten;exact zcD rfl U hm (U.binds (ps:=zge) λ_ _ _ _ _ _ us hl=>match us,hl with|[_,_],_=>rfl)
 |n+1=>by have DS:=zl9 T n;obtain ⟨f,fd,U,hm⟩:=T.u_tighten;refine ⟨f,fd,zge,?_,hm,U.kp,U.binds (ps:=zge) λ_ _ _ _ _ _ us hl=>match us,hl with|[_,_],_=>rfl,zas⟩;refine zgu.mono (j:=(4 * n+73)+1) ?_ xwo;refine zaA (k:=4 * n+73) false za9 U zjD rfl rfl λX C hX hpp hxv hnw hr hx hpo=>?_;subst hxv;obtain ⟨cdv,A,outer,s,H,E,rfl⟩:=hX;exact (zaf (zbt (zdV (zeA hr) (zaC (zfY T) hr xwo za3 (zac (zaa 0) (zac (zaa 1) zaq))) (zbQ rfl T.g_ALL_OF_THEM.choose_spec)) (zah (zax hnw (zaa 0))) zaF) (zaf (zaM (i:=2) zjD.nd rfl xwO (by rw[hpp];decide) (zaC (zbu T) hr xwo za3 (zac (zbc (zaa 0) zam) (zac (zaa 1) (zac (zbQ rfl T.g_NONE_OF_THEM.choose_spec) zaq))))) (zaf (zbt (zdV (zeA hr) (zcR T.b_len (zaa 2)) (zjB (zcR T.b_len (zbc (zaa 0) zam)) zam)) (zah (zax hnw (zaC (zhj T xwo DS) hr xwo za3 (zac (zaa 0) (zac (zaa 1) zaq))))) zaF) (zaf (zbt (zdV (zeA hr) (zbc (zaa 0) zam) zdq) (zah (zax hnw (zaC (zk0 T) hr xwo za3 (zac (zbc (zaa 0) zam) (zac (zaa 1) zaq))))) zaF) (zah (zax hnw (zaC (zjY T) hr xwo za3 (zac (zbc (zaa 0) zam) (zac (zaa 1) zaq)))))))))
abbrev zmE:List Str:=["n","tree","party","tight"]
abbrev zfI:List Str:=["n","tree","party"]
theorem zhd:za4 zmE zfI (zan (top 28)):=⟨rfl,rfl,rfl,xwD,rfl,xwD,xwD⟩
noncomputable def zmR:DS:=(za2 (dEx (zai zc6 (dR (zab 0) dR0))) (za2 (zaX 3 (zai (zfk 8) (dR (zab 1) (dR (zab 2) dR0)))) (zbd (zjA (zoV true (zab 3)) (dC .non) (zai (zbD 8) (dR (zab 3) dR0))))))
noncomputable def zdk:FD:=za0 false [false,false,false] 1 zmR
theorem ziu(T:Tx K mg):Dfn false P w K mg base CX0 xv 105 (Str.ofString "tightened") [false,false,false] zdk:=by obtain ⟨f,fd,U,hm⟩:=T.u_tightened;refine ⟨f,fd,zfI,?_,hm,U.kp,U.binds (ps:=zfI) λ_ _ _ _ _ _ us hl=>match us,hl with|[_,_,_],_=>rfl,zas⟩;refine zaA (k:=104) false za9 U zhd rfl rfl λX C hX hpp hxv hnw hr hx hpo=>?_;subst hxv;obtain ⟨cdv,A,outer,s,H,E,rfl⟩:=hX;exact (zaf (zeq (zaC (ziK T) hr xwo za3 (zac (zaa 0) zaq))) (zaf (zaM (i:=3) zhd.nd rfl xwO (by rw[hpp];decide) (zaC (zl9 T 8) hr xwo za3 (zac (zaa 1) (zac (zaa 2) zaq)))) (zah (zax hnw (zhZ (zqj (zaa 3)) zjC (zaC (zhS T 8) hr xwo za3 (zac (zaa 3) zaq)))))))
end
section
variable{P:Program}{w:World}{K:W.Frag}{mg:Str->Option Value}{base:Heap}{xv:Nat->Value}{cls:Nat->Addr}
abbrev ziQ:List Str:=["script","k"]
abbrev zdK:List Str:=["script","k"]
theorem zhX:za4 ziQ zdK (zan (top 30)):=⟨rfl,rfl,rfl,xwD,rfl,xwD,xwD⟩
noncomputable def zbV:DS:=(za2 (dIf (dTB (dOp gLt (zab 1) (dFn zb5 (dA (zab 0) dA0)))) (zbd (dOp gIx (zab 0) (zab 1))) dNx) (zbd (dC (.int 0))))
noncomputable def zc9:FD:=za0 false [false,false] 0 zbV
theorem ziS(T:Tx K mg):Dfn false P w K mg base CX0 xv 3 (Str.ofString "_law_cell_at") [false,false] zc9:=by obtain ⟨f,fd,U,hm⟩:=T.u__law_cell_at;refine ⟨f,fd,zdK,?_,hm,U.kp,U.binds (ps:=zdK) λ_ _ _ _ _ _ us hl=>match us,hl with|[_,_],_=>rfl,zas⟩;refine zaA (k:=2) false za9 U zhX rfl rfl λX C hX hpp hxv hnw hr hx hpo=>?_;subst hxv;obtain ⟨cdv,A,outer,s,H,E,rfl⟩:=hX;exact (zaf (zbt (zo0 (zaa 1) (zcR T.b_len (zaa 0))) (zah (zax hnw (zbc (zaa 0) (zaa 1)))) zaF) (zah (zax hnw zam)))
abbrev zlJ:List Str:=["script","k","cell"]
abbrev zfl:List Str:=["script","k"]
theorem zg6:za4 zlJ zfl (zan (top 31)):=⟨rfl,rfl,rfl,xwD,rfl,xwD,xwD⟩
noncomputable def zcH:DS:=(za2 (zaX 2 (zai zc9 (dR (zab 0) (dR (zab 1) dR0)))) (za2 (dIf (dTB (dOp gGe (zab 2) (dOp zsg (dC (.int 10)) (dC (.int 18))))) (zeP (zc8 (dA (dOp zjG (zab 2) (dOp zsg (dC (.int 10)) (dC (.int 18)))) (dA (dC (.bl true)) dA0)))) dNx) (zeP (zc8 (dA (dOp zo3 (zab 2) (dC (.int 2147483647))) (dA (dC (.bl false)) dA0))))))
noncomputable def zcN:FD:=za0 true [false,false] 1 zcH
theorem zme(T:Tx K mg):Dfn true P w K mg base CX0 xv 6 (Str.ofString "_law_state") [false,false] zcN:=by obtain ⟨f,fd,U,hm⟩:=T.u__law_state;refine ⟨f,fd,zfl,?_,hm,U.kp,U.binds (ps:=zfl) λ_ _ _ _ _ _ us hl=>match us,hl with|[_,_],_=>rfl,zas⟩;refine zaA (k:=5) true za9 U zg6 rfl rfl λX C hX hpp hxv hnw hr hx hpo=>?_;subst hxv;obtain ⟨cdv,A,outer,s,H,E,rfl⟩:=hX;exact (zaf (zaM (i:=2) zg6.nd rfl xwO (by rw[hpp];decide) (zaC (ziS T) hr xwo za3 (zac (zaa 0) (zac (zaa 1) zaq)))) (zaf (zbt (zyb (zaa 2) (ztE zam zam)) (zah (zek hnw (zbE (zao (zjB (zaa 2) (ztE zam zam)) (zao zf5 za1))))) zaF) (zah (zek hnw (zbE (zao (zjO (zaa 2) zam) (zao zf5 za1)))))))
abbrev znd:List Str:=["state","many","found","stirred"]
abbrev zfQ:List Str:=["state","many"]
theorem zd8:za4 znd zfQ (zan (top 32)):=⟨rfl,rfl,rfl,xwD,rfl,xwD,xwD⟩
noncomputable def zfR:DS:=(za2 (dIf (dTB (zpF 0 (dC (.int 1)))) (za2 (zaX 2 (dOp zo3 (zpF 0 (dC (.int 0))) (zab 1))) (za2 (zqL 0 (dOp zsX (zpF 0 (dC (.int 0))) (zab 1)) (dC (.int 0))) (zbd (zab 2)))) dNx) (za2 (zqL 0 (dOp zo3 (dOp zdu (dOp zri (zpF 0 (dC (.int 0))) (dC (.int 48271))) (dC (.int 29))) (dC (.int 2147483647))) (dC (.int 0))) (za2 (zaX 3 (dOp zo3 (dOp zdu (dOp zdu (dOp zri (zpF 0 (dC (.int 0))) (zpF 0 (dC (.int 0)))) (dOp zri (dC (.int 39373)) (zpF 0 (dC (.int 0))))) (dC (.int 7))) (dC (.int 2147483629)))) (za2 (zaX 3 (dOp zo3 (dOp zdu (dOp zri (zab 3) (zab 3)) (dOp zri (dC (.int 16807)) (zab 3))) (dC (.int 2147483587)))) (zbd (dOp zo3 (dOp zsX (zab 3) (dC (.int 8))) (zab 1)))))))
noncomputable def zak:FD:=za0 false [true,false] 2 zfR
theorem zbo(T:Tx K mg):Dfn false P w K mg base CX0 xv 3 (Str.ofString "_law_take") [true,false] zak:=by obtain ⟨f,fd,U,hm⟩:=T.u__law_take;refine ⟨f,fd,zfQ,?_,hm,U.kp,U.binds (ps:=zfQ) λ_ _ _ _ _ _ us hl=>match us,hl with|[_,_],_=>rfl,zas⟩;refine zaA (k:=2) false za9 U zd8 rfl rfl λX C hX hpp hxv hnw hr hx hpo=>?_;subst hxv;obtain ⟨cdv,A,outer,s,H,E,rfl⟩:=hX;exact (zaf (zbt (zcu (ziy 0 (hb:=zam))) (zaf (zaM (i:=2) zd8.nd rfl xwO (by rw[hpp];decide) (zjO (ziy 0 (hb:=zam)) (zaa 1))) (zaf (zp5 0 (ztg (ziy 0 (hb:=zam)) (zaa 1)) zam) (zah (zax hnw (zaa 2))))) zaF) (zaf (zp5 0 (zjO (zej (zlo (ziy 0 (hb:=zam)) zam) zam) zam) zam) (zaf (zaM (i:=3) zd8.nd rfl xwO (by rw[hpp];decide) (zjO (zej (zej (zlo (ziy 0 (hb:=zam)) (ziy 0 (hb:=zam))) (zlo zam (ziy 0 (hb:=zam)))) zam) zam)) (zaf (zaM (i:=3) zd8.nd rfl xwO (by rw[hpp];decide) (zjO (zej (zlo (zaa 3) (zaa 3)) (zlo zam (zaa 3))) zam)) (zah (zax hnw (zjO (ztg (zaa 3) zam) (zaa 1))))))))
abbrev zhk:List Str:=["state","things","left","found"]
abbrev zcS:List Str:=["state","things"]
theorem zc2:za4 zhk zcS (zan (top 33)):=⟨rfl,rfl,rfl,xwD,rfl,xwD,xwD⟩
noncomputable def zcP:DS:=(za2 (zdC 2 (zdL ziY (dA (zab 1) dA0))) (za2 (zdC 3 (zc8 dA0)) (za2 (zbA (dTB (zvO true 2 (dFz (zc8 dA0)))) (dEx (zeK 3 (zjw 2 (zai zak (dRO 0 (dR (zoO 2) dR0)))))) 10) (zbd (zgC 3)))))
noncomputable def zcd:FD:=za0 false [true,false] 2 zcP
theorem zhm(T:Tx K mg):Dfn false P w K mg base CX0 xv 6 (Str.ofString "_law_mixed_row") [true,false] zcd:=by obtain ⟨f,fd,U,hm⟩:=T.u__law_mixed_row;refine ⟨f,fd,zcS,?_,hm,U.kp,U.binds (ps:=zcS) λ_ _ _ _ _ _ us hl=>match us,hl with|[_,_],_=>rfl,zas⟩;refine zaA (k:=5) false za9 U zc2 rfl rfl λX C hX hpp hxv hnw hr hx hpo=>?_;subst hxv;obtain ⟨cdv,A,outer,s,H,E,rfl⟩:=hX;exact (zaf (zeT (i:=2) zc2.nd rfl xwO (by rw[hpp];decide) (zpG T.b_list (zaa 1))) (zaf (zeT (i:=3) zc2.nd rfl xwO (by rw[hpp];decide) (zbE za1)) (zaf (znN 10 hpo (zwY 2 (zeA hr) (zaz (zbE za1))) (zah (zeq (zkd 3 (zrQ 2 (zaC (zbo T) hr xwo za3 (zcU 0 (zac (zuh 2 rfl T.b_len) zaq)))))))) (zah (zax hnw (zgv 3))))))
abbrev zm8:List Str:=["state","guests","row","many","pieces","guest","branches"]
abbrev zei:List Str:=["state","guests"]
theorem zci:za4 zm8 zei (zan (top 34)):=⟨rfl,rfl,rfl,xwD,rfl,xwD,xwD⟩
abbrev zeH:List Str:=["state","guests","row","many","pieces","%5","branches","guest"]
theorem zjf:zeH.Nodup:=by decide +kernel
abbrev zeB:List Str:=["state","guests","row","many","pieces","guest","branches","piece"]
theorem ziL:zeB.Nodup:=by decide +kernel
noncomputable def zcw(F_self:FD):DS:=(za2 (dIf (dTB (dOp (gEq false) (dFn zb5 (dA (zab 1) dA0)) (dC (.int 1)))) (zbd (dOp gIx (zab 1) (dC (.int 0)))) dNx) (za2 (zaX 2 (zai zcd (dRO 0 (dR (zab 1) dR0)))) (za2 (zaX 3 (dOp zdu (dC (.int 2)) (zai zak (dRO 0 (dR (dOp zjG (dFn zb5 (dA (zab 2) dA0)) (dC (.int 1))) dR0))))) (za2 (znY 4 (dIt (dFz (zlM (zab 2) dO0 (dO1 (zab 3))))) (zb0 7) dTT (zc8 (dA (zab 7) dA0)) 1) (za2 (ziF (dIt (dFz (zlM (zab 2) (dO1 (zab 3)) dO0))) (zb0 5) (dEx (zl5 4 5 (zai zak (dRO 0 (dR (zab 3) dR0)))))) (za2 (zaX 6 (dFn zbW (dA (dFz (zbl (dIt (zgC 4)) (zb0 7) dTT (zai F_self (dRO 0 (dR (zab 7) dR0))) 1)) dA0))) (za2 (dIf (zke (dTB (dOp gGt (zab 3) (dC (.int 2)))) (dTB (dOp (gEq false) (zai zak (dRO 0 (dR (dC (.int 2)) dR0))) (dC (.int 1))))) (zbd (zdO (dA (dC (.str (Str.ofString "row"))) (dA (zab 6) dA0)))) dNx) (zbd (zdO (dA (dC (.str (Str.ofString "any"))) (dA (zab 6) dA0)))))))))))
noncomputable def zaZ:Nat->FD
 |0=>λ_=>.no
 |n+1=>za0 false [true,false] 5 (zcw (zaZ n))
theorem zi9(T:Tx K mg):∀ n,Dfn false P w K mg base CX0 xv (n+8) (Str.ofString "_law_tree") [true,false] (zaZ n)
 |0=>by obtain ⟨f,fd,U,hm⟩:=T.u__law_tree;exact zcD rfl U hm (U.binds (ps:=zei) λ_ _ _ _ _ _ us hl=>match us,hl with|[_,_],_=>rfl)
 |n+1=>by have DS:=zi9 T n;obtain ⟨f,fd,U,hm⟩:=T.u__law_tree;refine ⟨f,fd,zei,?_,hm,U.kp,U.binds (ps:=zei) λ_ _ _ _ _ _ us hl=>match us,hl with|[_,_],_=>rfl,zas⟩;refine zgu.mono (j:=(n+8)+1) ?_ xwo;refine zaA (k:=n+8) false za9 U zci rfl rfl λX C hX hpp hxv hnw hr hx hpo=>?_;subst hxv;obtain ⟨cdv,A,outer,s,H,E,rfl⟩:=hX;exact (zaf (zbt (zdV (zeA hr) (zcR T.b_len (zaa 1)) zam) (zah (zax hnw (zbc (zaa 1) zam))) zaF) (zaf (zaM (i:=2) zci.nd rfl xwO (by rw[hpp];decide) (zaC (zhm T) hr xwo za3 (zcU 0 (zac (zaa 1) zaq)))) (zaf (zaM (i:=3) zci.nd rfl xwO (by rw[hpp];decide) (zej zam (zaC (zbo T) hr xwo za3 (zcU 0 (zac (zjB (zcR T.b_len (zaa 2)) zam) zaq))))) (zaf (zmA (i:=4) zci.nd rfl xwO (by rw[hpp];decide) (zcg (zaz (zlt (zaa 2) zfV (zdh (zaa 3))))) rfl (N':=zeH) (m:=1) xwk rfl (zaV xwk) (zb7 xwk) (zb8 xwk) (λcl L s H fp G H' w Y=>⟨(zbb (i:=7) zjf rfl xwO (xwN rfl)),zff,(zbE (zao (zaa 7) za1))⟩)) (zaf (zg0 hpo rfl (zcg (zaz (zlt (zaa 2) (zdh (zaa 3)) zfV))) (zbb (i:=5) zci.nd rfl xwO (by rw[hpp];decide)) (zah (zeq (zu1 4 5 (zaC (zbo T) hr xwo za3 (zcU 0 (zac (zaa 3) zaq))))))) (zaf (zaM (i:=6) zci.nd rfl xwO (by rw[hpp];decide) (zdG T.b_tuple (zaz (zcp (zcg (zgv 4)) rfl (N':=zeB) (m:=1) xwk rfl (zaV xwk) (zb7 xwk) (zb8 xwk) (λcl L s H fp G H' w Y=>⟨(zbb (i:=7) ziL rfl xwO (xwN rfl)),zff,(zaC DS hr (wal _) za3 (zcU 0 (zac (zaa 7) zaq)))⟩))))) (zaf (zbt (JW.jt (ztp (zr4 (zaa 3) zam) (zqX (zdV (zeA hr) (zaC (zbo T) hr xwo za3 (zcU 0 (zac zam zaq))) zam)))) (zah (zax hnw (zct (zao zdq (zao (zaa 6) za1))))) zaF) (zah (zax hnw (zct (zao zdq (zao (zaa 6) za1))))))))))))
abbrev zlO:List Str:=["state","n","found"]
abbrev zfb:List Str:=["state","n"]
theorem zgq:za4 zlO zfb (zan (top 35)):=⟨rfl,rfl,rfl,xwD,rfl,xwD,xwD⟩
abbrev zdW:List Str:=["state","n","found","guest"]
theorem zi5:zdW.Nodup:=by decide +kernel
noncomputable def zcL:DS:=(za2 (zaX 2 (dFn zbW (dA (dFz (zbl (zdS (zab 1)) (zb0 3) (dTB (dOp (gEq false) (zai zak (dRO 0 (dR (dC (.int 2)) dR0))) (dC (.int 1)))) (zab 3) 1)) dA0))) (za2 (dIf (dTB (dOp (gEq false) (zab 2) (zdO dA0))) (zbd (zdO (dA (zai zak (dRO 0 (dR (zab 1) dR0))) dA0))) dNx) (zbd (zab 2))))
noncomputable def zbx:FD:=za0 false [true,false] 1 zcL
theorem zgW(T:Tx K mg):Dfn false P w K mg base CX0 xv 6 (Str.ofString "_law_party") [true,false] zbx:=by obtain ⟨f,fd,U,hm⟩:=T.u__law_party;refine ⟨f,fd,zfb,?_,hm,U.kp,U.binds (ps:=zfb) λ_ _ _ _ _ _ us hl=>match us,hl with|[_,_],_=>rfl,zas⟩;refine zaA (k:=5) false za9 U zgq rfl rfl λX C hX hpp hxv hnw hr hx hpo=>?_;subst hxv;obtain ⟨cdv,A,outer,s,H,E,rfl⟩:=hX;exact (zaf (zaM (i:=2) zgq.nd rfl xwO (by rw[hpp];decide) (zdG T.b_tuple (zaz (zcp (zfa rfl T.b_range (zaa 1)) rfl (N':=zdW) (m:=1) xwk rfl (zaV xwk) (zb7 xwk) (zb8 xwk) (λcl L s H fp G H' w Y=>⟨(zbb (i:=3) zi5 rfl xwO (xwN rfl)),(zdI (zdV (zeA hr) (zaC (zbo T) hr xwo za3 (zcU 0 (zac zam zaq))) zam)),(zaa 3)⟩))))) (zaf (zbt (zdV (zeA hr) (zaa 2) (zct za1)) (zah (zax hnw (zct (zao (zaC (zbo T) hr xwo za3 (zcU 0 (zac (zaa 1) zaq))) za1)))) zaF) (zah (zax hnw (zaa 2)))))
abbrev zmX:List Str:=["state","row","first"]
abbrev zfT:List Str:=["state","row"]
theorem zhc:za4 zmX zfT (zan (top 36)):=⟨rfl,rfl,rfl,xwD,rfl,xwD,xwD⟩
noncomputable def zfS:DS:=(za2 (zaX 2 (zai zak (dRO 0 (dR (dFn zb5 (dA (zab 1) dA0)) dR0)))) (zbd (dFn zbW (dA (dFz (zdL zd4 (dA (zfG (zab 1) (dO1 (zab 2)) (dO1 (dOp zdu (dOp zdu (zab 2) (dC (.int 1))) (zai zak (dRO 0 (dR (dOp zjG (dFn zb5 (dA (zab 1) dA0)) (zab 2)) dR0)))))) dA0))) dA0))))
noncomputable def zdn:FD:=za0 false [true,false] 1 zfS
theorem zmV(T:Tx K mg):Dfn false P w K mg base CX0 xv 6 (Str.ofString "_law_side") [true,false] zdn:=by obtain ⟨f,fd,U,hm⟩:=T.u__law_side;refine ⟨f,fd,zfT,?_,hm,U.kp,U.binds (ps:=zfT) λ_ _ _ _ _ _ us hl=>match us,hl with|[_,_],_=>rfl,zas⟩;refine zaA (k:=5) false za9 U zhc rfl rfl λX C hX hpp hxv hnw hr hx hpo=>?_;subst hxv;obtain ⟨cdv,A,outer,s,H,E,rfl⟩:=hX;exact (zaf (zaM (i:=2) zhc.nd rfl xwO (by rw[hpp];decide) (zaC (zbo T) hr xwo za3 (zcU 0 (zac (zcR T.b_len (zaa 1)) zaq)))) (zah (zax hnw (zdG T.b_tuple (zaz (znI rfl T.b_sorted (zkr (zaa 1) (zdh (zaa 2)) (zdh (zej (zej (zaa 2) zam) (zaC (zbo T) hr xwo za3 (zcU 0 (zac (zjB (zcR T.b_len (zaa 1)) (zaa 2)) zaq))))))))))))
abbrev zmd:List Str:=["n","found","turn","longer","row"]
abbrev zeZ:List Str:=["n"]
theorem zbJ:za4 zmd zeZ (zan (top 37)):=⟨rfl,rfl,rfl,xwD,rfl,xwD,xwD⟩
abbrev zec:List Str:=["n","found","turn","longer","row","guest"]
theorem zii:zec.Nodup:=by decide +kernel
noncomputable def zfh:DS:=(za2 (zaX 1 (dFz (zc8 (dA (zdO dA0) dA0)))) (za2 (ziF (zdS (zab 0)) (zb0 2) (za2 (zdC 3 (zc8 dA0)) (za2 (ziF (dIt (zab 1)) (zb0 4) (dEx (zhi 3 (dFz (zbl (zdS (zab 0)) (zb0 5) (dTB (dOp (gIn true) (zab 5) (zab 4))) (dOp zkG (zab 4) (zdO (dA (zab 5) dA0))) 1))))) (zaX 1 (zgC 3))))) (zbd (zab 1))))
noncomputable def zbC:FD:=za0 false [false] 4 zfh
theorem zgX(T:Tx K mg):Dfn false P w K mg base CX0 xv 3 (Str.ofString "_law_perms") [false] zbC:=by obtain ⟨f,fd,U,hm⟩:=T.u__law_perms;refine ⟨f,fd,zeZ,?_,hm,U.kp,U.binds (ps:=zeZ) λ_ _ _ _ _ _ us hl=>match us,hl with|[_],_=>rfl,zas⟩;refine zaA (k:=2) false za9 U zbJ rfl rfl λX C hX hpp hxv hnw hr hx hpo=>?_;subst hxv;obtain ⟨cdv,A,outer,s,H,E,rfl⟩:=hX;exact (zaf (zaM (i:=1) zbJ.nd rfl xwO (by rw[hpp];decide) (zaz (zbE (zao (zct za1) za1)))) (zaf (zg0 hpo rfl (zfa rfl T.b_range (zaa 0)) (zbb (i:=2) zbJ.nd rfl xwO (by rw[hpp];decide)) (zaf (zeT (i:=3) zbJ.nd rfl xwO (by rw[hpp];decide) (zbE za1)) (zaf (zg0 hpo rfl (zcg (zaa 1)) (zbb (i:=4) zbJ.nd rfl xwO (by rw[hpp];decide)) (zah (zeq (zm7 3 (zaz (zcp (zfa rfl T.b_range (zaa 0)) rfl (N':=zec) (m:=1) xwk rfl (zaV xwk) (zb7 xwk) (zb8 xwk) (λcl L s H fp G H' w Y=>⟨(zbb (i:=5) zii rfl xwO (xwN rfl)),(zdI (znP (zrD hr) (zaa 5) (zaa 4))),(zux (zaa 4) (zct (zao (zaa 5) za1)))⟩))))))) (zah (zaM (i:=1) zbJ.nd rfl xwO (by rw[hpp];decide) (zgv 3)))))) (zah (zax hnw (zaa 1)))))
abbrev zky:List Str:=["tree","found","branch"]
abbrev zcV:List Str:=["tree"]
theorem zcB:za4 zky zcV (zan (top 38)):=⟨rfl,rfl,rfl,xwD,rfl,xwD,xwD⟩
noncomputable def ze1(F_self:FD):DS:=(za2 (dIf (dTB (zfw "int" (zab 0))) (zbd (dFz (zc8 (dA (zab 0) dA0)))) dNx) (za2 (zaX 1 (dFz (zc8 dA0))) (za2 (ziF (dIt (dOp gIx (zab 0) (dC (.int 1)))) (zb0 2) (zaX 1 (dFz (zj1 (zab 1) (zai F_self (dR (zab 2) dR0)))))) (zbd (zab 1)))))
noncomputable def za8:Nat->FD
 |0=>λ_=>.no
 |n+1=>za0 false [false] 2 (ze1 (za8 n))
theorem zbK(T:Tx K mg):∀ n,Dfn false P w K mg base CX0 xv (n+2) (Str.ofString "_law_leaves") [false] (za8 n)
 |0=>by obtain ⟨f,fd,U,hm⟩:=T.u__law_leaves;exact zcD rfl U hm (U.binds (ps:=zcV) λ_ _ _ _ _ _ us hl=>match us,hl with|[_],_=>rfl)
 |n+1=>by have DS:=zbK T n;obtain ⟨f,fd,U,hm⟩:=T.u__law_leaves;refine ⟨f,fd,zcV,?_,hm,U.kp,U.binds (ps:=zcV) λ_ _ _ _ _ _ us hl=>match us,hl with|[_],_=>rfl,zas⟩;refine zgu.mono (j:=(n+2)+1) ?_ xwo;refine zaA (k:=n+2) false za9 U zcB rfl rfl λX C hX hpp hxv hnw hr hx hpo=>?_;subst hxv;obtain ⟨cdv,A,outer,s,H,E,rfl⟩:=hX;exact (zaf (zbt (zcu (zcv zgI rfl T.b_isinstance zcr rfl T.b_int zjI (zaa 0))) (zah (zax hnw (zaz (zbE (zao (zaa 0) za1))))) zaF) (zaf (zaM (i:=1) zcB.nd rfl xwO (by rw[hpp];decide) (zaz (zbE za1))) (zaf (zg0 hpo rfl (zcg (zbc (zaa 0) zam)) (zbb (i:=2) zcB.nd rfl xwO (by rw[hpp];decide)) (zah (zaM (i:=1) zcB.nd rfl xwO (by rw[hpp];decide) (zaz (zjz (zaa 1) (zaC DS hr (wal _) za3 (zac (zaa 2) zaq))))))) (zah (zax hnw (zaa 1))))))
abbrev zjc:List Str:=["tree","row","left","places","here","many"]
abbrev zcF:List Str:=["tree","row"]
theorem zbr:za4 zjc zcF (zan (top 39)):=⟨rfl,rfl,rfl,xwD,rfl,xwD,xwD⟩
abbrev zdr:List Str:=["tree","row","left","places","here","many","at"]
theorem zgP:zdr.Nodup:=by decide +kernel
noncomputable def zb6(F_self:FD):DS:=(za2 (dIf (dTB (zfw "int" (zab 0))) (zbd (dOp (gEq false) (zab 1) (zdO (dA (zab 0) dA0)))) dNx) (za2 (zaX 2 (zab 1)) (za2 (zdC 3 (zc8 dA0)) (za2 (zbA (dTB (dOp (gEq true) (zab 2) (zdO dA0))) (za2 (zaX 4 (dOp gIx (dFz (zbl (zdS (dFn zb5 (dA (dOp gIx (zab 0) (dC (.int 1))) dA0))) (zb0 6) (dTB (dOp (gIn false) (dOp gIx (zab 2) (dC (.int 0))) (zai (za8 8) (dR (dOp gIx (dOp gIx (zab 0) (dC (.int 1))) (zab 6)) dR0)))) (zab 6) 1)) (dC (.int 0)))) (za2 (zaX 5 (dFn zb5 (dA (zai (za8 8) (dR (dOp gIx (dOp gIx (zab 0) (dC (.int 1))) (zab 4)) dR0)) dA0))) (za2 (dIf (zhl (dTB (zpm false 3 (zab 4))) (dTB (dOp (gEq true) (dFz (zdL zd4 (dA (zfG (zab 2) dO0 (dO1 (zab 5))) dA0))) (dFz (zdL zbh (dA (zai (za8 8) (dR (dOp gIx (dOp gIx (zab 0) (dC (.int 1))) (zab 4)) dR0)) dA0)))))) (zbd (dC (.bl false))) dNx) (za2 (dIf (zdx (dTB (zai F_self (dR (dOp gIx (dOp gIx (zab 0) (dC (.int 1))) (zab 4)) (dR (zfG (zab 2) dO0 (dO1 (zab 5))) dR0))))) (zbd (dC (.bl false))) dNx) (za2 (dEx (zeK 3 (zab 4))) (zaX 2 (zfG (zab 2) (dO1 (zab 5)) dO0))))))) 10) (zbd (dOr (dOp (gEq false) (dOp gIx (zab 0) (dC (.int 0))) (dC (.str (Str.ofString "any")))) (dOp (gIn false) (zgC 3) (zdO (dA (dFz (zdL zbh (dA (zgC 3) dA0))) (dA (dFz (zgj (dFz (zdL zbh (dA (zgC 3) dA0))))) dA0))))))))))
noncomputable def zbT:Nat->FD
 |0=>λ_=>.no
 |n+1=>za0 false [false,false] 4 (zb6 (zbT n))
theorem zf8(T:Tx K mg):∀ n,Dfn false P w K mg base CX0 xv (n+12) (Str.ofString "_law_of_tree") [false,false] (zbT n)
 |0=>by obtain ⟨f,fd,U,hm⟩:=T.u__law_of_tree;exact zcD rfl U hm (U.binds (ps:=zcF) λ_ _ _ _ _ _ us hl=>match us,hl with|[_,_],_=>rfl)
 |n+1=>by have DS:=zf8 T n;obtain ⟨f,fd,U,hm⟩:=T.u__law_of_tree;refine ⟨f,fd,zcF,?_,hm,U.kp,U.binds (ps:=zcF) λ_ _ _ _ _ _ us hl=>match us,hl with|[_,_],_=>rfl,zas⟩;refine zgu.mono (j:=(n+12)+1) ?_ xwo;refine zaA (k:=n+12) false za9 U zbr rfl rfl λX C hX hpp hxv hnw hr hx hpo=>?_;subst hxv;obtain ⟨cdv,A,outer,s,H,E,rfl⟩:=hX;exact (zaf (zbt (zcu (zcv zgI rfl T.b_isinstance zcr rfl T.b_int zjI (zaa 0))) (zah (zax hnw (zmy (zeA hr) (zaa 1) (zct (zao (zaa 0) za1))))) zaF) (zaf (zaM (i:=2) zbr.nd rfl xwO (by rw[hpp];decide) (zaa 1)) (zaf (zeT (i:=3) zbr.nd rfl xwO (by rw[hpp];decide) (zbE za1)) (zaf (znN 10 hpo (zjd (zeA hr) (zaa 2) (zct za1)) (zaf (zaM (i:=4) zbr.nd rfl xwO (by rw[hpp];decide) (zbc (zaz (zcp (zfa rfl T.b_range (zcR T.b_len (zbc (zaa 0) zam))) rfl (N':=zdr) (m:=1) xwk rfl (zaV xwk) (zb7 xwk) (zb8 xwk) (λcl L s H fp G H' w Y=>⟨(zbb (i:=6) zgP rfl xwO (xwN rfl)),(zdI (zwQ (zrD hr) (zbc (zaa 2) zam) (zaC (zbK T 8) hr xwo za3 (zac (zbc (zbc (zaa 0) zam) (zaa 6)) zaq)))),(zaa 6)⟩))) zam)) (zaf (zaM (i:=5) zbr.nd rfl xwO (by rw[hpp];decide) (zcR T.b_len (zaC (zbK T 8) hr xwo za3 (zac (zbc (zbc (zaa 0) zam) (zaa 4)) zaq)))) (zaf (zbt (JW.jt (ziO (ztj 3 (zrD hr) (zaa 4)) (zjl (zjd (zeA hr) (zaz (znI rfl T.b_sorted (zkr (zaa 2) zfV (zdh (zaa 5))))) (zaz (zf0 rfl T.b_sorted (zaC (zbK T 8) hr xwo za3 (zac (zbc (zbc (zaa 0) zam) (zaa 4)) zaq)))))))) (zah (zax hnw zf5)) zaF) (zaf (zbt (zgl (zcu (zaC DS hr (wal _) za3 (zac (zbc (zbc (zaa 0) zam) (zaa 4)) (zac (zkr (zaa 2) zfV (zdh (zaa 5))) zaq))))) (zah (zax hnw zf5)) zaF) (zaf (zeq (zkd 3 (zaa 4))) (zah (zaM (i:=2) zbr.nd rfl xwO (by rw[hpp];decide) (zkr (zaa 2) (zdh (zaa 5)) zfV))))))))) (zah (zax hnw (zxS (zmy (zeA hr) (zbc (zaa 0) zam) zdq) (zkT (zw7 (zrD hr) (zgv 3) (zct (zao (zaz (zf0 rfl T.b_sorted (zgv 3))) (zao (zaz (zt8 (zaz (zf0 rfl T.b_sorted (zgv 3))))) za1))))))))))))
abbrev ziP:List Str:=["tree","rows"]
abbrev zdH:List Str:=["tree","rows"]
theorem zi8:za4 ziP zdH (zan (top 40)):=⟨rfl,rfl,rfl,xwD,rfl,xwD,xwD⟩
abbrev zdg:List Str:=["tree","rows","row"]
theorem zgN:zdg.Nodup:=by decide +kernel
noncomputable def ziU:DS:=(zeP (zbl (dIt (zab 1)) (zb0 2) (dTB (zai (zbT 8) (dR (zab 0) (dR (zab 2) dR0)))) (zab 2) 1))
noncomputable def zaP:FD:=za0 true [false,false] 0 ziU
theorem zdF(T:Tx K mg):Dfn true P w K mg base CX0 xv 23 (Str.ofString "_law_rows_by") [false,false] zaP:=by obtain ⟨f,fd,U,hm⟩:=T.u__law_rows_by;refine ⟨f,fd,zdH,?_,hm,U.kp,U.binds (ps:=zdH) λ_ _ _ _ _ _ us hl=>match us,hl with|[_,_],_=>rfl,zas⟩;refine zaA (k:=22) true za9 U zi8 rfl rfl λX C hX hpp hxv hnw hr hx hpo=>?_;subst hxv;obtain ⟨cdv,A,outer,s,H,E,rfl⟩:=hX;exact (zah (zek hnw (zcp (zcg (zaa 1)) rfl (N':=zdg) (m:=1) xwk rfl (zaV xwk) (zb7 xwk) (zb8 xwk) (λcl L s H fp G H' w Y=>⟨(zbb (i:=2) zgN rfl xwO (xwN rfl)),(zdI (zcu (zaC (zf8 T 8) hr xwo za3 (zac (zaa 0) (zac (zaa 2) zaq))))),(zaa 2)⟩))))
end
section
variable{P:Program}{w:World}{K:W.Frag}{mg:Str->Option Value}{base:Heap}{xv:Nat->Value}{cls:Nat->Addr}
abbrev zmZ:List Str:=["row","party","inside","first"]
abbrev zfZ:List Str:=["row","party"]
theorem zeY:za4 zmZ zfZ (zan (top 41)):=⟨rfl,rfl,rfl,xwD,rfl,xwD,xwD⟩
abbrev zeF:List Str:=["row","party","inside","first","guest"]
theorem ziJ:zeF.Nodup:=by decide +kernel
noncomputable def zne:DS:=(za2 (zaX 2 (dFz (zbl (dIt (zab 0)) (zb0 4) dTT (dOp (gIn false) (zab 4) (zab 1)) 1))) (za2 (zaX 3 (zuW (zab 2) (dC (.bl true)))) (zbd (dOp (gEq false) (dFz (zlM (zab 2) (dO1 (zab 3)) (dO1 (dOp zdu (zab 3) (dFn zb5 (dA (zab 1) dA0)))))) (dFz (zwl (dFz (zc8 (dA (dC (.bl true)) dA0))) (dFn zb5 (dA (zab 1) dA0))))))))
noncomputable def zeg:FD:=za0 false [false,false] 2 zne
theorem znj(T:Tx K mg):Dfn false P w K mg base CX0 xv 3 (Str.ofString "_law_sits") [false,false] zeg:=by obtain ⟨f,fd,U,hm⟩:=T.u__law_sits;refine ⟨f,fd,zfZ,?_,hm,U.kp,U.binds (ps:=zfZ) λ_ _ _ _ _ _ us hl=>match us,hl with|[_,_],_=>rfl,zas⟩;refine zaA (k:=2) false za9 U zeY rfl rfl λX C hX hpp hxv hnw hr hx hpo=>?_;subst hxv;obtain ⟨cdv,A,outer,s,H,E,rfl⟩:=hX;exact (zaf (zgQ (i:=2) zeY.nd rfl xwO (by rw[hpp];decide) (zcg (zaa 0)) rfl (N':=zeF) (m:=1) xwk rfl (zaV xwk) (zb7 xwk) (zb8 xwk) (λcl L s H fp G H' w Y=>⟨(zbb (i:=4) ziJ rfl xwO (xwN rfl)),zff,(zw7 (zrD hr) (zaa 4) (zaa 1))⟩)) (zaf (zaM (i:=3) zeY.nd rfl xwO (by rw[hpp];decide) (zt0 (zrD hr) (zaa 2) zf5)) (zah (zax hnw (zmy (zeA hr) (zaz (zlt (zaa 2) (zdh (zaa 3)) (zdh (zej (zaa 3) (zcR T.b_len (zaa 1)))))) (zaz (by refine zwp (zaz (zbE (zao zf5 za1))) ?_;exact (zcR T.b_len (zaa 1)))))))))
abbrev zmD:List Str:=["rows","parties"]
abbrev zfJ:List Str:=["rows","parties"]
theorem zld:za4 zmD zfJ (zan (top 42)):=⟨rfl,rfl,rfl,xwD,rfl,xwD,xwD⟩
abbrev ze9:List Str:=["rows","parties","row"]
theorem ziN:ze9.Nodup:=by decide +kernel
abbrev ze8:List Str:=["rows","parties","row","party"]
theorem zje:ze8.Nodup:=by decide +kernel
noncomputable def znb:DS:=(zeP (zbl (dIt (zab 0)) (zb0 2) (dTB (dOp (gEq false) (dFz (zbl (dIt (zab 1)) (zb0 3) (zdx (dTB (zai zeg (dR (zab 2) (dR (zab 3) dR0))))) (zab 3) 1)) (dFz (zc8 dA0)))) (zab 2) 1))
noncomputable def zdm:FD:=za0 true [false,false] 0 znb
theorem znq(T:Tx K mg):Dfn true P w K mg base CX0 xv 6 (Str.ofString "_law_kept") [false,false] zdm:=by obtain ⟨f,fd,U,hm⟩:=T.u__law_kept;refine ⟨f,fd,zfJ,?_,hm,U.kp,U.binds (ps:=zfJ) λ_ _ _ _ _ _ us hl=>match us,hl with|[_,_],_=>rfl,zas⟩;refine zaA (k:=5) true za9 U zld rfl rfl λX C hX hpp hxv hnw hr hx hpo=>?_;subst hxv;obtain ⟨cdv,A,outer,s,H,E,rfl⟩:=hX;exact (zah (zek hnw (zcp (zcg (zaa 0)) rfl (N':=ze9) (m:=1) xwk rfl (zaV xwk) (zb7 xwk) (zb8 xwk) (λcl L s H fp G H' w Y=>⟨(zbb (i:=2) ziN rfl xwO (xwN rfl)),(zdI (zdV (zeA hr) (zaz (zcp (zcg (zaa 1)) rfl (N':=ze8) (m:=1) xwk rfl (zaV xwk) (zb7 xwk) (zb8 xwk) (λcl L s H fp G H' w Y=>⟨(zbb (i:=3) zje rfl xwO (xwN rfl)),(zdI (zgl (zcu (zaC (znj T) hr xwo za3 (zac (zaa 2) (zac (zaa 3) zaq)))))),(zaa 3)⟩))) (zaz (zbE za1)))),(zaa 2)⟩))))
abbrev zl0:List Str:=["thing"]
abbrev zfi:List Str:=["thing"]
theorem zk2:za4 zl0 zfi (zan (top 43)):=⟨rfl,rfl,rfl,xwD,rfl,xwD,xwD⟩
noncomputable def zly:DS:=(zbd (zrU (zfw "int" (zab 0)) (zxl (zfw "bool" (zab 0)))))
noncomputable def zeQ:FD:=za0 false [false] 0 zly
theorem zmc(T:Tx K mg):Dfn false P w K mg base CX0 xv 3 (Str.ofString "_law_whole") [false] zeQ:=by obtain ⟨f,fd,U,hm⟩:=T.u__law_whole;refine ⟨f,fd,zfi,?_,hm,U.kp,U.binds (ps:=zfi) λ_ _ _ _ _ _ us hl=>match us,hl with|[_],_=>rfl,zas⟩;refine zaA (k:=2) false za9 U zk2 rfl rfl λX C hX hpp hxv hnw hr hx hpo=>?_;subst hxv;obtain ⟨cdv,A,outer,s,H,E,rfl⟩:=hX;exact (zah (zax hnw (zod (zcv zgI rfl T.b_isinstance zcr rfl T.b_int zjI (zaa 0)) (zkT (zpr (zcv zh1 rfl T.b_isinstance zcr rfl T.b_bool zjS (zaa 0)))))))
abbrev ziI:List Str:=["thing"]
abbrev zcA:List Str:=["thing"]
theorem zie:za4 ziI zcA (zan (top 44)):=⟨rfl,rfl,rfl,xwD,rfl,xwD,xwD⟩
abbrev zds:List Str:=["thing","branch"]
theorem zgO:zds.Nodup:=by decide +kernel
noncomputable def zdB(F_self:FD):DS:=(za2 (dIf (dTB (zfw "int" (zab 0))) (zbd (zai zeQ (dR (zab 0) dR0))) dNx) (za2 (dIf (zhl (zdx (dTB (zfw "tuple" (zab 0)))) (zhl (dTB (dOp (gEq true) (dFn zb5 (dA (zab 0) dA0)) (dC (.int 2)))) (zdx (dTB (zfw "tuple" (dOp gIx (zab 0) (dC (.int 1)))))))) (zbd (dC (.bl false))) dNx) (za2 (dIf (zhl (zdx (dTB (zfw "str" (dOp gIx (zab 0) (dC (.int 0)))))) (zhl (dTB (dOp (gIn true) (dOp gIx (zab 0) (dC (.int 0))) (zdO (dA (dC (.str (Str.ofString "any"))) (dA (dC (.str (Str.ofString "row"))) dA0))))) (dTB (dOp gLt (dFn zb5 (dA (dOp gIx (zab 0) (dC (.int 1))) dA0)) (dC (.int 2)))))) (zbd (dC (.bl false))) dNx) (za2 (dIf (zke (dTB (dOp (gEq false) (dOp gIx (zab 0) (dC (.int 0))) (dC (.str (Str.ofString "row"))))) (dTB (dOp gLt (dFn zb5 (dA (dOp gIx (zab 0) (dC (.int 1))) dA0)) (dC (.int 3))))) (zbd (dC (.bl false))) dNx) (zbd (dOp (gEq false) (dFz (zbl (dIt (dOp gIx (zab 0) (dC (.int 1)))) (zb0 1) (zdx (dTB (zai F_self (dR (zab 1) dR0)))) (zab 1) 1)) (dFz (zc8 dA0))))))))
noncomputable def zbe:Nat->FD
 |0=>λ_=>.no
 |n+1=>za0 false [false] 0 (zdB (zbe n))
theorem zf9(T:Tx K mg):∀ n,Dfn false P w K mg base CX0 xv (n+5) (Str.ofString "_law_is_node") [false] (zbe n)
 |0=>by obtain ⟨f,fd,U,hm⟩:=T.u__law_is_node;exact zcD rfl U hm (U.binds (ps:=zcA) λ_ _ _ _ _ _ us hl=>match us,hl with|[_],_=>rfl)
 |n+1=>by have DS:=zf9 T n;obtain ⟨f,fd,U,hm⟩:=T.u__law_is_node;refine ⟨f,fd,zcA,?_,hm,U.kp,U.binds (ps:=zcA) λ_ _ _ _ _ _ us hl=>match us,hl with|[_],_=>rfl,zas⟩;refine zgu.mono (j:=(n+5)+1) ?_ xwo;refine zaA (k:=n+5) false za9 U zie rfl rfl λX C hX hpp hxv hnw hr hx hpo=>?_;subst hxv;obtain ⟨cdv,A,outer,s,H,E,rfl⟩:=hX;exact (zaf (zbt (zcu (zcv zgI rfl T.b_isinstance zcr rfl T.b_int zjI (zaa 0))) (zah (zax hnw (zaC (zmc T) hr xwo za3 (zac (zaa 0) zaq)))) zaF) (zaf (zbt (JW.jt (ziO (zgl (zcu (zcv zdX rfl T.b_isinstance zcr rfl T.b_tuple zen (zaa 0)))) (ziO (zjd (zeA hr) (zcR T.b_len (zaa 0)) zam) (zjl (zgl (zcu (zcv zdX rfl T.b_isinstance zcr rfl T.b_tuple zen (zbc (zaa 0) zam)))))))) (zah (zax hnw zf5)) zaF) (zaf (zbt (JW.jt (ziO (zgl (zcu (zcv zvu rfl T.b_isinstance zcr rfl T.b_str zwn (zbc (zaa 0) zam)))) (ziO (znP (zrD hr) (zbc (zaa 0) zam) (zct (zao zdq (zao zdq za1)))) (zjl (zo0 (zcR T.b_len (zbc (zaa 0) zam)) zam))))) (zah (zax hnw zf5)) zaF) (zaf (zbt (JW.jt (ztp (zdV (zeA hr) (zbc (zaa 0) zam) zdq) (zqX (zo0 (zcR T.b_len (zbc (zaa 0) zam)) zam)))) (zah (zax hnw zf5)) zaF) (zah (zax hnw (zmy (zeA hr) (zaz (zcp (zcg (zbc (zaa 0) zam)) rfl (N':=zds) (m:=1) xwk rfl (zaV xwk) (zb7 xwk) (zb8 xwk) (λcl L s H fp G H' w Y=>⟨(zbb (i:=1) zgO rfl xwO (xwN rfl)),(zdI (zgl (zcu (zaC DS hr (wal _) za3 (zac (zaa 1) zaq))))),(zaa 1)⟩))) (zaz (zbE za1)))))))))
abbrev zjg:List Str:=["n","thing"]
abbrev zdD:List Str:=["n","thing"]
theorem zif:za4 zjg zdD (zan (top 45)):=⟨rfl,rfl,rfl,xwD,rfl,xwD,xwD⟩
noncomputable def ziT:DS:=(zbd (zrU (zai (zbe 8) (dR (zab 1) dR0)) (dOp (gEq false) (dFz (zdL zbh (dA (zai (za8 8) (dR (zab 1) dR0)) dA0))) (dFz (zjh (zab 0))))))
noncomputable def zcC:FD:=za0 false [false,false] 0 ziT
theorem ziW(T:Tx K mg):Dfn false P w K mg base CX0 xv 16 (Str.ofString "_law_is_tree") [false,false] zcC:=by obtain ⟨f,fd,U,hm⟩:=T.u__law_is_tree;refine ⟨f,fd,zdD,?_,hm,U.kp,U.binds (ps:=zdD) λ_ _ _ _ _ _ us hl=>match us,hl with|[_,_],_=>rfl,zas⟩;refine zaA (k:=15) false za9 U zif rfl rfl λX C hX hpp hxv hnw hr hx hpo=>?_;subst hxv;obtain ⟨cdv,A,outer,s,H,E,rfl⟩:=hX;exact (zah (zax hnw (zod (zaC (zf9 T 8) hr xwo za3 (zac (zaa 1) zaq)) (zkT (zmy (zeA hr) (zaz (zf0 rfl T.b_sorted (zaC (zbK T 8) hr xwo za3 (zac (zaa 1) zaq)))) (zaz (zqG rfl rfl T.b_list rfl T.b_range (zaa 0))))))))
abbrev zlE:List Str:=["tree","some","firsts"]
abbrev zd9:List Str:=["tree"]
theorem zeh:za4 zlE zd9 (zan (top 46)):=⟨rfl,rfl,rfl,xwD,rfl,xwD,xwD⟩
abbrev zdQ:List Str:=["tree","some","firsts","branch"]
theorem zhK:zdQ.Nodup:=by decide +kernel
abbrev zea:List Str:=["tree","some","firsts","branch"]
theorem zhE:zea.Nodup:=by decide +kernel
abbrev zdT:List Str:=["tree","some","firsts","first"]
theorem zhV:zdT.Nodup:=by decide +kernel
noncomputable def zfc(F_self:FD):DS:=(za2 (dIf (dTB (zfw "int" (zab 0))) (zbd (zab 0)) dNx) (za2 (zaX 1 (dFz (zbl (dIt (dOp gIx (zab 0) (dC (.int 1)))) (zb0 3) dTT (zai F_self (dR (zab 3) dR0)) 1))) (za2 (zaX 2 (dFz (zbl (dIt (zab 1)) (zb0 3) dTT (dFn zkI (dA (zai (za8 8) (dR (zab 3) dR0)) dA0)) 1))) (za2 (dIf (dTB (dOp (gEq false) (dOp gIx (zab 0) (dC (.int 0))) (dC (.str (Str.ofString "row"))))) (zbd (zdO (dA (dC (.str (Str.ofString "row"))) (dA (dFn zbW (dA (zjA (dTB (dOp gLt (dOp gIx (zab 2) (dC (.int 0))) (dOp gIx (zab 2) (zpg (dC (.int 1)))))) (zab 1) (dFz (zgj (zab 1)))) dA0)) dA0)))) dNx) (zbd (zdO (dA (dC (.str (Str.ofString "any"))) (dA (dFn zbW (dA (dFz (zbl (dIt (dFz (zdL zbh (dA (zab 2) dA0)))) (zb0 3) dTT (dOp gIx (zab 1) (zuW (zab 2) (zab 3))) 1)) dA0)) dA0))))))))
noncomputable def zbw:Nat->FD
 |0=>λ_=>.no
 |n+1=>za0 false [false] 2 (zfc (zbw n))
theorem zgY(T:Tx K mg):∀ n,Dfn false P w K mg base CX0 xv (n+12) (Str.ofString "_law_least") [false] (zbw n)
 |0=>by obtain ⟨f,fd,U,hm⟩:=T.u__law_least;exact zcD rfl U hm (U.binds (ps:=zd9) λ_ _ _ _ _ _ us hl=>match us,hl with|[_],_=>rfl)
 |n+1=>by have DS:=zgY T n;obtain ⟨f,fd,U,hm⟩:=T.u__law_least;refine ⟨f,fd,zd9,?_,hm,U.kp,U.binds (ps:=zd9) λ_ _ _ _ _ _ us hl=>match us,hl with|[_],_=>rfl,zas⟩;refine zgu.mono (j:=(n+12)+1) ?_ xwo;refine zaA (k:=n+12) false za9 U zeh rfl rfl λX C hX hpp hxv hnw hr hx hpo=>?_;subst hxv;obtain ⟨cdv,A,outer,s,H,E,rfl⟩:=hX;exact (zaf (zbt (zcu (zcv zgI rfl T.b_isinstance zcr rfl T.b_int zjI (zaa 0))) (zah (zax hnw (zaa 0))) zaF) (zaf (zaM (i:=1) zeh.nd rfl xwO (by rw[hpp];decide) (zaz (zcp (zcg (zbc (zaa 0) zam)) rfl (N':=zdQ) (m:=1) xwk rfl (zaV xwk) (zb7 xwk) (zb8 xwk) (λcl L s H fp G H' w Y=>⟨(zbb (i:=3) zhK rfl xwO (xwN rfl)),zff,(zaC DS hr (wal _) za3 (zac (zaa 3) zaq))⟩)))) (zaf (zaM (i:=2) zeh.nd rfl xwO (by rw[hpp];decide) (zaz (zcp (zcg (zaa 1)) rfl (N':=zea) (m:=1) xwk rfl (zaV xwk) (zb7 xwk) (zb8 xwk) (λcl L s H fp G H' w Y=>⟨(zbb (i:=3) zhE rfl xwO (xwN rfl)),zff,(zwc rfl T.b_min (zaC (zbK T 8) hr xwo za3 (zac (zaa 3) zaq)))⟩)))) (zaf (zbt (zdV (zeA hr) (zbc (zaa 0) zam) zdq) (zah (zax hnw (zct (zao zdq (zao (zdG T.b_tuple (zhZ (zo0 (zbc (zaa 2) zam) (zbc (zaa 2) (zos zam))) (zaa 1) (zaz (zt8 (zaa 1))))) za1))))) zaF) (zah (zax hnw (zct (zao zdq (zao (zdG T.b_tuple (zaz (zcp (zcg (zaz (zf0 rfl T.b_sorted (zaa 2)))) rfl (N':=zdT) (m:=1) xwk rfl (zaV xwk) (zb7 xwk) (zb8 xwk) (λcl L s H fp G H' w Y=>⟨(zbb (i:=3) zhV rfl xwO (xwN rfl)),zff,(zbc (zaa 1) (zt0 (zrD hr) (zaa 2) (zaa 3)))⟩)))) za1)))))))))
abbrev zmM:List Str:=["found","due"]
abbrev zez:List Str:=["found","due"]
theorem zlU:za4 zmM zez (zan (top 47)):=⟨rfl,rfl,rfl,xwD,rfl,xwD,xwD⟩
abbrev ze5:List Str:=["found","due","one","other"]
theorem ziX:ze5.Nodup:=by decide +kernel
noncomputable def zdt(F_self:FD):DS:=(za2 (dIf (dTB (zuO "tuple" "list" (zab 1))) (za2 (dIf (zhl (dTB (dOp (gEq true) (zfw "tuple" (zab 0)) (zfw "tuple" (zab 1)))) (dTB (dOp (gEq true) (zfw "list" (zab 0)) (zfw "list" (zab 1))))) (zbd (dC (.bl false))) dNx) (za2 (dIf (dTB (dOp (gEq true) (dFn zb5 (dA (zab 0) dA0)) (dFn zb5 (dA (zab 1) dA0)))) (zbd (dC (.bl false))) dNx) (zbd (dFn zuc (dA (dFz (zbl (zqk (zab 0) (zab 1)) (zhD 2 3) dTT (zai F_self (dR (zab 2) (dR (zab 3) dR0))) 2)) dA0))))) dNx) (zbd (zrU (dOp (gEq false) (zab 0) (zab 1)) (dOp (gEq false) (zfw "bool" (zab 0)) (zfw "bool" (zab 1))))))
noncomputable def zaS:Nat->FD
 |0=>λ_=>.no
 |n+1=>za0 false [false,false] 0 (zdt (zaS n))
theorem zis(T:Tx K mg):∀ n,Dfn false P w K mg base CX0 xv (n+2) (Str.ofString "_law_same") [false,false] (zaS n)
 |0=>by obtain ⟨f,fd,U,hm⟩:=T.u__law_same;exact zcD rfl U hm (U.binds (ps:=zez) λ_ _ _ _ _ _ us hl=>match us,hl with|[_,_],_=>rfl)
 |n+1=>by have DS:=zis T n;obtain ⟨f,fd,U,hm⟩:=T.u__law_same;refine ⟨f,fd,zez,?_,hm,U.kp,U.binds (ps:=zez) λ_ _ _ _ _ _ us hl=>match us,hl with|[_,_],_=>rfl,zas⟩;refine zgu.mono (j:=(n+2)+1) ?_ xwo;refine zaA (k:=n+2) false za9 U zlU rfl rfl λX C hX hpp hxv hnw hr hx hpo=>?_;subst hxv;obtain ⟨cdv,A,outer,s,H,E,rfl⟩:=hX;exact (zaf (zbt (zcu (zuH zdX zkl rfl T.b_isinstance zcr rfl T.b_tuple zen rfl T.b_list zkC (zaa 1))) (zaf (zbt (JW.jt (ziO (zjd (zeA hr) (zcv zdX rfl T.b_isinstance zcr rfl T.b_tuple zen (zaa 0)) (zcv zdX rfl T.b_isinstance zcr rfl T.b_tuple zen (zaa 1))) (zjl (zjd (zeA hr) (zcv zkl rfl T.b_isinstance zcr rfl T.b_list zkC (zaa 0)) (zcv zkl rfl T.b_isinstance zcr rfl T.b_list zkC (zaa 1)))))) (zah (zax hnw zf5)) zaF) (zaf (zbt (zjd (zeA hr) (zcR T.b_len (zaa 0)) (zcR T.b_len (zaa 1))) (zah (zax hnw zf5)) zaF) (zah (zax hnw (zxN rfl T.b_all (zaz (zcp (zvb rfl T.b_zip (zaa 0) (zaa 1)) rfl (N':=ze5) (m:=2) xwk rfl (zaV xwk) (zb7 xwk) (zb8 xwk) (λcl L s H fp G H' w Y=>⟨(zru (i:=2) (j:=3) rfl ziX rfl rfl xwO xwO (xwN rfl) (xwN rfl)),zff,(zaC DS hr (wal _) za3 (zac (zaa 2) (zac (zaa 3) zaq)))⟩)))))))) zaF) (zah (zax hnw (zod (zmy (zeA hr) (zaa 0) (zaa 1)) (zkT (zmy (zeA hr) (zcv zh1 rfl T.b_isinstance zcr rfl T.b_bool zjS (zaa 0)) (zcv zh1 rfl T.b_isinstance zcr rfl T.b_bool zjS (zaa 1))))))))
abbrev zyk:List Str:=["script","k","state","n","tree","rows","row","party","due","found"]
abbrev zwa:List Str:=["script"]
theorem zfD:za4 zyk zwa (zan (top 48)):=⟨rfl,rfl,rfl,xwD,rfl,xwD,xwD⟩
noncomputable def zuF:DS:=(za2 (ziF (zdS (dFn zjV (dA (dC (.int 1)) (dA (dFn zki (dA (dFn zb5 (dA (zab 0) dA0)) (dA (dC (.int 4)) dA0))) dA0)))) (zb0 1) (za2 (zdC 2 (zbm zcN (dR (zab 0) (dR (zab 1) dR0)))) (za2 (zaX 3 (dOp zdu (dC (.int 1)) (zai zak (dRO 2 (dR (dC (.int 6)) dR0))))) (za2 (zaX 4 (zai (zaZ 8) (dRO 2 (dR (dFz (zjh (zab 3))) dR0)))) (za2 (zaX 5 (dFz (zbm zaP (dR (zab 4) (dR (zai zbC (dR (zab 3) dR0)) dR0))))) (za2 (zaX 6 (dOp gIx (zab 5) (zai zak (dRO 2 (dR (dFn zb5 (dA (zab 5) dA0)) dR0))))) (ziF (dIt (dFz (zc8 (dA (zai zdn (dRO 2 (dR (zab 6) dR0))) (dA (zai zbx (dRO 2 (dR (zab 3) dR0))) (dA (zai zbx (dRO 2 (dR (zab 3) dR0))) (dA (zmu (zab 3)) (dA (zdO (dA (dC (.int 0)) dA0)) dA0)))))))) (zb0 7) (za2 (zaX 8 (dFz (zbm zdm (dR (zab 5) (dR (dFz (zc8 (dA (zab 7) dA0))) dR0))))) (za2 (zaX 9 (zai zdk (dR (zab 3) (dR (zab 4) (dR (zab 7) dR0))))) (za2 (dIf (dTB (dOp (gEq false) (zab 8) (dFz (zc8 dA0)))) (dIf (zoV false (zab 9)) (zbd (dC (.bl false))) dNx) (dIf (zhl (zdx (dTB (zai zcC (dR (zab 3) (dR (zab 9) dR0))))) (zhl (dTB (dOp (gEq true) (zai (zbw 8) (dR (zab 9) dR0)) (zab 9))) (dTB (dOp (gEq true) (dFz (zbm zaP (dR (zab 9) (dR (zab 5) dR0)))) (zab 8))))) (zbd (dC (.bl false))) (dIf (dTB (dOp (gEq true) (dFn zb5 (dA (dFz (zbm zaP (dR (zab 9) (dR (zai zbC (dR (zab 3) dR0)) dR0)))) dA0)) (dFn zb5 (dA (zab 8) dA0)))) (zbd (dC (.bl false))) dNx))) (dIf (zdx (dTB (zai (zaS 16) (dR (zai zdk (dR (zab 3) (dR (zab 4) (dR (zab 7) dR0)))) (dR (zab 9) dR0))))) (zbd (dC (.bl false))) dNx))))))))))) (zbd (dC (.bl true))))
noncomputable def zo7:FD:=za0 false [false] 9 zuF
theorem zxX(T:Tx K mg){f:Addr}{fd:FuncData}(U:Fun K "law" "law" (top 48) f fd):zgu P w K mg base CX0 108 f fd zwa (zqn false K xv [false] zo7):=by refine zaA (k:=107) false za9 U zfD rfl rfl λX C hX hpp hxv hnw hr hx hpo=>?_;subst hxv;obtain ⟨cdv,A,outer,s,H,E,rfl⟩:=hX;exact (zaf (zg0 hpo rfl (zfa rfl T.b_range (zx1 rfl T.b_max zam (zxm rfl T.b_min (zcR T.b_len (zaa 0)) zam))) (zbb (i:=1) zfD.nd rfl xwO (by rw[hpp];decide)) (zaf (zeT (i:=2) zfD.nd rfl xwO (by rw[hpp];decide) (zja (zme T) hr xwo za3 (zac (zaa 0) (zac (zaa 1) zaq)))) (zaf (zaM (i:=3) zfD.nd rfl xwO (by rw[hpp];decide) (zej zam (zaC (zbo T) hr xwo za3 (zcU 2 (zac zam zaq))))) (zaf (zaM (i:=4) zfD.nd rfl xwO (by rw[hpp];decide) (zaC (zi9 T 8) hr xwo za3 (zcU 2 (zac (zaz (zqG rfl rfl T.b_list rfl T.b_range (zaa 3))) zaq)))) (zaf (zaM (i:=5) zfD.nd rfl xwO (by rw[hpp];decide) (zaz (zja (zdF T) hr xwo za3 (zac (zaa 4) (zac (zaC (zgX T) hr xwo za3 (zac (zaa 3) zaq)) zaq))))) (zaf (zaM (i:=6) zfD.nd rfl xwO (by rw[hpp];decide) (zbc (zaa 5) (zaC (zbo T) hr xwo za3 (zcU 2 (zac (zcR T.b_len (zaa 5)) zaq))))) (zah (zg0 hpo rfl (zcg (zaz (zbE (zao (zaC (zmV T) hr xwo za3 (zcU 2 (zac (zaa 6) zaq))) (zao (zaC (zgW T) hr xwo za3 (zcU 2 (zac (zaa 3) zaq))) (zao (zaC (zgW T) hr xwo za3 (zcU 2 (zac (zaa 3) zaq))) (zao (zvg rfl rfl T.b_tuple rfl T.b_range (zaa 3)) (zao (zct (zao zam za1)) za1)))))))) (zbb (i:=7) zfD.nd rfl xwO (by rw[hpp];decide)) (zaf (zaM (i:=8) zfD.nd rfl xwO (by rw[hpp];decide) (zaz (zja (znq T) hr xwo za3 (zac (zaa 5) (zac (zaz (zbE (zao (zaa 7) za1))) zaq))))) (zaf (zaM (i:=9) zfD.nd rfl xwO (by rw[hpp];decide) (zaC (ziu T) hr xwo za3 (zac (zaa 3) (zac (zaa 4) (zac (zaa 7) zaq))))) (zaf (zbt (zdV (zeA hr) (zaa 8) (zaz (zbE za1))) (zah (zbt (zvI (zaa 9)) (zah (zax hnw zf5)) zaF)) (zah (zbt (JW.jt (ziO (zgl (zcu (zaC (ziW T) hr xwo za3 (zac (zaa 3) (zac (zaa 9) zaq))))) (ziO (zjd (zeA hr) (zaC (zgY T 8) hr xwo za3 (zac (zaa 9) zaq)) (zaa 9)) (zjl (zjd (zeA hr) (zaz (zja (zdF T) hr xwo za3 (zac (zaa 9) (zac (zaa 5) zaq)))) (zaa 8)))))) (zah (zax hnw zf5)) (zah (zbt (zjd (zeA hr) (zcR T.b_len (zaz (zja (zdF T) hr xwo za3 (zac (zaa 9) (zac (zaC (zgX T) hr xwo za3 (zac (zaa 3) zaq)) zaq))))) (zcR T.b_len (zaa 8))) (zah (zax hnw zf5)) zaF))))) (zah (zbt (zgl (zcu (zaC (zis T 16) hr xwo za3 (zac (zaC (ziu T) hr xwo za3 (zac (zaa 3) (zac (zaa 4) (zac (zaa 7) zaq)))) (zac (zaa 9) zaq))))) (zah (zax hnw zf5)) zaF))))))))))))) (zah (zax hnw zf5)))
end
theorem zm1{x y:Dt}{bs:List B}:∀{Z:Ev}{k:Nat},ziH [.d x,.d y] bs k Z = Z
 |[],_=>rfl
 |o::r,k=>by show (match zeU [.d x,.d y] k with|some j=>bs[j]?|none=>o)::ziH [.d x,.d y] bs (k+1) r=_;rw[zm1 (Z:=r)];rfl
theorem zdy{F:FD}{fa:De}{Z Z':Ev}{d y:Dt}{l:List B}(h:fa Z=.ok (d,Z'))(hF:F [.val d]=.ok (y,l)):zai F (dR fa dR0) Z=.ok (y,Z'):=by unfold zai dR dR0;rw[h];simp only[R.bind_ok,zpc,zbB,if_true,zaE,hF];rw[znL]
theorem zcX{F:FD}{fa fb:De}{Z Z' Z'':Ev}{d e y:Dt}{l:List B}(h:fa Z=.ok (d,Z'))(h2:fb Z'=.ok (e,Z''))(hF:F [.val d,.val e]=.ok (y,l)):zai F (dR fa (dR fb dR0)) Z=.ok (y,Z''):=by unfold zai dR dR0;rw[h];simp only[R.bind_ok,h2,zpc,zbB,if_true,zaE,hF];rw[zm1]
theorem zmB{i k:Nat}{d:Dt}:zeU [.s i,.d d] k=if i=k then some 0 else none:=by unfold zeU zeR;split <;> rfl
theorem ztx{i:Nat}{d:Dt}{b:B}{bs:List B}:∀{Z:Ev}{k:Nat},k<=i->ziH [.s i,.d d] (b::bs) k Z = Z.set (i-k) (some b)
 |[],k,_=>by simp[ziH]
 |o::r,k,h=>by
  unfold ziH;rw[zmB];by_cases e:i=k
  ·subst e;simp only[if_true,Nat.sub_self,List.set_cons_zero];have:∀(r:Ev)(m:Nat),i<m->ziH [.s i,.d d] (b::bs) m r=r:=by
    intro r
    induction r with
    |nil=>intro m _;rfl
    |cons o r ih =>
     intro m hm;unfold ziH;rw[zmB,if_neg xwl,ih (m+1) xwl]
   rw[this r (i+1) xwl];rfl
  ·rw[if_neg e,ztx (k:=k+1) xwl];have:i-k=(i-(k+1))+1:=by lia
   rw[this,List.set_cons_succ]
theorem zg7{F:FD}{fb:De}{i:Nat}{Z:Ev}{d y:Dt}{st st':List Dt}{l:List B}(hi:Z[i]? = some (some (.own st)))(h:fb Z=.ok (d,Z))(hF:F [.own st,.val d]=.ok (y,.own st'::l)):zai F (dRO i (dR fb dR0)) Z=.ok (y,Z.set i (some (.own st'))):=by
 have u:zpc [.s i,.d d]=true:=by unfold zpc zbB;rw[zmB];simp[zbB]
 unfold zai dRO dR dR0;simp only[hi,h,R.bind_ok,u,if_true,zaE,ztw,hF];rw[ztx (Nat.zero_le _)];rfl
theorem zal{nw:Bool}{ks:List Bool}{m:Nat}{body:DS}{bs:List B}{d:Dt}{Z':Ev}{l:List B}(hk:zdE bs=ks)(hb:body (bs.map some++List.replicate m none)=.ok (.rt d,Z'))(hl:zaL ks Z'=.ok l):za0 nw ks m body bs=.ok (d,l):=by unfold za0;rw[if_pos hk,hb];simp only[R.bind_ok,hl]
noncomputable def St(st:List Dt):Prop:=∃ s b,st=[.int s,.bl b]
theorem zbX{st:List Dt}{m:Int}(h:St st)(h0:0<m)(h1:m<1073741824):∃(v:Int)(st':List Dt),zak [.own st,.val (.int m)]=.ok (.int v,[.own st',.val .non])/\St st'/\0<=v/\v<m:=by
 obtain ⟨s,b,rfl⟩:=h;cases b with
 |true =>
  refine ⟨s % m,[.int (s / m),.bl true],?_,⟨_,_,rfl⟩,Int.emod_nonneg _ xwl,Int.emod_lt_of_pos _ h0⟩;unfold zak za0 zfR;simp[zdE,ztw,za2,dIf,dTB,zpF,dC,atI,ixN,zaX,dOp,zo3,zab,zqL,zsX,zbd,zaL,h0,h1]
 |false =>
  have e1:∃ a,(s * 48271+29) % 2147483647=a/\0<=a/\a<2147483647:=⟨_,rfl,Int.emod_nonneg _ xwd,Int.emod_lt_of_pos _ xwd⟩
  obtain ⟨a,ea,a0,a1⟩:=e1;have e2:∃ c,(a * a+39373 * a+7) % 2147483629=c/\0<=c/\c<2147483629:=⟨_,rfl,Int.emod_nonneg _ xwd,Int.emod_lt_of_pos _ xwd⟩
  obtain ⟨c,ec,c0,c1⟩:=e2;have sa:zdl a=true:=by unfold zdl;simp;lia
  have sc:zdl c=true:=by unfold zdl;simp;lia
  have s1:zdl 48271=true:=by decide
  have s2:zdl 39373=true:=by decide
  have s3:zdl 16807=true:=by decide
  refine ⟨(c * c+16807 * c) % 2147483587 / 8 % m,[.int a,.bl false],?_,⟨_,_,rfl⟩,Int.emod_nonneg _ xwl,Int.emod_lt_of_pos _ h0⟩;unfold zak za0 zfR;simp[zdE,ztw,za2,dIf,dTB,zpF,dC,atI,ixN,zaX,dOp,zo3,zri,zdu,zab,zqL,zsX,zbd,dNx,zaL,h0,h1,ea,ec,sa,sc,s1,s2,s3]
theorem zgp:∀(n:Nat)(d:Dt),okN n d=true->okN (n+1) d=true
 |_,.non,_=>by simp[okN]
 |_,.bl _,_=>by simp[okN]
 |_,.int _,_=>by simp[okN]
 |n,.str x,h=>by cases n <;> simpa [okN] using h
 |0,.tup l,h=>by simp[okN] at h
 |0,.lst l,h=>by simp[okN] at h
 |n+1,.tup l,h=>by simp only[okN,List.all_eq_true] at h ⊢;exact λd hd=>zgp n d (h d hd)
 |n+1,.lst l,h=>by simp only[okN,List.all_eq_true] at h ⊢;exact λd hd=>zgp n d (h d hd)
 |n,.dct _,h=>by cases n <;> simp[okN] at h
 |n,.scr _,h=>by cases n <;> simp[okN] at h
theorem zlz{n m:Nat}{d:Dt}(h:okN n d=true)(hl:n<=m):okN m d=true:=by
 induction hl with
 |refl=>exact h
 |step _ ih=>exact zgp _ _ ih
theorem zkH{n:Nat}{v:Int}(h0:0<=v)(h1:v<n):ixN n v=some v.toNat:=by unfold ixN;rw[if_pos h0,if_pos h1]
theorem zf1{α:Type}:∀{l:List α}{j:Nat}{d:α},l[j]? = some d->(d::l.eraseIdx j).Perm l
 |[],_,_,h=>by simp at h
 |a::l,0,d,h=>by simp at h;subst h;exact .refl _
 |a::l,j+1,d,h=>by have:=zf1 (l:=l) (j:=j) (d:=d) (by simpa using h);exact (List.Perm.swap a d _).trans (this.cons a)
theorem zbp{neg:Bool}{x y:Dt}(h1:okN 60 x=true)(h2:okN 60 y=true):gEq neg x y=.ok (.bl (if neg then !eqD x y else eqD x y)):=by unfold gEq;rw[h1,h2];rfl
theorem zeN{d:Dt}{l:List Dt}:eqD (.lst (d::l)) (.lst [])=false:=by rw[eqD];simp[zgf]
theorem ze4:eqD (.lst []) (.lst [])=true:=by rw[eqD,zgf]
theorem zwS{st found l:List Dt}{o:Option B}{b:Bool}(h:okN 60 (.lst l)=true)(e:(!eqD (.lst l) (.lst []))=b):dTB (zvO true 2 (dFz (zc8 dA0))) [some (.own st),o,some (.own l),some (.own found)]=.ok (b,[some (.own st),o,some (.own l),some (.own found)]):=by show (((gEq true (.lst l) (.lst [])).bind λz=>.ok (z,[some (.own st),o,some (.own l),some (.own found)])).bind λ(a:Dt×Ev)=>match a.1 with|.bl b=>.ok (b,a.2)|_=>.no)=_;rw[zbp h rfl];simp only[if_true,e];rfl
theorem zjM{things:Option B}:∀(n:Nat)(left found:List Dt)(st:List Dt),left.length<n->left.length+found.length<=1000->(∀ d∈left,okN 59 d=true)->St st->∃ st' p,St st'/\p.Perm left /\
  zbA (dTB (zvO true 2 (dFz (zc8 dA0)))) (dEx (zeK 3 (zjw 2 (zai zak (dRO 0 (dR (zoO 2) dR0)))))) n [some (.own st),things,some (.own left),some (.own found)]=.ok (.nx,[some (.own st'),things,some (.own []),some (.own (found++p))])
 |0,left,found,st,h,_,_,_=>absurd h (Nat.not_lt_zero _)
 |n+1,[],found,st,h,hl,hk,hs=>by refine ⟨st,[],hs,.refl _,?_⟩;unfold zbA;rw[zwS (b:=false) rfl (by rw[ze4];rfl)];simp
 |n+1,d::left,found,st,h,hl,hk,hs=>by
  obtain ⟨v,st1,e,hs1,v0,v1⟩:=zbX (m:=((d::left).length:Nat)) hs (by simp only[wan];lia) (by simp only[wan] at hl ⊢;lia);have hv:v.toNat<(d::left).length:=by lia
  have hget:(d::left)[v.toNat]? = some (d::left)[v.toNat]:=by simp[hv]
  have hel:=zf1 hget;have hlen:((d::left).eraseIdx v.toNat).length=left.length:=by have:=hel.length_eq;simp only[wan] at this;lia
  obtain ⟨st',p,hs',hp,hw⟩:=zjM (things:=things) n ((d::left).eraseIdx v.toNat) (found++[(d::left)[v.toNat]]) st1 (by simp only[wan] at h;lia) (by simp only[wav,wan,List.length_nil] at hl ⊢;lia)
   (λx hx=>hk x (hel.mem_iff.mp (wah _ hx))) hs1
  refine ⟨st',(d::left)[v.toNat]::p,hs',((hp.cons _).trans hel),?_⟩;have hall:((d::left).all (okN 59))=true:=List.all_eq_true.mpr hk;have ec:zai zak (dRO 0 (dR (zoO 2) dR0)) [some (.own st),things,some (.own (d::left)),some (.own found)]=.ok (.int v,[some (.own st1),things,some (.own (d::left)),some (.own found)]):=zg7 (Z:=[some (.own st),things,some (.own (d::left)),some (.own found)]) rfl rfl e;have hm:zf2 v=true:=by unfold zf2;simp;simp only[wan] at hl v1;lia
  unfold zbA;have t1:=zwS (st:=st) (found:=found) (l:=d::left) (o:=things) (b:=true) (show okN 60 (.lst (d::left))=true from hall) (by rw[zeN];rfl);rw[t1];simp only[R.bind_ok,if_true];have t2:dEx (zeK 3 (zjw 2 (zai zak (dRO 0 (dR (zoO 2) dR0))))) [some (.own st),things,some (.own (d::left)),some (.own found)]=.ok (.nx,[some (.own st1),things,some (.own ((d::left).eraseIdx v.toNat)),some (.own (found++[(d::left)[v.toNat]]))]):=by
   have hpop:zs6 (d::left) v=some ((d::left)[v.toNat],(d::left).eraseIdx v.toNat):=by unfold zs6;rw[if_pos hm,zkH v0 v1];simp only[hget]
   unfold dEx zeK zjw;simp only[List.getElem?_cons_succ,List.getElem?_cons_zero,ec,R.bind_ok,hpop,List.set_cons_succ,List.set_cons_zero];rw[if_pos xwl];rfl
  rw[t2];simp only[R.bind_ok];rw[hw];simp
theorem zph{l:List Dt}{st:List Dt}(hs:St st)(hl:l.length<10)(hk:∀ d∈l,okN 59 d=true):∃ st' p,St st'/\p.Perm l/\zcd [.own st,.val (.lst l)]=.ok (.lst p,[.own st',.val .non]):=by
 obtain ⟨st',p,hs',hp,hw⟩:=zjM (things:=some (.val (.lst l))) 10 l [] st hl (by simp;lia) hk hs;refine ⟨st',p,hs',hp,?_⟩;have hd:zcP [some (.own st),some (.val (.lst l)),none,none]=.ok (.rt (.lst p),[some (.own st'),some (.val (.lst l)),some (.own []),some (.val (.lst p))]):=by unfold zcP;have e1:zdC 2 (zdL ziY (dA (zab 1) dA0)) [some (.own st),some (.val (.lst l)),none,none]=.ok (.nx,[some (.own st),some (.val (.lst l)),some (.own l),none]):=rfl;have e2:zdC 3 (zc8 dA0) [some (.own st),some (.val (.lst l)),some (.own l),none]=.ok (.nx,[some (.own st),some (.val (.lst l)),some (.own l),some (.own [])]):=rfl;unfold za2;rw[e1];simp only[R.bind_ok];rw[e2];simp only[R.bind_ok];rw[hw];rfl
 exact zal rfl hd rfl
theorem zar{g:Dt->Dt->R Dt}{fa fb:De}{Z Z1 Z2:Ev}{d e z:Dt}(h1:fa Z=.ok (d,Z1))(h2:fb Z1=.ok (e,Z2))(h3:g d e=.ok z):dOp g fa fb Z=.ok (z,Z2):=by unfold dOp;rw[h1];simp only[R.bind_ok,h2,h3]
theorem za5{f:De}{Z Z1:Ev}{b:Bool}(h:f Z=.ok (.bl b,Z1)):dTB f Z=.ok (b,Z1):=by unfold dTB;rw[h];rfl
theorem zdw{c:DT}{f g:DS}{Z Z1:Ev}(h:c Z=.ok (true,Z1)):dIf c f g Z=f Z1:=by unfold dIf;rw[h];rfl
theorem zbN{c:DT}{f g:DS}{Z Z1:Ev}(h:c Z=.ok (false,Z1)):dIf c f g Z=g Z1:=by unfold dIf;rw[h];rfl
theorem zag{f g:DS}{Z Z1:Ev}(h:f Z=.ok (.nx,Z1)):za2 f g Z=g Z1:=by unfold za2;rw[h];rfl
theorem zby{f g:DS}{Z Z1:Ev}{d:Dt}(h:f Z=.ok (.rt d,Z1)):za2 f g Z=.ok (.rt d,Z1):=by unfold za2;rw[h];rfl
theorem zaY{f:De}{Z Z1:Ev}{d:Dt}(h:f Z=.ok (d,Z1)):zbd f Z=.ok (.rt d,Z1):=by unfold zbd;rw[h];rfl
theorem zaD{f:De}{i:Nat}{Z Z1:Ev}{d:Dt}(h:f Z=.ok (d,Z1))(hi:i < Z1.length):zaX i f Z=.ok (.nx,Z1.set i (some (.val d))):=by unfold zaX;rw[h];simp only[R.bind_ok,hi,if_true]
theorem ztc{f:DN}{i:Nat}{Z Z1:Ev}{d:List Dt}(h:f Z=.ok (d,Z1))(hi:i < Z1.length):zdC i f Z=.ok (.nx,Z1.set i (some (.own d))):=by unfold zdC;rw[h];simp only[R.bind_ok,hi,if_true]
theorem zaN{f:DN}{Z Z1:Ev}{d:List Dt}(h:f Z=.ok (d,Z1)):dFz f Z=.ok (.lst d,Z1):=by unfold dFz;rw[h];rfl
theorem zhb{f:De}{Z Z1:Ev}{d:Dt}(h:f Z=.ok (d,Z1)):dEx f Z=.ok (.nx,Z1):=by unfold dEx;rw[h];rfl
theorem zbH{g:List Dt->R Dt}{f:De}{Z Z1:Ev}{d z:Dt}(h:f Z=.ok (d,Z1))(hg:g [d]=.ok z):dFn g (dA f dA0) Z=.ok (z,Z1):=by unfold dFn dA dA0;rw[h];simp only[R.bind_ok,hg]
theorem zjv{f g:DT}{Z Z1:Ev}(h:f Z=.ok (false,Z1)):zhl f g Z=g Z1:=by unfold zhl;rw[h];rfl
theorem zmx{f g:DT}{Z Z1:Ev}(h:f Z=.ok (true,Z1)):zke f g Z=g Z1:=by unfold zke;rw[h];rfl
theorem zrA{f g:DT}{Z Z1:Ev}(h:f Z=.ok (false,Z1)):zke f g Z=.ok (false,Z1):=by unfold zke;rw[h];rfl
theorem zfr{f:DT}{Z Z1:Ev}{b:Bool}(h:f Z=.ok (b,Z1)):zdx f Z=.ok (!b,Z1):=by unfold zdx;rw[h];rfl
theorem zqH{Z0:Ev}{o:Option B}{d:Dt}:zb0 Z0.length d (Z0++[o])=.ok (Z0++[some (.val d)]):=by unfold zb0;rw[if_pos xws];simp
theorem zlW{α:Type}{u f:α->Dt}{fe:De}{Z0:Ev}:∀{l:List α}{o:Option B},(∀ a∈l,fe (Z0++[some (.val (u a))])=.ok (f a,Z0++[some (.val (u a))]))->∃ o',zbS (zb0 Z0.length) dTT fe (l.map u) (Z0++[o])=.ok (l.map f,Z0++[o'])
 |[],o,_=>⟨o,rfl⟩
 |a::l,o,h=>by obtain ⟨o',e⟩:=zlW (l:=l) (o:=some (.val (u a))) λb hb=>h b (by simp[hb]);refine ⟨o',?_⟩;rw[List.map_cons,zbS,zqH];simp only[R.bind_ok,dTT,if_true];rw[h a xws];simp only[R.bind_ok];rw[e];rfl
theorem zeb{α:Type}{u f:α->Dt}{fe:De}{Z0:Ev}{fi:DA}{l:List α}{ds:List Dt}(hi:fi Z0=.ok (ds,Z0))(hd:ds=l.map u)(hl:l.length<=1000)(h:∀ a∈l,fe (Z0++[some (.val (u a))])=.ok (f a,Z0++[some (.val (u a))])){j:Nat}(hj:j = Z0.length) :
  zbl fi (zb0 j) dTT fe 1 Z0=.ok (l.map f,Z0):=by
 subst hd;subst hj;obtain ⟨o',e⟩:=zlW (o:=none) h;unfold zbl;rw[hi];simp only[R.bind_ok];rw[if_pos (by unfold zhg;simp;lia)];show (match zbS (zb0 Z0.length) dTT fe (l.map u) (Z0++[none]) with|.ok z=>R.ok (z.1,z.2.take Z0.length)|_=>.no)=_;rw[e];simp
theorem zfx{α:Type}{a:α}{l:List α}:atI (a::l) 0=some a:=by unfold atI ixN;simp
theorem eqI{a b:Int}:eqD (.int a) (.int b)=(a == b):=by rw[eqD]
theorem zjZ{x:Option B}{zbz:Ev}{o:Option B}{d:Dt}:zb0 (zbz.length+1) d (x::(zbz++[o]))=.ok (x::(zbz++[some (.val d)])):=by unfold zb0;rw[if_pos xws];simp
theorem zqV{α β:Type}{Rl:α->β->Prop}{u:α->Dt}{v:β->Dt}{fe:De}{zbz:Ev}:∀{l:List α}{st:List Dt}{o:Option B},
  (∀ a∈l,∀ st,St st->∃ y st',St st'/\Rl a y/\fe (some (.own st)::(zbz++[some (.val (u a))]))=.ok (v y,some (.own st')::(zbz++[some (.val (u a))])))->St st ->
  ∃ ys st' o',St st'/\Paired Rl l ys/\zbS (zb0 (zbz.length+1)) dTT fe (l.map u) (some (.own st)::(zbz++[o]))=.ok (ys.map v,some (.own st')::(zbz++[o']))
 |[],st,o,_,hs=>⟨[],st,o,hs,.nil,rfl⟩
 |a::l,st,o,h,hs=>by obtain ⟨y,st1,hs1,hr,e1⟩:=h a xws st hs;obtain ⟨ys,st',o',hs',hp,e⟩:=zqV (l:=l) (st:=st1) (o:=some (.val (u a))) (λb hb=>h b (wah _ hb)) hs1;refine ⟨y::ys,st',o',hs',.cons hr hp,?_⟩;rw[List.map_cons,zbS,zjZ];simp only[R.bind_ok,dTT,if_true];rw[e1];simp only[R.bind_ok];rw[e];rfl
theorem zsA{α β:Type}{Rl:α->β->Prop}{u:α->Dt}{v:β->Dt}{fe:De}{zbz:Ev}{fi:DA}{Z:Ev}{l:List α}{ds:List Dt}{st:List Dt}{j:Nat}(hi:fi Z=.ok (ds,some (.own st)::zbz))(hd:ds=l.map u)(hl:l.length<=1000)(hj:j=zbz.length+1)
  (h:∀ a∈l,∀ st,St st->∃ y st',St st'/\Rl a y/\fe (some (.own st)::(zbz++[some (.val (u a))]))=.ok (v y,some (.own st')::(zbz++[some (.val (u a))]))) (hs:St st) :
  ∃ ys st',St st'/\Paired Rl l ys/\zbl fi (zb0 j) dTT fe 1 Z=.ok (ys.map v,some (.own st')::zbz):=by
 subst hd;subst hj;obtain ⟨ys,st',o',hs',hp,e⟩:=zqV (o:=none) h hs;refine ⟨ys,st',hs',hp,?_⟩;unfold zbl;rw[hi];simp only[R.bind_ok];rw[if_pos (by unfold zhg;simp only[List.length_map,decide_eq_true_eq];lia)];show (match zbS (zb0 (zbz.length+1)) dTT fe (l.map u) (some (.own st)::(zbz++[none])) with|.ok z=>R.ok (z.1,z.2.take (zbz.length+1))|_=>.no)=_;rw[e];simp
theorem zmm{p:List Dt}{l:List Int}(h:p.Perm (l.map .int)):∃ q:List Int,q.Perm l/\p=q.map .int:=by
 refine ⟨p.map λd=>match d with|.int i=>i|_=>0,?_,?_⟩
 ·have:=h.map λd=>match d with|.int i=>i|_=>0
  rw[List.map_map] at this;have e:((λd=>match d with|.int i=>i|_=>0) ∘ Dt.int)=(id:Int->Int):=rfl;rw[e,List.map_id] at this;exact this
 ·rw[List.map_map]
  conv=>lhs;rw[<- List.map_id p]
  refine List.map_congr_left λd hd=>?_;obtain ⟨i,_,rfl⟩:=List.mem_map.mp (h.mem_iff.mp hd);rfl
noncomputable def isW:Dt->Bool
 |.int _=>true
 |_=>false
theorem zoA(d:Dt):zdR [.val d]=.ok (.bl (isW d),[.val .non]):=by
 cases d <;> simp[zdR,za0,zjJ,zdE,ztw,zbd,zrU,zfw,zab,zxl,zmp,tyD,zaL,isW]
theorem zrZ{n:Int}(h1:1<=n)(h7:n<=7):zc6 [.val (.int n)]=.ok (.non,[.val .non]):=by
 have e:zai zdR (dR (zab 0) dR0) [some (.val (.int n))]=.ok (.bl true,[some (.val (.int n))]):=zdy (Z':=[some (.val (.int n))]) rfl (zoA _);have a1:decide (n<1)=false:=by simp;lia
 have a2:decide (7<n)=false:=by simp;lia
 simp[zc6,za0,zfB,zdE,ztw,dIf,zhl,zdx,dTB,e,dOp,zab,dC,zrC,a1,a2,dNx,zaL]
theorem zra{neg:Bool}{i j:Int}:gEq neg (.int i) (.int j)=.ok (.bl (if neg then !(i == j) else (i == j))):=by rw[zbp rfl rfl,eqI]
theorem zsM{Z0:Ev}{o:Option B}{d:Dt}:zb0 Z0.length d (Z0++[o])=.ok (Z0++[some (.val d)]):=by unfold zb0;rw[if_pos xws];simp
theorem zkM:∀ a b:List Int,zgf (a.map .int) (b.map .int)=(a == b)
 |[],[]=>by rw[List.map_nil,zgf];rfl
 |[],b::r=>by rw[List.map_nil,List.map_cons,zgf];rfl;all_goals (intros;simp at *)
 |a::r,[]=>by rw[List.map_nil,List.map_cons,zgf];rfl;all_goals (intros;simp at *)
 |a::r,b::q=>by rw[List.map_cons,List.map_cons,zgf,eqI,zkM r q];rfl
theorem zog(l:List Int)(n:Nat):okN (n+1) (.lst (l.map .int))=true:=by simp[okN]
noncomputable def zaK(n:Nat):List Int:=(List.range n).map λ(k:Nat)=>(k:Int)
theorem zh3(n:Nat):zca 0 n=(zaK n).map .int:=by unfold zca zaK;rw[List.map_map];refine List.map_congr_left λk _=>?_;simp
theorem zgD(i:Int):∀ l:List Int,inD (.int i) (l.map .int)=decide (i∈l)
 |[]=>by simp[inD]
 |a::r=>by
  have:=zgD i r;unfold inD at this ⊢;rw[List.map_cons,List.any_cons,this,eqI];by_cases h:a=i
  ·subst h;simp
  ·have h':¬ i=a:=λz=>h z.symm;by_cases h2:i∈r <;> simp[h,h',h2]
theorem zfs:∀(a b:List Int),a.Nodup->(∀ x∈a,x∈b)->b.length<=a.length->a.Perm b
 |[],b,_,_,h=>by have:b=[]:=List.length_eq_zero_iff.mp (by simpa using h);subst this;exact .refl _
 |x::a,b,hn,hs,hl=>by rw[List.nodup_cons] at hn;have hx:x∈b:=hs x xws;have hp:=List.perm_cons_erase hx;have hlen:=hp.length_eq;simp only[wan] at hlen hl;have:=zfs a (b.erase x) hn.2 (λy hy=>(List.mem_erase_of_ne (λ(e:y=x)=>hn.1 (e ▸ hy))).mpr (hs y (by simp[hy]))) xwl;exact (this.cons x).trans hp.symm
theorem zbM{n:Nat}{x:Int}:x∈zaK n ↔ 0<=x/\x<n:=by
 unfold zaK;rw[List.mem_map];constructor
 ·rintro ⟨k,hk,rfl⟩;have:=List.mem_range.mp hk;lia
 ·rintro ⟨h0,h1⟩;exact ⟨x.toNat,List.mem_range.mpr xwl,xwl⟩
theorem zbk(n:Nat):(zaK n).length=n:=by unfold zaK;simp
theorem zoI(n:Nat):(zaK n).Pairwise (· <= ·):=by unfold zaK;rw[List.pairwise_map];refine List.Pairwise.imp (R:=λa b=>a<b) (λ{a b} h=>by lia) List.pairwise_lt_range
theorem zcI(n:Nat):(zaK n).Nodup:=by unfold zaK;unfold List.Nodup;rw[List.pairwise_map];refine List.Pairwise.imp (R:=λa b=>a<b) (λ{a b} h=>by lia) List.pairwise_lt_range
theorem zj9{n:Nat}{l:List Int}:zaR l=zaK n ↔ l.Nodup/\(∀ x∈l,0<=x/\x<n)/\l.length=n:=by
 constructor
 ·intro h;have hp:l.Perm (zaK n):=by rw[<- h];exact (zaI l).symm
  exact ⟨hp.nodup_iff.mpr (zcI n),λx hx=>zbM.mp (hp.mem_iff.mp hx),by rw[hp.length_eq,zbk]⟩
 ·rintro ⟨h1,h2,h3⟩;have hp:l.Perm (zaK n):=zfs _ _ h1 (λx hx=>zbM.mpr (h2 x hx)) (by rw[zbk];lia);exact W.lks_uniq ((zaI l).trans hp) (zcn l) (zoI n)
theorem zgA{α:Type}{l:List α}{v:Int}(h0:0<=v)(h1:v<l.length):atI l v=l[v.toNat]? := by unfold atI;rw[zkH h0 h1];rfl
theorem zuE{l:List Dt}{v:Int}{d:Dt}(h0:0<=v)(h1:v<l.length)(hd:l[v.toNat]? = some d):gIx (.tup l) (.int v)=.ok d:=by unfold gIx;simp only[zgA h0 h1,hd]
theorem zuI{l:List Dt}{v:Int}{d:Dt}(h0:0<=v)(h1:v<l.length)(hd:l[v.toNat]? = some d):gIx (.lst l) (.int v)=.ok d:=by unfold gIx;simp only[zgA h0 h1,hd]
theorem zlF{fa:De}{fr:DA}{Z Z1 Z2:Ev}{d:Dt}{ds:List Dt}(h1:fa Z=.ok (d,Z1))(h2:fr Z1=.ok (ds,Z2)):dA fa fr Z=.ok (d::ds,Z2):=by unfold dA;rw[h1];simp only[R.bind_ok];rw[h2];rfl
theorem zuA{f:DA}{Z Z1:Ev}{ds:List Dt}(h:f Z=.ok (ds,Z1))(hl:ds.length<=16777216):zc8 f Z=.ok (ds,Z1):=by unfold zc8;rw[h];simp only[R.bind_ok];rw[if_pos (by unfold zhg;simpa using hl)]
theorem zpz{f:DA}{Z Z1:Ev}{ds:List Dt}(h:f Z=.ok (ds,Z1))(hl:ds.length<=16777216):zdO f Z=.ok (.tup ds,Z1):=by unfold zdO;rw[h];simp only[R.bind_ok];rw[if_pos (by unfold zhg;simpa using hl)]
theorem zq7{ns:List Int}{k:Nat}:∃ c:Int,zc9 [.val (.scr ns),.val (.int k)]=.ok (.int c,[.val .non,.val .non]):=by
 have e0:dTB (dOp gLt (zab 1) (dFn zb5 (dA (zab 0) dA0))) [some (.val (.scr ns)),some (.val (.int k))]=.ok (decide ((k:Int)<ns.length),[some (.val (.scr ns)),some (.val (.int k))]):=za5 (zar (d:=.int k) (e:=.int ns.length) rfl rfl rfl);by_cases h:k<ns.length
 ·refine ⟨ns[k],zal (Z':=[some (.val (.scr ns)),some (.val (.int k))]) rfl ?_ rfl⟩;show zbV [some (.val (.scr ns)),some (.val (.int k))]=_;unfold zbV;refine zby ?_;rw[zdw (by rw[e0,decide_eq_true xwl])];refine zaY (zar (d:=.scr ns) (e:=.int k) rfl rfl ?_);unfold gIx;simp only[zgA (l:=ns) (v:=(k:Int)) xwl xwl,Int.toNat_natCast,wac h]
 ·refine ⟨0,zal (Z':=[some (.val (.scr ns)),some (.val (.int k))]) rfl ?_ rfl⟩;show zbV [some (.val (.scr ns)),some (.val (.int k))]=_;unfold zbV;rw[zag (Z1:=[some (.val (.scr ns)),some (.val (.int k))]) (by rw[zbN (by rw[e0,decide_eq_false xwl])];rfl)];rfl
theorem zoD{ns:List Int}{k:Nat}:∃ st,St st/\zcN [.val (.scr ns),.val (.int k)]=.ok (.lst st,[.val .non,.val .non]):=by
 obtain ⟨c,hc⟩:=zq7 (ns:=ns) (k:=k);have e1:zaX 2 (zai zc9 (dR (zab 0) (dR (zab 1) dR0))) [some (.val (.scr ns)),some (.val (.int k)),none]=.ok (.nx,[some (.val (.scr ns)),some (.val (.int k)),some (.val (.int c))]):=zaD (zcX (Z':=[some (.val (.scr ns)),some (.val (.int k)),none]) (Z'':=[some (.val (.scr ns)),some (.val (.int k)),none]) rfl rfl hc) xws;have ep:dOp zsg (dC (.int 10)) (dC (.int 18)) [some (.val (.scr ns)),some (.val (.int k)),some (.val (.int c))]=.ok (.int 1000000000000000000,[some (.val (.scr ns)),some (.val (.int k)),some (.val (.int c))]):=by refine zar rfl rfl ?_;show (if 0<=(18:Int)/\(18:Int)<=1000/\(10:Int).natAbs<18446744073709551616 then R.ok (Dt.int ((10:Int) ^ (18:Int).toNat)) else R.no)=_;rw[if_pos xwd];rfl
 have e2:dTB (dOp gGe (zab 2) (dOp zsg (dC (.int 10)) (dC (.int 18)))) [some (.val (.scr ns)),some (.val (.int k)),some (.val (.int c))]=.ok (decide ((1000000000000000000:Int)<=c),[some (.val (.scr ns)),some (.val (.int k)),some (.val (.int c))]):=za5 (zar (d:=.int c) rfl ep rfl);by_cases h:(1000000000000000000:Int)<=c
 ·refine ⟨[.int (c-1000000000000000000),.bl true],⟨_,_,rfl⟩,zal (Z':=[some (.val (.scr ns)),some (.val (.int k)),some (.val (.int c))]) rfl ?_ rfl⟩;show zcH [some (.val (.scr ns)),some (.val (.int k)),none]=_;unfold zcH;rw[zag e1];refine zby ?_;rw[zdw (by rw[e2,decide_eq_true h])];unfold zeP zc8;rw[dA,zar (d:=.int c) (z:=.int (c-1000000000000000000)) rfl ep rfl];rfl
 ·refine ⟨[.int (c % 2147483647),.bl false],⟨_,_,rfl⟩,zal (Z':=[some (.val (.scr ns)),some (.val (.int k)),some (.val (.int c))]) rfl ?_ rfl⟩;show zcH [some (.val (.scr ns)),some (.val (.int k)),none]=_;unfold zcH;rw[zag e1,zag (Z1:=[some (.val (.scr ns)),some (.val (.int k)),some (.val (.int c))]) (by rw[zbN (by rw[e2,decide_eq_false h])];rfl)];unfold zeP zc8;rw[dA,zar (d:=.int c) (z:=.int (c % 2147483647)) rfl rfl rfl];rfl
theorem zj7{F:FD}{fa fb:De}{Z Z' Z'':Ev}{d e:Dt}{y:List Dt}{l:List B}(h:fa Z=.ok (d,Z'))(h2:fb Z'=.ok (e,Z''))(hF:F [.val d,.val e]=.ok (.lst y,l)):zbm F (dR fa (dR fb dR0)) Z=.ok (y,Z''):=by unfold zbm dR dR0;rw[h];simp only[R.bind_ok,h2,zpc,zbB,if_true,zaE,hF];rw[zm1]
inductive Tr where
 |lf (i:Int)|nd (row:Bool) (l:List Tr)
noncomputable def wd(r:Bool):Str:=if r then Str.ofString "row" else Str.ofString "any"
mutual
noncomputable def toD:Tr->Dt
 |.lf i=>.int i
 |.nd r l=>.tup [.str (wd r),.tup (zjL l)]
noncomputable def zjL:List Tr->List Dt
 |[]=>[]
 |t::r=>toD t::zjL r
end
mutual
noncomputable def zad:Tr->List Int
 |.lf i=>[i]
 |.nd _ l=>zae l
noncomputable def zae:List Tr->List Int
 |[]=>[]
 |t::r=>zad t++zae r
end
mutual
noncomputable def dep:Tr->Nat
 |.lf _=>1
 |.nd _ l=>zcY l+1
noncomputable def zcY:List Tr->Nat
 |[]=>0
 |t::r=>max (dep t) (zcY r)
end
mutual
noncomputable def okT:Tr->Bool
 |.lf _=>true
 |.nd r l=>decide ((if r then 3 else 2)<=l.length) && zij l
noncomputable def zij:List Tr->Bool
 |[]=>true
 |t::r=>okT t && zij r
end
theorem zaU:∀ l:List Tr,zjL l=l.map toD
 |[]=>by simp[zjL]
 |t::r=>by simp[zjL,zaU r]
theorem zaH:∀ l:List Tr,zae l=l.flatMap zad
 |[]=>by simp[zae]
 |t::r=>by simp[zae,zaH r]
theorem zco:∀ l:List Tr,zij l=l.all okT
 |[]=>by simp[zij]
 |t::r=>by simp[zij,zco r]
theorem zaW{n:Nat}:∀{l:List Tr},zcY l<=n ↔ ∀ t∈l,dep t<=n
 |[]=>by simp[zcY]
 |t::r=>by have:=zaW (n:=n) (l:=r);simp only[zcY,wap,forall_eq_or_imp];rw[<- this];lia
theorem zbG:∀(n:Nat)(t:Tr),dep t<=n->okT t=true->zad t≠[]
 |n,.lf i,_,_=>by simp[zad]
 |0,.nd r l,h,_=>by simp[dep] at h
 |n+1,.nd r l,h,ho=>by
  simp only[dep,okT,wae,war] at h ho;cases l with
  |nil=>have:=ho.1;cases r <;> simp at this
  |cons t q =>
   simp only[zij,wae] at ho;have:=zbG n t (by simp only[zcY] at h;lia) ho.2.1;simp only[zad,zae];intro z;exact this (List.append_eq_nil_iff.mp z).1
theorem zjo{α:Type}{u:α->Dt}{f:α->List Dt}{fe:DN}{Z0:Ev}:∀{l:List α}{o:Option B},(∀ a∈l,fe (Z0++[some (.val (u a))])=.ok (f a,Z0++[some (.val (u a))]))->∃ o',zeG (zb0 Z0.length) dTT fe (l.map u) (Z0++[o])=.ok (l.map f,Z0++[o'])
 |[],o,_=>⟨o,rfl⟩
 |a::l,o,h=>by obtain ⟨o',e⟩:=zjo (l:=l) (o:=some (.val (u a))) λb hb=>h b (wah _ hb);refine ⟨o',?_⟩;rw[List.map_cons,zeG,zqH];simp only[R.bind_ok,dTT,if_true];rw[h a xws];simp only[R.bind_ok];rw[e];rfl
theorem zi4{g:Int}:∀{l:List (List Int)}{j:Nat}{p:List Int},l[j]? = some p->(l.set j (p++[g])).flatten.Perm (l.flatten++[g])
 |[],j,p,h=>by simp at h
 |a::l,0,p,h=>by simp at h;subst h;simp only[List.set_cons_zero,List.flatten_cons,List.append_assoc];exact List.Perm.append_left _ List.perm_append_comm
 |a::l,j+1,p,h=>by have:=zi4 (g:=g) (l:=l) (j:=j) (p:=p) (by simpa using h);simp only[List.set_cons_succ,List.flatten_cons,List.append_assoc];exact this.append_left a
noncomputable def lz(p:List Int):List Dt:=p.map .int
theorem zlK{g r b6:Option B}{m:Nat}:∀{gs:List Int}{pss:List (List Int)}{st:List Dt}{o:Option B},0<m->m<=100->pss.length=m->(∀ p∈pss,p≠[])->pss.flatten.length+gs.length<=1000->St st ->
  ∃(pss':List (List Int))(st':List Dt)(o':Option B),St st'/\pss'.length=m/\(∀ p∈pss',p≠[])/\pss'.flatten.Perm (pss.flatten++gs) /\
   zoP (zb0 5) (dEx (zl5 4 5 (zai zak (dRO 0 (dR (zab 3) dR0))))) (gs.map .int) [some (.own st),g,r,some (.val (.int m)),some (.own2 (pss.map lz)),o,b6]=.ok (.nx,[some (.own st'),g,r,some (.val (.int m)),some (.own2 (pss'.map lz)),o',b6])
 |[],pss,st,o,_,_,hl,hne,_,hs=>⟨pss,st,o,hs,hl,hne,xws,rfl⟩
 |x::gs,pss,st,o,m0,m1,hl,hne,hb,hs=>by
  obtain ⟨v,st1,e,hs1,v0,v1⟩:=zbX (m:=(m:Nat)) hs xwl xwl;have hj:v.toNat<pss.length:=by lia
  obtain ⟨p,hp⟩ : ∃ p,pss[v.toNat]? = some p:=⟨_,wac hj⟩
  have hfs:=zi4 (g:=x) hp;have hpl:p.length<=pss.flatten.length:=(List.sublist_flatten_of_mem (waH hp)).length_le;obtain ⟨pss',st',o',hs',hl',hne',hp',e'⟩:=zlK (g:=g) (r:=r) (b6:=b6) (m:=m) (gs:=gs) (pss:=pss.set v.toNat (p++[x])) (st:=st1) (o:=some (.val (.int x))) m0 m1 (by simpa using hl) (λq hq=>by
    rcases List.mem_or_eq_of_mem_set hq with z|z
    ·exact hne q z
    ·rw[z];simp) (by rw[hfs.length_eq];simp only[wav,wan,List.length_nil] at hb ⊢;lia) hs1
  refine ⟨pss',st',o',hs',hl',hne',?_,?_⟩
  ·refine hp'.trans ((hfs.append_right gs).trans ?_);simp
  ·rw[List.map_cons,zoP];show ((dEx (zl5 4 5 (zai zak (dRO 0 (dR (zab 3) dR0))))) [some (.own st),g,r,some (.val (.int m)),some (.own2 (pss.map lz)),some (.val (.int x)),b6]).bind _=_;have ec:=zg7 (F:=zak) (fb:=zab 3) (i:=0) (Z:=[some (.own st),g,r,some (.val (.int m)),some (.own2 (pss.map lz)),some (.val (.int x)),b6]) rfl rfl e;have eB:dEx (zl5 4 5 (zai zak (dRO 0 (dR (zab 3) dR0)))) [some (.own st),g,r,some (.val (.int m)),some (.own2 (pss.map lz)),some (.val (.int x)),b6]=.ok (.nx,[some (.own st1),g,r,some (.val (.int m)),some (.own2 ((pss.set v.toNat (p++[x])).map lz)),some (.val (.int x)),b6]):=by
    refine zhb (d:=.non) ?_;have hx:(pss.map lz)[v.toNat]? = some (lz p):=by rw[List.getElem?_map,hp];rfl
    have hix:ixN (pss.map lz).length v=some v.toNat:=zkH v0 (by rw[List.length_map];lia);unfold zl5;simp only[List.getElem?_cons_succ,List.getElem?_cons_zero,ec,R.bind_ok,List.set_cons_zero,hix,hx];rw[if_pos (by unfold lz;rw[List.length_map];simp only[wan] at hb;lia)];simp only[List.set_cons_succ,List.set_cons_zero];rw[List.map_set];unfold lz;simp
   rw[eB];simp only[R.bind_ok];exact e'
theorem zwM{m:Nat}{pss:List (List Int)}(hl:pss.length=m)(h2:2<=m)(hne:∀ p∈pss,p≠[]):∀ p∈pss,p.length<pss.flatten.length:=by
 intro p hp;obtain ⟨a,b,rfl⟩:=List.append_of_mem hp;have:0<a.flatten.length+b.flatten.length:=by
  cases a with
  |cons q a =>
   have:=List.length_pos_iff.mpr (hne q xws);simp only[List.flatten_cons,wav];lia
  |nil =>
   cases b with
   |cons q b =>
    have:=List.length_pos_iff.mpr (hne q xws);simp only[List.flatten_cons,wav];lia
   |nil=>simp at hl;lia
 simp only[List.flatten_append,List.flatten_cons,wav];lia
noncomputable def zxG(p:List Int)(t:Tr):Prop:=okT t=true/\(zad t).Perm p/\dep t<=p.length
theorem zmk{k:Nat}:∀{pss:List (List Int)}{ts:List Tr},Paired zxG pss ts->(∀ p∈pss,p.length<=k)->zij ts=true/\(zae ts).Perm pss.flatten/\zcY ts<=k/\ts.length=pss.length
 |_,_,.nil,_=>by simp[zij,zae,zcY]
 |p::pss,t::ts,.cons h r,hk=>by obtain ⟨a1,a2,a3,a4⟩:=zmk (k:=k) r λq hq=>hk q (wah _ hq);have:=hk p xws;obtain ⟨b1,b2,b3⟩:=h;simp only[zij,zae,zcY,List.flatten_cons,wan];exact ⟨by rw[b1,a1];rfl,b2.append a2,xwl,xwl⟩
theorem zlQ:∀(n:Nat)(gs:List Int)(st:List Dt),gs.length<=n->n<=8->1<=gs.length->gs.length<=7->St st->∃ t st',St st'/\zxG gs t/\zaZ n [.own st,.val (.lst (gs.map .int))]=.ok (toD t,[.own st',.val .non])
 |0,gs,st,h,_,h1,_,_=>by lia
 |n+1,gs,st,h,h8,h1,h7,hs=>by
  by_cases hone:gs.length=1
  ·obtain ⟨g,rfl⟩:=List.length_eq_one_iff.mp hone;refine ⟨.lf g,st,hs,⟨rfl,.refl _,by simp[dep]⟩,zal (Z':=[some (.own st),some (.val (.lst [.int g])),none,none,none,none,none]) rfl ?_ rfl⟩;rw[toD];show zcw (zaZ n) [some (.own st),some (.val (.lst [.int g])),none,none,none,none,none]=_;unfold zcw;refine zby ?_;rw[zdw (Z1:=[some (.own st),some (.val (.lst [.int g])),none,none,none,none,none]) (za5 (zar (d:=.int 1) (e:=.int 1) rfl rfl (by rw[zbp rfl rfl,eqI];rfl)))];rfl
  ·
   obtain ⟨st1,p,hs1,hp,e1⟩:=zph (l:=gs.map .int) hs (by rw[List.length_map];lia) (λd hd=>by obtain ⟨i,_,rfl⟩:=List.mem_map.mp hd;rfl);obtain ⟨q,hq,rfl⟩:=zmm hp;have hql:=hq.length_eq;obtain ⟨v,st2,e2,hs2,v0,v1⟩:=zbX (m:=(q.length:Int)-1) hs1 xwl xwl;obtain ⟨m,hm⟩ : ∃ m:Nat,(m:Int)=2+v:=⟨(2+v).toNat,xwl⟩
   have m2:2<=m:=by lia
   have mq:m<=q.length:=by lia
   have cut1:ziE (q.map Dt.int) none (some (m:Int))=(q.take m).map .int:=by unfold ziE;rw[HT.sIx_nat];simp only[HT.sIx_none,List.drop_zero,Nat.sub_zero,wag];rw[Nat.min_eq_left mq,List.map_take]
   have cut2:ziE (q.map Dt.int) (some (m:Int)) none=(q.drop m).map .int:=by unfold ziE;rw[HT.sIx_nat];simp only[HT.sIx_none,wag];rw[Nat.min_eq_left mq,List.map_drop,List.take_of_length_le xws]
   let G:Option B:=some (.val (.lst (gs.map .int)));let Rw:Option B:=some (.val (.lst (q.map .int)));let Mn:Option B:=some (.val (.int m));have x1:zaX 2 (zai zcd (dRO 0 (dR (zab 1) dR0))) [some (.own st),G,none,none,none,none,none]=.ok (.nx,[some (.own st1),G,Rw,none,none,none,none]) :=
    zaD (zg7 (Z:=[some (.own st),G,none,none,none,none,none]) rfl rfl e1) xws
   have x2:zaX 3 (dOp zdu (dC (.int 2)) (zai zak (dRO 0 (dR (dOp zjG (dFn zb5 (dA (zab 2) dA0)) (dC (.int 1))) dR0)))) [some (.own st1),G,Rw,none,none,none,none]=.ok (.nx,[some (.own st2),G,Rw,Mn,none,none,none]):=by
    have ea:dOp zjG (dFn zb5 (dA (zab 2) dA0)) (dC (.int 1)) [some (.own st1),G,Rw,none,none,none,none]=.ok (.int ((q.length:Int)-1),[some (.own st1),G,Rw,none,none,none,none]):=by refine zar (d:=.int (q.map Dt.int).length) rfl rfl ?_;rw[List.length_map];rfl
    refine zaD (zar rfl (zg7 (Z:=[some (.own st1),G,Rw,none,none,none,none]) rfl ea e2) (z:=.int m) ?_) xws;rw[hm];rfl
   obtain ⟨o7,c1⟩:=zjo (Z0:=[some (.own st2),G,Rw,Mn,none,none,none]) (u:=Dt.int) (f:=λg=>[.int g]) (fe:=zc8 (dA (zab 7) dA0)) (l:=q.take m) (o:=none) λg _=>rfl;have hpm:(q.take m).map (λg=>[Dt.int g])=((q.take m).map λg=>[g]).map lz:=by rw[List.map_map];rfl
   have x3:znY 4 (dIt (dFz (zlM (zab 2) dO0 (dO1 (zab 3))))) (zb0 7) dTT (zc8 (dA (zab 7) dA0)) 1 [some (.own st2),G,Rw,Mn,none,none,none]=.ok (.nx,[some (.own st2),G,Rw,Mn,some (.own2 (((q.take m).map λg=>[g]).map lz)),none,none]):=by
    have ei:dIt (dFz (zlM (zab 2) dO0 (dO1 (zab 3)))) [some (.own st2),G,Rw,Mn,none,none,none]=.ok ((q.take m).map .int,[some (.own st2),G,Rw,Mn,none,none,none]):=by show R.ok (ziE (q.map Dt.int) none (some (m:Int)),_)=_;rw[cut1]
    unfold znY;rw[ei];simp only[R.bind_ok];rw[if_pos (by unfold zhg;simp only[List.length_map,List.length_take,decide_eq_true_eq];lia)];show (match zeG (zb0 7) dTT (zc8 (dA (zab 7) dA0)) ((q.take m).map .int) ([some (.own st2),G,Rw,Mn,none,none,none]++[none]) with|.ok z=>if 4<7 then R.ok (Fl.nx,(z.2.take 7).set 4 (some (.own2 z.1))) else .no|_=>.no)=_;have c1':zeG (zb0 7) dTT (zc8 (dA (zab 7) dA0)) ((q.take m).map .int) ([some (.own st2),G,Rw,Mn,none,none,none]++[none])=.ok ((q.take m).map (λg=>[Dt.int g]),[some (.own st2),G,Rw,Mn,none,none,none]++[o7]):=c1;rw[c1',hpm];rfl
   have hfl:((q.take m).map λg=>[g]).flatten=q.take m:=by
    induction q.take m with
    |nil=>rfl
    |cons a r ih=>simp[ih]
   obtain ⟨pss,st3,o5,hs3,hl3,hne3,hp3,e3⟩:=zlK (g:=G) (r:=Rw) (b6:=none) (m:=m) (gs:=q.drop m) (pss:=(q.take m).map λg=>[g]) (st:=st2) (o:=none) xwl xwl (by rw[List.length_map,List.length_take];lia) (λp hp=>by obtain ⟨g,_,rfl⟩:=List.mem_map.mp hp;simp) (by rw[hfl,List.length_take,List.length_drop];lia) hs2;have hflp:pss.flatten.Perm gs:=by refine hp3.trans ?_;rw[hfl,List.take_append_drop];exact hq
   have x4:ziF (dIt (dFz (zlM (zab 2) (dO1 (zab 3)) dO0))) (zb0 5) (dEx (zl5 4 5 (zai zak (dRO 0 (dR (zab 3) dR0))))) [some (.own st2),G,Rw,Mn,some (.own2 (((q.take m).map λg=>[g]).map lz)),none,none]=.ok (.nx,[some (.own st3),G,Rw,Mn,some (.own2 (pss.map lz)),o5,none]):=by
    have ei:dIt (dFz (zlM (zab 2) (dO1 (zab 3)) dO0)) [some (.own st2),G,Rw,Mn,some (.own2 (((q.take m).map λg=>[g]).map lz)),none,none]=.ok ((q.drop m).map .int,[some (.own st2),G,Rw,Mn,some (.own2 (((q.take m).map λg=>[g]).map lz)),none,none]):=by show R.ok (ziE (q.map Dt.int) (some (m:Int)) none,_)=_;rw[cut2]
    unfold ziF;rw[ei];exact e3
   have hlt:=zwM hl3 m2 hne3;have hfll:=hflp.length_eq;let Fz:Option B:=some (.val (.lst ((pss.map lz).map .lst)));obtain ⟨ts,st4,hs4,hp4,e4⟩:=zsA (Rl:=zxG) (u:=λp=>.lst (lz p)) (v:=toD) (zbz:=[G,Rw,Mn,Fz,o5,none]) (fi:=dIt (zgC 4)) (fe:=zai (zaZ n) (dRO 0 (dR (zab 7) dR0))) (l:=pss) (ds:=(pss.map lz).map .lst) (j:=7) (Z:=[some (.own st3),G,Rw,Mn,some (.own2 (pss.map lz)),o5,none]) (st:=st3) rfl (by rw[List.map_map];rfl) xwl rfl
    (λp hp st' hs'=>by have:=hlt p hp;have hpos:=List.length_pos_iff.mpr (hne3 p hp);obtain ⟨t,st5,h5,h6,h7'⟩:=zlQ n p st' xwl xwl xwl xwl hs';exact ⟨t,st5,h5,h6,zg7 (Z:=some (.own st')::([G,Rw,Mn,Fz,o5,none]++[some (.val (.lst (lz p)))])) rfl rfl h7'⟩) hs3
   obtain ⟨k1,k2,k3,k4⟩:=zmk (k:=gs.length-1) hp4 λp hp=>by have:=hlt p hp;lia
   have x5:zaX 6 (dFn zbW (dA (dFz (zbl (dIt (zgC 4)) (zb0 7) dTT (zai (zaZ n) (dRO 0 (dR (zab 7) dR0))) 1)) dA0)) [some (.own st3),G,Rw,Mn,some (.own2 (pss.map lz)),o5,none]=.ok (.nx,[some (.own st4),G,Rw,Mn,Fz,o5,some (.val (.tup (ts.map toD)))]):=zaD (zbH (zaN e4) rfl) xws;have pre:∀ X,zcw (zaZ n) [some (.own st),G,none,none,none,none,none]=X ↔ za2 (dIf (zke (dTB (dOp gGt (zab 3) (dC (.int 2)))) (dTB (dOp (gEq false) (zai zak (dRO 0 (dR (dC (.int 2)) dR0))) (dC (.int 1))))) (zbd (zdO (dA (dC (.str (Str.ofString "row"))) (dA (zab 6) dA0)))) dNx) (zbd (zdO (dA (dC (.str (Str.ofString "any"))) (dA (zab 6) dA0)))) [some (.own st4),G,Rw,Mn,Fz,o5,some (.val (.tup (ts.map toD)))]=X:=λX=>by
    unfold zcw;have x0:dTB (dOp (gEq false) (dFn zb5 (dA (zab 1) dA0)) (dC (.int 1))) [some (.own st),G,none,none,none,none,none]=.ok (false,[some (.own st),G,none,none,none,none,none]):=by
     refine za5 (zar (d:=.int (gs.map Dt.int).length) rfl rfl ?_);rw[zbp rfl rfl,eqI,List.length_map];have:((gs.length:Int) == 1)=false:=by simp;lia
     rw[this];rfl
    rw[zag (Z1:=[some (.own st),G,none,none,none,none,none]) (by rw[zbN x0];rfl),zag x1,zag x2,zag x3,zag x4,zag x5]
   have fin:∀(r:Bool)(st5:List Dt),(r=true->3<=m)->St st5->zcw (zaZ n) [some (.own st),G,none,none,none,none,none]=.ok (.rt (toD (.nd r ts)),[some (.own st5),G,Rw,Mn,Fz,o5,some (.val (.tup (ts.map toD)))])->∃ t st',St st'/\zxG gs t/\zaZ (n+1) [.own st,.val (.lst (gs.map .int))]=.ok (toD t,[.own st',.val .non]):=λr st5 hr hs5 hd=>by
    refine ⟨.nd r ts,st5,hs5,⟨?_,k2.trans hflp,?_⟩,zal (Z':=[some (.own st5),G,Rw,Mn,Fz,o5,some (.val (.tup (ts.map toD)))]) rfl hd rfl⟩
    ·simp only[okT,k1,Bool.and_true,war,k4,hl3];cases r with
     |false=>simpa using m2
     |true=>simpa using hr rfl
    ·simp only[dep];lia
   have hD:∀ r,toD (.nd r ts)=.tup [.str (wd r),.tup (ts.map toD)]:=λr=>by rw[toD,zaU]
   by_cases h3:2<m
   ·have y1:dTB (dOp gGt (zab 3) (dC (.int 2))) [some (.own st4),G,Rw,Mn,Fz,o5,some (.val (.tup (ts.map toD)))]=.ok (true,[some (.own st4),G,Rw,Mn,Fz,o5,some (.val (.tup (ts.map toD)))]):=by refine za5 (zar (d:=.int m) rfl rfl ?_);simp only[zrC];rw[decide_eq_true (by lia:(2:Int)<m)]
    obtain ⟨u,st5,e5,hs5,u0,u1⟩:=zbX (m:=2) hs4 xwd xwd;have ec:=zg7 (F:=zak) (fb:=dC (.int 2)) (i:=0) (Z:=[some (.own st4),G,Rw,Mn,Fz,o5,some (.val (.tup (ts.map toD)))]) rfl rfl e5;have y2:dTB (dOp (gEq false) (zai zak (dRO 0 (dR (dC (.int 2)) dR0))) (dC (.int 1))) [some (.own st4),G,Rw,Mn,Fz,o5,some (.val (.tup (ts.map toD)))]=.ok (u == 1,[some (.own st5),G,Rw,Mn,Fz,o5,some (.val (.tup (ts.map toD)))]):=za5 (zar ec rfl (by rw[zbp rfl rfl,eqI];rfl));by_cases hu:u=1
    ·refine fin true st5 (λ_=>by lia) hs5 ((pre _).mpr (zby ?_));rw[zdw (by rw[zmx y1,y2,hu];rfl),hD];rfl
    ·have hu':(u == 1)=false:=by simpa using hu
     refine fin false st5 (λz=>by cases z) hs5 ((pre _).mpr ?_);rw[zag (Z1:=[some (.own st5),G,Rw,Mn,Fz,o5,some (.val (.tup (ts.map toD)))]) (by rw[zbN (by rw[zmx y1,y2,hu'])];rfl),hD];rfl
   ·have y1:dTB (dOp gGt (zab 3) (dC (.int 2))) [some (.own st4),G,Rw,Mn,Fz,o5,some (.val (.tup (ts.map toD)))]=.ok (false,[some (.own st4),G,Rw,Mn,Fz,o5,some (.val (.tup (ts.map toD)))]):=by refine za5 (zar (d:=.int m) rfl rfl ?_);simp only[zrC];rw[decide_eq_false (by lia:¬ (2:Int)<m)]
    refine fin false st4 (λz=>by cases z) hs4 ((pre _).mpr ?_);rw[zag (Z1:=[some (.own st4),G,Rw,Mn,Fz,o5,some (.val (.tup (ts.map toD)))]) (by rw[zbN (by rw[zrA y1])];rfl),hD];rfl
noncomputable def tz(p:List Int):Dt:=.tup (p.map .int)
noncomputable def lp(ps:List (List Int)):List Dt:=ps.map tz
theorem zeu(r:Bool):PySem.PyData.strOk (wd r)=true:=by cases r <;> decide +kernel
theorem zqe:∀(n:Nat)(t:Tr),dep t<=n->okN (2 * n) (toD t)=true
 |n,.lf i,_=>by simp[toD,okN]
 |0,.nd r l,h=>by simp[dep] at h
 |n+1,.nd r l,h=>by
  simp only[dep] at h;have e:2 * (n+1)=(2 * n+1)+1:=by omega
  rw[e,toD];have h2:okN (2 * n+1) (.tup (zjL l))=true:=by simp only[okN,zaU,List.all_eq_true,List.mem_map];rintro d ⟨t,ht,rfl⟩;exact zqe n t (zaW.mp (by omega:zcY l<=n) t ht)
  have h1:okN (2 * n+1) (.str (wd r))=true:=by rw[okN];exact zeu r
  rw[okN];simp only[List.all_cons,List.all_nil,h1,h2,Bool.and_self]
theorem zxA{t:Tr}(h:dep t<=9):okN 59 (toD t)=true:=zlz (zqe 9 t h) xwd
noncomputable def zxZ:Tr->Bool
 |.lf _=>true
 |.nd _ _=>false
theorem zlP(t:Tr):zcM [.val (toD t)]=.ok (.bl (zxZ t),[.val .non]):=by
 cases t with
 |lf i=>rw[toD];rfl
 |nd r l=>rw[toD];rfl
theorem zcz:∀{l:List Tr}{t:Tr},t∈l->(zad t).length<=(zae l).length
 |[],_,h=>by cases h
 |u::l,t,h=>by
  simp only[zae,wav];rcases wap.mp h with rfl|h
  ·omega
  ·have:=zcz h;omega
theorem eqS{x y:Str}:eqD (.str x) (.str y)=(x == y):=by rw[eqD]
theorem zto(r:Bool):(wd r == Str.ofString "any") = !r:=by cases r <;> decide +kernel
theorem ztL(r:Bool):(wd r == Str.ofString "row")=r:=by cases r <;> decide +kernel
theorem zi0:PySem.PyData.strOk (Str.ofString "any")=true:=by decide +kernel
theorem zi7:PySem.PyData.strOk (Str.ofString "row")=true:=by decide +kernel
noncomputable def tdN:Nat->Dt->Bool
 |_,.int _=>true
 |_,.str x=>PySem.PyData.strOk x
 |n+1,.tup l=>decide (l.length<=1000) && l.all (tdN n)
 |_,_=>false
theorem zmN{n:Nat}:∀(l:List Tr),zcY l<=n->zij l=true->l.length<=(zae l).length
 |[],_,_=>by simp
 |t::q,hd,ho=>by simp only[zcY] at hd;simp only[zij,wae] at ho;have h1:=List.length_pos_iff.mpr (zbG n t xwo ho.1);have h2:=zmN (n:=n) q xwo ho.2;simp only[zae,wav,wan];omega
theorem zpP:∀(n:Nat)(t:Tr),dep t<=n->okT t=true->(zad t).length<64->tdN (2 * n) (toD t)=true
 |n,.lf i,_,_,_=>by rw[toD];cases n <;> rfl
 |0,.nd r l,h,_,_=>by simp[dep] at h
 |n+1,.nd r l,h,ho,hl=>by
  simp only[dep] at h;simp only[okT,wae] at ho;simp only[zad] at hl;have e:2 * (n+1)=(2 * n+1)+1:=by omega
  rw[e,toD];have hk:=zmN (n:=n) l xwo ho.2;have ho2:=ho.2;rw[zco,List.all_eq_true] at ho2;have h2:tdN (2 * n+1) (.tup (zjL l))=true:=by rw[tdN,zaU,Bool.and_eq_true,List.all_eq_true];refine ⟨by simp only[wag,war];omega,λd hd=>?_⟩;obtain ⟨t,ht,rfl⟩:=List.mem_map.mp hd;exact zpP n t (zaW.mp (by omega:zcY l<=n) t ht) (ho2 t ht) (by have:=zcz ht;omega)
  have h1:tdN (2 * n+1) (.str (wd r))=true:=zeu r;rw[tdN];simp only[List.all_cons,List.all_nil,h1,h2,Bool.and_self,wan,List.length_nil];rfl
theorem okB{b:Bool}:okN 60 (.bl b)=true:=rfl
theorem eqB{a b:Bool}:eqD (.bl a) (.bl b)=(a == b):=by rw[eqD]
theorem zoi{f:Dt->Dt}{fe:De}{a b:Option B}:∀{l:List Dt}{o o2:Option B},(∀ d∈l,fe [a,b,some (.val d),some (.val d)]=.ok (f d,[a,b,some (.val d),some (.val d)]))->∃ o' o2',zbS (zhD 2 3) dTT fe (l.map λd=>.tup [d,d]) [a,b,o,o2]=.ok (l.map f,[a,b,o',o2'])
 |[],o,o2,_=>⟨o,o2,rfl⟩
 |d::l,o,o2,h=>by obtain ⟨o',o2',e⟩:=zoi (l:=l) (o:=some (.val d)) (o2:=some (.val d)) λc hc=>h c (wah _ hc);refine ⟨o',o2',?_⟩;rw[List.map_cons,zbS];show (((fe [a,b,some (.val d),some (.val d)]).bind λy=>(zbS (zhD 2 3) dTT fe (l.map λd=>.tup [d,d]) y.2).bind λz=>R.ok (y.1::z.1,z.2)):R _)=_;rw[h d xws];simp only[R.bind_ok];rw[e];rfl
theorem zjk:∀(l:List Dt),zg1 (l.map λ_=>Dt.bl true)=some (l.map λ_=>true)
 |[]=>rfl
 |d::l=>by simp[zg1,zjk l]
theorem zhQ{F:FD}{d:Dt}(h1:(zmp (tyD d) "tuple" || zmp (tyD d) "list")=false)(h2:okN 60 d=true)(h3:eqD d d=true):zdt F [some (.val d),some (.val d)]=.ok (.rt (.bl true),[some (.val d),some (.val d)]):=by
 unfold zdt;have e0:dTB (zuO "tuple" "list" (zab 1)) [some (.val d),some (.val d)]=.ok (false,[some (.val d),some (.val d)]):=by show R.ok ((zmp (tyD d) "tuple" || zmp (tyD d) "list"),[some (B.val d),some (.val d)])=_;rw[h1]
 rw[zag (Z1:=[some (.val d),some (.val d)]) (by rw[zbN e0];rfl)];refine zaY ?_;have e1:dOp (gEq false) (zab 0) (zab 1) [some (.val d),some (.val d)]=.ok (.bl true,[some (.val d),some (.val d)]):=zar rfl rfl (by rw[zbp h2 h2,h3];rfl);have e2:dOp (gEq false) (zfw "bool" (zab 0)) (zfw "bool" (zab 1)) [some (.val d),some (.val d)]=.ok (.bl true,[some (.val d),some (.val d)]):=zar rfl rfl (by rw[zbp okB okB,eqB];simp)
 unfold zrU;rw[e1];simp only[R.bind_ok];rw[e2]
theorem zrI{n:Nat}{l:List Dt}(hl:l.length<=1000)(hs:∀ d∈l,zaS (n+1) [.val d,.val d]=.ok (.bl true,[.val .non,.val .non])):zaS (n+2) [.val (.tup l),.val (.tup l)]=.ok (.bl true,[.val .non,.val .non]):=by
  refine zal (Z':=[some (.val (.tup l)),some (.val (.tup l))]) rfl ?_ rfl;show zdt (zaS (n+1)) [some (.val (.tup l)),some (.val (.tup l))]=_;unfold zdt;refine zby ?_;rw[zdw (Z1:=[some (.val (.tup l)),some (.val (.tup l))]) rfl];have t1:dTB (dOp (gEq true) (zfw "tuple" (zab 0)) (zfw "tuple" (zab 1))) [some (.val (.tup l)),some (.val (.tup l))]=.ok (false,[some (.val (.tup l)),some (.val (.tup l))]):=za5 (zar rfl rfl (by rw[zbp okB okB,eqB];simp));have t2:dTB (dOp (gEq true) (zfw "list" (zab 0)) (zfw "list" (zab 1))) [some (.val (.tup l)),some (.val (.tup l))]=.ok (false,[some (.val (.tup l)),some (.val (.tup l))]):=za5 (zar rfl rfl (by rw[zbp okB okB,eqB];simp));have t3:dTB (dOp (gEq true) (dFn zb5 (dA (zab 0) dA0)) (dFn zb5 (dA (zab 1) dA0))) [some (.val (.tup l)),some (.val (.tup l))]=.ok (false,[some (.val (.tup l)),some (.val (.tup l))]):=za5 (zar (d:=.int l.length) (e:=.int l.length) rfl rfl (by rw[zbp rfl rfl,eqI];simp));rw[zag (Z1:=[some (.val (.tup l)),some (.val (.tup l))]) (by rw[zbN (Z1:=[some (.val (.tup l)),some (.val (.tup l))]) (by rw[zjv t1,t2])];rfl)];rw[zag (Z1:=[some (.val (.tup l)),some (.val (.tup l))]) (by rw[zbN t3];rfl)];refine zaY ?_;obtain ⟨o',o2',e⟩:=zoi (a:=some (.val (.tup l))) (b:=some (.val (.tup l))) (fe:=zai (zaS (n+1)) (dR (zab 2) (dR (zab 3) dR0))) (f:=λ_=>.bl true) (l:=l) (o:=none) (o2:=none) λd hd =>
   zcX (Z':=[some (.val (.tup l)),some (.val (.tup l)),some (.val d),some (.val d)]) rfl rfl (hs d hd)
  have ez:∀(l:List Dt),(l.zip l).map (λz=>Dt.tup [z.1,z.2])=l.map λd=>.tup [d,d]:=λl=>by
   induction l with
   |nil=>rfl
   |cons d l ih=>simp[ih]
  have ec:dFz (zbl (zqk (zab 0) (zab 1)) (zhD 2 3) dTT (zai (zaS (n+1)) (dR (zab 2) (dR (zab 3) dR0))) 2) [some (.val (.tup l)),some (.val (.tup l))]=.ok (.lst (l.map λ_=>.bl true),[some (.val (.tup l)),some (.val (.tup l))]):=by
   refine zaN ?_;have eZ:zqk (zab 0) (zab 1) [some (.val (.tup l)),some (.val (.tup l))]=.ok (l.map λd=>.tup [d,d],[some (.val (.tup l)),some (.val (.tup l))]):=by show (if l.length=l.length then R.ok ((l.zip l).map (λz=>Dt.tup [z.1,z.2]),[some (B.val (.tup l)),some (.val (.tup l))]) else .no)=_;rw[if_pos rfl,ez]
   unfold zbl;rw[eZ];simp only[R.bind_ok];rw[if_pos (by unfold zhg;simp only[List.length_map,decide_eq_true_eq];omega)];show (match zbS (zhD 2 3) dTT (zai (zaS (n+1)) (dR (zab 2) (dR (zab 3) dR0))) (l.map λd=>.tup [d,d]) [some (.val (.tup l)),some (.val (.tup l)),none,none] with|.ok z=>R.ok (z.1,z.2.take 2)|_=>.no)=_;rw[e];rfl
  refine zbH ec ?_;unfold zuc;simp only[zjk];simp
theorem zlc:∀(n:Nat)(d:Dt),tdN n d=true->okN 60 d=true->zaS (n+1) [.val d,.val d]=.ok (.bl true,[.val .non,.val .non])
 |n,.int i,ht,ho=>zal rfl (zhQ rfl ho (by rw[eqI];simp)) rfl
 |n,.str x,ht,ho=>zal rfl (zhQ rfl ho (by rw[eqS];simp)) rfl
 |0,.tup l,ht,ho=>by simp[tdN] at ht
 |n+1,.tup l,ht,ho=>by
  rw[tdN,Bool.and_eq_true,List.all_eq_true,decide_eq_true_eq] at ht;exact zrI ht.1 λd hd=>zlc n d (ht.2 d hd) (by rw[okN,List.all_eq_true] at ho;exact zgp _ _ (ho d hd))
 |n,.non,ht,ho=>by cases n <;> simp[tdN] at ht
 |n,.bl _,ht,ho=>by cases n <;> simp[tdN] at ht
 |n,.lst _,ht,ho=>by cases n <;> simp[tdN] at ht
 |n,.dct _,ht,ho=>by cases n <;> simp[tdN] at ht
 |n,.scr _,ht,ho=>by cases n <;> simp[tdN] at ht
theorem zon:∀(n:Nat)(d:Dt),tdN n d=true->tdN (n+1) d=true
 |n,.int _,_=>rfl
 |n,.str x,h=>by cases n <;> simpa [tdN] using h
 |0,.tup l,h=>by simp[tdN] at h
 |n+1,.tup l,h=>by rw[tdN,Bool.and_eq_true,List.all_eq_true] at h ⊢;exact ⟨h.1,λd hd=>zon n d (h.2 d hd)⟩
 |n,.non,h=>by cases n <;> simp[tdN] at h
 |n,.bl _,h=>by cases n <;> simp[tdN] at h
 |n,.lst _,h=>by cases n <;> simp[tdN] at h
 |n,.dct _,h=>by cases n <;> simp[tdN] at h
 |n,.scr _,h=>by cases n <;> simp[tdN] at h
theorem zpZ{t:Tr}(h:dep t<=7)(ho:okT t=true)(hl:(zad t).length<64):zaS 16 [.val (toD t),.val (toD t)]=.ok (.bl true,[.val .non,.val .non]) :=
 zlc 15 _ (zon _ _ (zpP 7 t h ho hl)) (zgp _ _ (zxA xwo))
theorem zhJ{F:FD}{x:Option B}:∀{l:List Tr}{acc:List Int}{o:Option B},(∀ t∈l,F [.val (toD t)]=.ok (.lst ((zad t).map .int),[.val .non]))->acc.length+(zae l).length<=1000 ->
  ∃ o',zoP (zb0 2) (zaX 1 (dFz (zj1 (zab 1) (zai F (dR (zab 2) dR0))))) (zjL l) [x,some (.val (.lst (acc.map .int))),o]=.ok (.nx,[x,some (.val (.lst ((acc++zae l).map .int))),o'])
 |[],acc,o,_,_=>⟨o,by simp[zjL,zoP,zae]⟩
 |t::l,acc,o,h,hl=>by
  simp only[zae,wav] at hl;obtain ⟨o',e⟩:=zhJ (F:=F) (x:=x) (l:=l) (acc:=acc++zad t) (o:=some (.val (toD t))) (λu hu=>h u (wah _ hu)) (by simp only[wav];omega);refine ⟨o',?_⟩;rw[zjL,zoP];show ((zaX 1 (dFz (zj1 (zab 1) (zai F (dR (zab 2) dR0))))) [x,some (.val (.lst (acc.map .int))),some (.val (toD t))]).bind _=_;have e1:zaX 1 (dFz (zj1 (zab 1) (zai F (dR (zab 2) dR0)))) [x,some (.val (.lst (acc.map .int))),some (.val (toD t))]=.ok (.nx,[x,some (.val (.lst ((acc++zad t).map .int))),some (.val (toD t))]):=by
   have ec:=zdy (F:=F) (fa:=zab 2) (Z:=[x,some (.val (.lst (acc.map .int))),some (.val (toD t))]) (Z':=[x,some (.val (.lst (acc.map .int))),some (.val (toD t))]) rfl (h t xws);have e2:zj1 (zab 1) (zai F (dR (zab 2) dR0)) [x,some (.val (.lst (acc.map .int))),some (.val (toD t))]=.ok ((acc++zad t).map .int,[x,some (.val (.lst (acc.map .int))),some (.val (toD t))]):=by have ev:zab 1 [x,some (.val (.lst (acc.map .int))),some (.val (toD t))]=.ok (.lst (acc.map .int),[x,some (.val (.lst (acc.map .int))),some (.val (toD t))]):=rfl;unfold zj1;rw[ev];simp only[R.bind_ok];rw[ec];simp only[R.bind_ok];rw[if_pos (by simp only[List.length_map];omega),List.map_append]
   exact zaD (zaN e2) xws
  rw[e1];simp only[R.bind_ok];rw[e,zae,List.append_assoc]
theorem zel:∀(n:Nat)(t:Tr),dep t<=n->(zad t).length<=1000->za8 n [.val (toD t)]=.ok (.lst ((zad t).map .int),[.val .non])
 |0,t,h,_=>by cases t <;> simp[dep] at h
 |n+1,.lf i,h,hl=>by refine zal (Z':=[some (.val (.int i)),none,none]) rfl ?_ rfl;rw[toD,zad];rfl
 |n+1,.nd r l,h,hl=>by
  simp only[dep] at h;simp only[zad] at hl ⊢;obtain ⟨o',e⟩:=zhJ (F:=za8 n) (x:=some (.val (toD (.nd r l)))) (l:=l) (acc:=[]) (o:=none) (λt ht=>zel n t (zaW.mp (by omega:zcY l<=n) t ht) (by have:=zcz ht;omega)) (by simp;omega);have hD:toD (.nd r l)=.tup [.str (wd r),.tup (zjL l)]:=by rw[toD]
  refine zal (Z':=[some (.val (toD (.nd r l))),some (.val (.lst ((zae l).map .int))),o']) rfl ?_ rfl;show ze1 (za8 n) [some (.val (toD (.nd r l))),none,none]=_;unfold ze1;rw[zag (Z1:=[some (.val (toD (.nd r l))),none,none]) (by rw[hD];rfl)];rw[zag (Z1:=[some (.val (toD (.nd r l))),some (.val (.lst [])),none]) rfl];rw[zag (Z1:=[some (.val (toD (.nd r l))),some (.val (.lst ((zae l).map .int))),o'])]
  ·rfl
  ·unfold ziF;have:dIt (dOp gIx (zab 0) (dC (.int 1))) [some (.val (toD (.nd r l))),some (.val (.lst [])),none]=.ok (zjL l,[some (.val (toD (.nd r l))),some (.val (.lst [])),none]):=by rw[hD];rfl
   rw[this];simpa using e
noncomputable def znh{α:Type}:Nat->List α->List (List α)
 |0,_=>[[]]
 |n+1,l=>(List.range l.length).flatMap λk=>match l[k]? with
  |some a=>(znh n (l.eraseIdx k)).map (a::·)
  |none=>[]
theorem zqx{α:Type}{l:List α}{n k:Nat}(h:l.length=n+1)(hk:k<l.length):(l.eraseIdx k).length=n:=by rw[List.length_eraseIdx,if_pos hk,h];rfl
theorem zt9{α β:Type}(f:α->β):∀(l:List α)(k:Nat),(l.map f).eraseIdx k=(l.eraseIdx k).map f
 |[],_=>rfl
 |a::l,0=>rfl
 |a::l,k+1=>by simp[zt9 f l k]
theorem zdi{α:Type}:∀(n:Nat)(l p:List α),l.length=n->(p∈znh n l ↔ p.Perm l)
 |0,l,p,h=>by have:l=[]:=List.length_eq_zero_iff.mp h;subst this;simp[znh]
 |n+1,l,p,h=>by
  rw[znh,List.mem_flatMap];constructor
  ·rintro ⟨k,hk,hp⟩;have hk':=List.mem_range.mp hk;rw[List.getElem?_eq_getElem hk'] at hp;obtain ⟨r,hr,rfl⟩:=List.mem_map.mp hp;have:=(zdi n _ r (zqx h hk')).mp hr;exact (this.cons _).trans (zf1 (wac hk'))
  ·intro hp;cases p with
   |nil=>have:=hp.length_eq;simp at this;lia
   |cons a r =>
    obtain ⟨k,hk,e⟩:=List.mem_iff_getElem.mp (hp.mem_iff.mp wau);have e':l[k]? = some a:=by rw[List.getElem?_eq_getElem hk,e]
    refine ⟨k,List.mem_range.mpr hk,?_⟩;rw[e'];refine List.mem_map.mpr ⟨r,(zdi n _ r (zqx h hk)).mpr ?_,rfl⟩;exact List.Perm.cons_inv (hp.trans (zf1 e').symm)
theorem zro{α β:Type}(f:α->β):∀(n:Nat)(l:List α),znh n (l.map f)=(znh n l).map (List.map f)
 |0,l=>rfl
 |n+1,l=>by
  rw[znh,znh,List.length_map,List.map_flatMap];congr 1;funext k;rw[List.getElem?_map];cases l[k]? with
  |none=>rfl
  |some a =>
   show List.map (f a::·) (znh n ((l.map f).eraseIdx k))=_;rw[zt9,zro f n,List.map_map,List.map_map];rfl
noncomputable def fac:Nat->Nat
 |0=>1
 |n+1=>(n+1) * fac n
theorem zgn{α:Type}{f:α->Nat}{c:Nat}:∀{l:List α},(∀ a∈l,f a=c)->(l.map f).sum=l.length * c
 |[],_=>by simp
 |a::l,h=>by rw[List.map_cons,List.sum_cons,zgn (λb hb=>h b (List.mem_cons_of_mem _ hb)),h a List.mem_cons_self,List.length_cons,Nat.succ_mul,Nat.add_comm]
theorem zqT{α:Type}:∀(n:Nat)(l:List α),l.length=n->(znh n l).length=fac n
 |0,l,_=>rfl
 |n+1,l,h=>by
  rw[znh,List.length_flatMap,zgn (c:=fac n) λk hk=>?_,List.length_range,h]
  ·rfl
  ·have hk':=List.mem_range.mp hk;rw[List.getElem?_eq_getElem hk'];show (List.map _ (znh n _)).length=_;rw[List.length_map];exact zqT n _ (zqx h hk')
noncomputable def zkj:List (List (List Int))->List (List Int)
 |[]=>[[]]
 |c::cs=>c.flatMap λx=>(zkj cs).map (x++·)
theorem zks:∀{cs:List (List (List Int))}{r:List Int},r∈zkj cs ↔ ∃ ys,Paired (λy c=>y∈c) ys cs/\ys.flatten=r
 |[],r=>by
  simp only[zkj,List.mem_singleton];constructor
  ·rintro rfl;exact ⟨[],.nil,rfl⟩
  ·rintro ⟨ys,h,rfl⟩;cases h;rfl
 |c::cs,r=>by
  simp only[zkj,List.mem_flatMap,List.mem_map];constructor
  ·rintro ⟨x,hx,s,hs,rfl⟩;obtain ⟨ys,h1,rfl⟩:=zks.mp hs;exact ⟨x::ys,.cons hx h1,rfl⟩
  ·rintro ⟨ys,h,rfl⟩;cases h with
   |cons h t=>exact ⟨_,h,_,zks.mpr ⟨_,t,rfl⟩,rfl⟩
noncomputable def zji:List Nat->Nat
 |[]=>1
 |n::l=>n * zji l
theorem zoe:∀ cs:List (List (List Int)),(zkj cs).length=zji (cs.map List.length)
 |[]=>rfl
 |c::cs=>by
  rw[zkj,List.length_flatMap,zgn (c:=zji (cs.map List.length)) λx hx=>?_]
  ·rfl
  ·rw[List.length_map,zoe cs]
theorem zoE{a b:List Nat}(h:a.Perm b):zji a=zji b:=by
 induction h with
 |nil=>rfl
 |cons x h ih=>simp[zji,ih]
 |swap x y l=>simp only[zji];rw[<- Nat.mul_assoc,<- Nat.mul_assoc,Nat.mul_comm x y]
 |trans h1 h2 i1 i2=>exact i1.trans i2
mutual
noncomputable def zaw:Tr->List (List Int)
 |.lf g=>[[g]]
 |.nd r bs=>(if r=true then [zhA bs,(zhA bs).reverse] else znh bs.length (zhA bs)).flatMap zkj
noncomputable def zhA:List Tr->List (List (List Int))
 |[]=>[]
 |t::l=>zaw t::zhA l
end
theorem zj8:∀ l:List Tr,zhA l=l.map zaw
 |[]=>by simp[zhA]
 |t::l=>by simp[zhA,zj8 l]
noncomputable def arr(r:Bool)(bs:List Tr):List (List Tr):=if r=true then [bs,bs.reverse] else znh bs.length bs
theorem zcE{r:Bool}{bs p:List Tr}(h:p∈arr r bs):p.Perm bs:=by
 unfold arr at h;split at h
 ·simp only[wap,wak,or_false] at h;rcases h with rfl|rfl
  ·exact .refl _
  ·exact List.reverse_perm _
 ·exact (zdi _ _ _ rfl).mp h
theorem zrh(r:Bool)(bs:List Tr):zaw (.nd r bs)=(arr r bs).flatMap λp=>zkj (p.map zaw):=by
 rw[zaw,zj8];unfold arr;cases r with
 |true=>simp
 |false =>
  simp only[Bool.false_eq_true,if_false];rw[zro,List.flatMap_map]
theorem zck{α β γ:Type}{F:α->γ->Prop}{f:β->γ}:∀{l:List α}{r:List β},Paired F l (r.map f) ↔ Paired (λa b=>F a (f b)) l r
 |l,[]=>⟨λh=>by cases h;exact .nil,λh=>by cases h;exact .nil⟩
 |l,b::r=>⟨λh=>by
   rw[List.map_cons] at h;cases h with
   |cons h t=>exact .cons h (zck.mp t),λh=>by
   rw[List.map_cons];cases h with
   |cons h t=>exact .cons h (zck.mpr t)⟩
noncomputable def zb9(r:List Int)(p:List Tr):Prop:=∃ ys,Paired (λy t=>y∈zaw t) ys p/\ys.flatten=r
theorem zom{r:List Int}{p:List Tr}:r∈zkj (p.map zaw) ↔ zb9 r p:=by rw[zks];unfold zb9;exact ⟨λ⟨ys,h,e⟩=>⟨ys,zck.mp h,e⟩,λ⟨ys,h,e⟩=>⟨ys,zck.mpr h,e⟩⟩
theorem zbq{b:Bool}{bs:List Tr}{r:List Int}:r∈zaw (.nd b bs) ↔ ∃ p∈arr b bs,zb9 r p:=by rw[zrh,List.mem_flatMap];exact ⟨λ⟨p,h,e⟩=>⟨p,h,zom.mp e⟩,λ⟨p,h,e⟩=>⟨p,h,zom.mpr e⟩⟩
theorem zbv{p q:List Tr}(h:p.Perm q):(zae p).Perm (zae q):=by rw[zaH,zaH];exact h.flatMap_right _
theorem zgE{P:Tr->Prop}(H:∀ t,P t->∀ r∈zaw t,r.Perm (zad t)):∀{p:List Tr}{ys:List (List Int)},(∀ t∈p,P t)->Paired (λy t=>y∈zaw t) ys p->ys.flatten.Perm (zae p)
 |[],_,_,.nil=>by simp[zae]
 |t::p,_,hP,.cons h r=>by rw[List.flatten_cons,zae];exact (H t (hP t wau) _ h).append (zgE H (λu hu=>hP u (wah _ hu)) r)
theorem zh4:∀(n:Nat)(t:Tr),dep t<=n->∀ r∈zaw t,r.Perm (zad t)
 |0,t,h,r,_=>by cases t <;> simp[dep] at h
 |n+1,.lf g,h,r,hr=>by rw[zaw,List.mem_singleton] at hr;subst hr;rw[zad]
 |n+1,.nd b bs,h,r,hr=>by obtain ⟨p,hp,ys,h1,rfl⟩:=zbq.mp hr;simp only[dep] at h;have hd:=zaW.mp (by lia:zcY bs<=n);rw[zad];exact (zgE (P:=λt=>dep t<=n) (λt ht=>zh4 n t ht) (λt ht=>hd t ((zcE hp).mem_iff.mp ht)) h1).trans (zbv (zcE hp))
theorem zb3{t:Tr}{r:List Int}(h:r∈zaw t):r.Perm (zad t):=zh4 _ t (wal _) r h
theorem zlb{p:List Tr}{r:List Int}(h:zb9 r p):r.Perm (zae p):=by obtain ⟨ys,h1,rfl⟩:=h;exact zgE (P:=λ_=>True) (λt _ r hr=>zb3 hr) (λ_ _=>trivial) h1
structure zih(bs:List Tr):Prop where
 nd:(zae bs).Nodup
 ne:∀ t∈bs,zad t≠[]
theorem zaQ{g:Int}{bs:List Tr}:g∈zae bs ↔ ∃ t∈bs,g∈zad t:=by rw[zaH,List.mem_flatMap]
theorem zft:∀{bs:List Tr},(zae bs).Nodup->∀{t u:Tr}{g:Int},t∈bs->u∈bs->g∈zad t->g∈zad u->t=u
 |[],_,_,_,_,h,_,_,_=>by cases h
 |b::bs,hn,t,u,g,ht,hu,gt,gu=>by
  rw[zae,List.nodup_append] at hn;obtain ⟨h1,h2,h3⟩:=hn;rcases wap.mp ht with e|ht' <;> rcases wap.mp hu with e'|hu'
  ·rw[e,e']
  ·subst e;exact absurd rfl (h3 g gt g (zaQ.mpr ⟨u,hu',gu⟩))
  ·subst e';exact absurd rfl (h3 g gu g (zaQ.mpr ⟨t,ht',gt⟩))
  ·exact zft h2 ht' hu' gt gu
theorem zkW{bs:List Tr}(A:zih bs):∀{p q:List Tr}{ys zs:List (List Int)},(∀ t∈p,t∈bs)->(∀ t∈q,t∈bs)->Paired (λy t=>y∈zaw t) ys p->Paired (λy t=>y∈zaw t) zs q->ys.flatten=zs.flatten->p=q/\ys=zs
 |[],q,_,zs,_,hq,.nil,h2,e=>by
  cases h2 with
  |nil=>exact ⟨rfl,rfl⟩
  |@cons z t zs q h r =>
   exfalso;have:=zb3 h;rw[List.flatten_nil,List.flatten_cons] at e;have hz:z=[]:=(List.append_eq_nil_iff.mp e.symm).1;subst hz;exact A.ne t (hq t wau) (this.symm.eq_nil)
 |t::p,q,_,zs,hp,hq,.cons (a:=y) (l₁:=ys) h r,h2,e=>by
  have hy:=zb3 h;have hyn:y≠[]:=λz=>A.ne t (hp t wau) (by subst z;exact hy.symm.eq_nil);cases h2 with
  |nil =>
   exfalso;rw[List.flatten_nil,List.flatten_cons] at e;exact hyn (List.append_eq_nil_iff.mp e).1
  |@cons z u zs q h' r' =>
   have hz:=zb3 h';have hzn:z≠[]:=λw=>A.ne u (hq u wau) (by subst w;exact hz.symm.eq_nil);rw[List.flatten_cons,List.flatten_cons] at e;obtain ⟨g,y',rfl⟩:=waI hyn;obtain ⟨g',z',rfl⟩:=waI hzn;have eg:g=g':=by simp only[List.cons_append] at e;exact (List.cons.inj e).1
   subst eg;have tu:t=u:=zft A.nd (hp t wau) (hq u wau) (hy.mem_iff.mp wau) (hz.mem_iff.mp wau);subst tu;have el:(g::y').length=(g::z').length:=hy.length_eq.trans hz.length_eq.symm;obtain ⟨e1,e2⟩:=List.append_inj e el;obtain ⟨e3,e4⟩:=zkW A (λu hu=>hp u (wah _ hu)) (λu hu=>hq u (wah _ hu)) r r' e2;exact ⟨by rw[e3],by rw[e1,e4]⟩
theorem zsl{bs:List Tr}(A:zih bs){p q:List Tr}{r:List Int}(hp:∀ t∈p,t∈bs)(hq:∀ t∈q,t∈bs)(h1:zb9 r p)(h2:zb9 r q):p=q:=by obtain ⟨ys,a1,rfl⟩:=h1;obtain ⟨zs,b1,e⟩:=h2;exact (zkW A hp hq a1 b1 e.symm).1
theorem zev:∀{bs:List Tr},zih bs->bs.Nodup
 |[],_=>.nil
 |b::bs,A=>by
  have hn:=A.nd;rw[zae,List.nodup_append] at hn;refine List.nodup_cons.mpr ⟨λhb=>?_,zev ⟨hn.2.1,λt ht=>A.ne t (wah _ ht)⟩⟩;obtain ⟨g,y,e⟩:=waI (A.ne b wau);have hg:g∈zad b:=by rw[e];exact wau
  exact absurd rfl (hn.2.2 g hg g (zaQ.mpr ⟨b,hb,hg⟩))
theorem zgt{n:Nat}{b:Bool}{bs:List Tr}(hd:dep (.nd b bs)<=n+1)(ho:okT (.nd b bs)=true)(hn:(zad (.nd b bs)).Nodup):zih bs/\∀ t∈bs,dep t<=n/\okT t=true/\(zad t).Nodup:=by simp only[dep] at hd;rw[zad] at hn;rw[okT,Bool.and_eq_true,zco,List.all_eq_true] at ho;have h:=zaW.mp (by lia:zcY bs<=n);refine ⟨⟨hn,λt ht=>zbG n t (h t ht) (ho.2 t ht)⟩,λt ht=>⟨h t ht,ho.2 t ht,?_⟩⟩;rw[zaH] at hn;exact (List.pairwise_flatMap.mp hn).1 t ht
noncomputable def zcl(n:Nat):Nat->List (List Int)
 |0=>[[]]
 |j+1=>(zcl n j).flatMap λrow=>((zaK n).filter λg=>!decide (g∈row)).map λg=>row++[g]
theorem zgy{n:Nat}:∀{j:Nat}{r:List Int},r∈zcl n j ↔ r.length=j/\r.Nodup/\∀ x∈r,x∈zaK n
 |0,r=>by
  simp only[zcl,List.mem_singleton];constructor
  ·rintro rfl;simp
  ·rintro ⟨h,_⟩;exact List.length_eq_zero_iff.mp h
 |j+1,r=>by
  simp only[zcl,List.mem_flatMap,List.mem_map,List.mem_filter,Bool.not_eq_true',decide_eq_false_iff_not];constructor
  ·rintro ⟨row,hr,g,⟨hg,hn⟩,rfl⟩;obtain ⟨h1,h2,h3⟩:=zgy.mp hr;refine ⟨by simp[h1],?_,λx hx=>?_⟩
   ·rw[List.nodup_append];refine ⟨h2,xws,λa ha b hb e=>?_⟩;rw[List.mem_singleton] at hb;subst hb;subst e;exact hn ha
   ·rcases wax.mp hx with hx|hx
    ·exact h3 x hx
    ·rw[List.mem_singleton] at hx;subst hx;exact hg
  ·rintro ⟨h1,h2,h3⟩;have hne:r≠[]:=λz=>by subst z;simp at h1
   have e:=List.dropLast_concat_getLast hne;rw[<- e] at h2 h3;rw[List.nodup_append] at h2;refine ⟨r.dropLast,zgy.mpr ⟨by simp[h1],h2.1,λx hx=>h3 x (waR _ hx)⟩,r.getLast hne,⟨h3 _ (waz _ xws),λhx=>h2.2.2 _ hx _ xws rfl⟩,e⟩
theorem zmI{α:Type} [BEq α] [LawfulBEq α] {a b:List α} (ha:a.Nodup) (hb:b.Nodup) (h:∀ x,x∈a ↔ x∈b):a.Perm b:=by
 rw[List.perm_iff_count];intro x;by_cases hx:x∈a
 ·rw[ha.count,hb.count,if_pos hx,if_pos ((h x).mp hx)]
 ·rw[ha.count,hb.count,if_neg hx,if_neg λz=>hx ((h x).mpr z)]
theorem ziA{n:Nat}{r:List Int}:r∈zcl n n ↔ r.Perm (zaK n):=by
 rw[zgy];constructor
 ·rintro ⟨h1,h2,h3⟩;exact zfs r (zaK n) h2 h3 (by rw[zbk];lia)
 ·intro h;exact ⟨by rw[h.length_eq,zbk],h.symm.nodup (zcI n),λx hx=>h.mem_iff.mp hx⟩
theorem zhI{α:Type} [BEq α] [LawfulBEq α]:∀{a b:List α},a.Nodup->(∀ x∈a,x∈b)->a.length<=b.length
 |[],_,_,_=>Nat.zero_le _
 |x::a,b,hn,h=>by
  have hx:=h x wau;have:=zhI (a:=a) (b:=b.erase x) (List.nodup_cons.mp hn).2 λy hy=>by have hne:y≠x:=λe=>(List.nodup_cons.mp hn).1 (by rw[<- e];exact hy);exact (List.mem_erase_of_ne hne).mpr (h y (wah _ hy))
  have e:=List.length_erase_of_mem hx;have:0<b.length:=List.length_pos_of_mem hx;rw[List.length_cons];lia
theorem zpS:∀ n,1<=fac n
 |0=>wal _
 |n+1=>by have:=zpS n;rw[fac];exact waN this (Nat.le_mul_of_pos_left _ (Nat.succ_pos n))
theorem zl8{α:Type}{g:DG}{body:DS}{u:α->Dt}{l:List α}{I:List α->Ev->Prop}(H:∀ dn a zbz,l=dn++a::zbz->∀ Z,I dn Z->∃ Z1 Z2,g (u a) Z=.ok Z1/\body Z1=.ok (.nx,Z2)/\I (dn++[a]) Z2) :
  ∀(todo dn:List α)(Z:Ev),l=dn++todo->I dn Z->∃ Z',I l Z'/\zoP g body (todo.map u) Z=.ok (.nx,Z')
 |[],dn,Z,e,h=>by rw[List.append_nil] at e;subst e;exact ⟨Z,h,rfl⟩
 |a::todo,dn,Z,e,h=>by obtain ⟨Z1,Z2,h1,h2,h3⟩:=H dn a todo e Z h;obtain ⟨Z',h4,h5⟩:=zl8 H todo (dn++[a]) Z2 (by rw[e];simp) h3;refine ⟨Z',h4,?_⟩;rw[List.map_cons,zoP,h1];simp only[R.bind_ok,h2];exact h5
theorem zc3{α:Type}{fi:DA}{g:DG}{body:DS}{u:α->Dt}{l:List α}{ds:List Dt}{I:List α->Ev->Prop}{Z Z0:Ev}(hi:fi Z=.ok (ds,Z0))(hd:ds=l.map u)(h0:I [] Z0)(H:∀ dn a zbz,l=dn++a::zbz->∀ Z,I dn Z->∃ Z1 Z2,g (u a) Z=.ok Z1/\body Z1=.ok (.nx,Z2)/\I (dn++[a]) Z2) :
  ∃ Z',I l Z'/\ziF fi g body Z=.ok (.nx,Z'):=by
 subst hd;obtain ⟨Z',h1,h2⟩:=zl8 H l [] Z0 rfl h0;refine ⟨Z',h1,?_⟩;unfold ziF;rw[hi];exact h2
theorem zq5{i:Nat}{fa:De}{Z Z1:Ev}{l0 ds l:List Dt}{d:Dt}(h0:Z[i]? = some (some (.own l0)))(h:fa Z=.ok (d,Z1))(h1:Z1[i]? = some (some (.own ds)))(hd:zit d=some l)(hl:ds.length+l.length<=16777216):zhi i fa Z=.ok (.non,Z1.set i (some (.own (ds++l)))):=by unfold zhi;simp only[h0,h,R.bind_ok,h1,hd,hl,if_true]
theorem zqQ{i:Nat}{fa:De}{Z Z1:Ev}{l0 ds:List Dt}{d:Dt}(h0:Z[i]? = some (some (.own l0)))(h:fa Z=.ok (d,Z1))(h1:Z1[i]? = some (some (.own ds)))(hl:ds.length<16777216):zeK i fa Z=.ok (.non,Z1.set i (some (.own (ds++[d])))):=by unfold zeK;simp only[h0,h,R.bind_ok,h1,hl,if_true]
theorem zma{fa fb:De}{Z Z1 Z2:Ev}{x y:List Dt}(h:fa Z=.ok (.lst x,Z1))(h2:fb Z1=.ok (.lst y,Z2))(hl:x.length+y.length<=16777216):zj1 fa fb Z=.ok (x++y,Z2):=by unfold zj1;simp only[h,h2,R.bind_ok,hl,if_true]
theorem zv9{x y:List Dt}(hl:x.length+y.length<=16777216):zkG (.tup x) (.tup y)=.ok (.tup (x++y)):=by unfold zkG;simp only[hl,if_true]
theorem zms{fa:De}{fl fh:DO}{Z Z1 Z2 Z3:Ev}{x:List Dt}{lo hi:Option Int}(h:fa Z=.ok (.lst x,Z1))(h1:fl Z1=.ok (lo,Z2))(h2:fh Z2=.ok (hi,Z3)):zlM fa fl fh Z=.ok (ziE x lo hi,Z3):=by unfold zlM;simp only[h,h1,h2,R.bind_ok]
theorem zkv{fa:De}{fl fh:DO}{Z Z1 Z2 Z3:Ev}{x:List Dt}{lo hi:Option Int}(h:fa Z=.ok (.tup x,Z1))(h1:fl Z1=.ok (lo,Z2))(h2:fh Z2=.ok (hi,Z3)):zfG fa fl fh Z=.ok (.tup (ziE x lo hi),Z3):=by unfold zfG;simp only[h,h1,h2,R.bind_ok]
theorem zr7{fa:De}{Z Z1:Ev}{i:Int}(h:fa Z=.ok (.int i,Z1)):dO1 fa Z=.ok (some i,Z1):=by unfold dO1;simp only[h,R.bind_ok]
theorem ztq{α β:Type}{f:α->List β}{c:Nat}:∀{l:List α},(∀ a∈l,(f a).length<=c)->(l.flatMap f).length<=l.length * c
 |[],_=>by simp
 |a::l,h=>by rw[List.flatMap_cons,List.length_append,List.length_cons,Nat.succ_mul];have:=ztq (l:=l) λb hb=>h b (wah _ hb);have:=h a wau;lia
theorem zts{m:Nat}(h:m<=1000):zf2 (m:Int)=true:=by unfold zf2;rw[Bool.and_eq_true,decide_eq_true_eq,decide_eq_true_eq];lia
noncomputable def zxJ(j:Int)(Z:Ev):R (List Dt×Ev):=if zf2 j=true then .ok (zca 0 j.toNat,Z) else .no
theorem zmY{j:Int}{Z:Ev}(h:zf2 j=true):zxJ j Z=.ok (zca 0 j.toNat,Z):=if_pos h
theorem zqp{fa:De}{Z Z1:Ev}{j:Int}(h:fa Z=.ok (.int j,Z1)):zdS fa Z=zxJ j Z1:=by unfold zdS zxJ;rw[h];rfl
theorem zqf{fa:De}{Z Z1:Ev}{m:Nat}(h:fa Z=.ok (.int (m:Nat),Z1))(hm:m<=1000):zdS fa Z=.ok ((List.range m).map λk:Nat=>Dt.int k,Z1):=by rw[zqp h,zmY (zts hm),Int.toNat_natCast];unfold zca;simp only[Int.zero_add]
theorem zxz(a b:List (List Int)):lp (a++b)=lp a++lp b:=by unfold lp;rw[List.map_append]
theorem zn3(a:List (List Int)):(lp a).length=a.length:=by unfold lp;rw[List.length_map]
theorem zwX(a b:List Int):Dt.tup (a.map .int++b.map .int)=tz (a++b):=by unfold tz;rw[List.map_append]
theorem zla:∀{a:List Nat},(∀ x∈a,1<=x)->1<=zji a
 |[],_=>wal _
 |x::a,h=>waN (zla λy hy=>h y (wah _ hy)) (Nat.le_mul_of_pos_left _ (h x wau))
theorem zuk(r:Bool)(bs:List Tr):1<=(arr r bs).length:=by
 unfold arr;split
 ·simp
 ·rw[zqT _ _ rfl];exact zpS _
theorem zsm(r:Bool)(bs:List Tr):(zaw (.nd r bs)).length=(arr r bs).length * zji (bs.map λt=>(zaw t).length):=by rw[zrh,List.length_flatMap,zgn (c:=zji (bs.map λt=>(zaw t).length)) λp hp=>?_];rw[zoe,List.map_map];exact zoE ((zcE hp).map _)
theorem znW:∀(n:Nat)(t:Tr),dep t<=n->1<=(zaw t).length
 |0,t,h=>by cases t <;> simp[dep] at h
 |n+1,.lf g,_=>by rw[zaw];simp
 |n+1,.nd r bs,h=>by
  simp only[dep] at h;have hd:=zaW.mp (by lia:zcY bs<=n);rw[zsm];exact waN (zuk r bs) (Nat.le_mul_of_pos_right _ (zla λx hx=>by obtain ⟨t,ht,rfl⟩:=List.mem_map.mp hx;exact znW n t (hd t ht)))
theorem zp0{r:Bool}{bs:List Tr}{Z:Ev}(h:zab 0 Z=.ok (toD (.nd r bs),Z)):dOp gIx (zab 0) (dC (.int 0)) Z=.ok (.str (wd r),Z) :=
 zar h rfl (by rw[toD];rfl)
theorem zu0{r:Bool}{bs:List Tr}{Z:Ev}(h:zab 0 Z=.ok (toD (.nd r bs),Z)):dTB (dOp (gEq false) (dOp gIx (zab 0) (dC (.int 0))) (dC (.str (Str.ofString "row")))) Z=.ok (r,Z):=by refine za5 (zar (zp0 h) rfl ?_);rw[zbp (by rw[okN];exact zeu r) (by rw[okN];exact zi7),eqS,ztL];rfl
theorem zkg{r:Bool}{bs:List Tr}{Z:Ev}(h:zab 0 Z=.ok (toD (.nd r bs),Z)):dOp (gEq false) (dOp gIx (zab 0) (dC (.int 0))) (dC (.str (Str.ofString "any"))) Z=.ok (.bl (!r),Z):=by refine zar (zp0 h) rfl ?_;rw[zbp (by rw[okN];exact zeu r) (by rw[okN];exact zi0),eqS,zto];rfl
theorem ze2{r:Bool}{bs:List Tr}{Z:Ev}(h:zab 0 Z=.ok (toD (.nd r bs),Z)):dOp gIx (zab 0) (dC (.int 1)) Z=.ok (.tup (zjL bs),Z) :=
 zar h rfl (by rw[toD];rfl)
theorem zqz(l:List Int):zkV (l.map .int)=some l:=zrz l
theorem zjt{α:Type}{u f:α->Dt}{p:α->Bool}{ft:DT}{fe:De}{Z0:Ev}:∀{l:List α}{o:Option B},(∀ a∈l,ft (Z0++[some (.val (u a))])=.ok (p a,Z0++[some (.val (u a))]))->(∀ a∈l,p a=true->fe (Z0++[some (.val (u a))])=.ok (f a,Z0++[some (.val (u a))])) ->
  ∃ o',zbS (zb0 Z0.length) ft fe (l.map u) (Z0++[o])=.ok ((l.filter p).map f,Z0++[o'])
 |[],o,_,_=>⟨o,rfl⟩
 |a::l,o,h,h2=>by
  obtain ⟨o',e⟩:=zjt (l:=l) (o:=some (.val (u a))) (λb hb=>h b (wah _ hb)) λb hb=>h2 b (wah _ hb);refine ⟨o',?_⟩;rw[List.map_cons,zbS,zsM];simp only[R.bind_ok];rw[h a List.mem_cons_self];simp only[R.bind_ok];cases hp:p a with
  |true =>
   simp only[if_true];rw[h2 a List.mem_cons_self hp];simp only[R.bind_ok,e,List.filter_cons,hp,if_true,List.map_cons]
  |false =>
   simp only[Bool.false_eq_true,if_false,e,List.filter_cons,hp]
theorem zch{α:Type}{u f:α->Dt}{p:α->Bool}{ft:DT}{fe:De}{Z0:Ev}{fi:DA}{l:List α}{ds:List Dt}{j:Nat}(hi:fi Z0=.ok (ds,Z0))(hd:ds=l.map u)(hj:j = Z0.length)(hl:l.length<=16777216)(h:∀ a∈l,ft (Z0++[some (.val (u a))])=.ok (p a,Z0++[some (.val (u a))]))(h2:∀ a∈l,p a=true->fe (Z0++[some (.val (u a))])=.ok (f a,Z0++[some (.val (u a))])) :
  zbl fi (zb0 j) ft fe 1 Z0=.ok ((l.filter p).map f,Z0):=by
 subst hj;subst hd;obtain ⟨o',e⟩:=zjt (o:=none) h h2;unfold zbl;rw[hi];simp only[R.bind_ok];have hf:zhg (l.map u)=true:=by unfold zhg;rw[List.length_map];exact wat hl
 rw[if_pos hf];show (match zbS (zb0 Z0.length) ft fe (l.map u) (Z0++[none]) with|.ok z=>R.ok (z.1,z.2.take Z0.length)|_=>.no)=_;rw[e];simp
noncomputable abbrev zuV:DN:=zbl (zdS (zab 0)) (zb0 5) (dTB (dOp (gIn true) (zab 5) (zab 4))) (dOp zkG (zab 4) (zdO (dA (zab 5) dA0))) 1
noncomputable abbrev pIn:DS:=ziF (dIt (zab 1)) (zb0 4) (dEx (zhi 3 (dFz zuV)))
noncomputable abbrev zx7:DS:=za2 (zdC 3 (zc8 dA0)) (za2 pIn (zaX 1 (zgC 3)))
theorem zqg:zfh=za2 (zaX 1 (dC (.lst [(.tup [])]))) (za2 (ziF (zdS (zab 0)) (zb0 2) zx7) (zbd (zab 1))):=rfl
noncomputable def zsT(n:Nat)(row:List Int):List (List Int):=((zaK n).filter λg=>!decide (g∈row)).map λg=>row++[g]
theorem zkt:∀ n,n<=6->∀ j,j<=n->(zcl n j).length<=720:=by decide +kernel
theorem zgU{neg:Bool}{x:Dt}{ds:List Dt}(h1:okN 60 x=true)(h2:∀ d∈ds,okN 60 d=true):gIn neg x (.tup ds)=.ok (.bl (if neg then !inD x ds else inD x ds))/\gIn neg x (.lst ds)=.ok (.bl (if neg then !inD x ds else inD x ds)):=by have h3:ds.all (okN 60)=true:=List.all_eq_true.mpr h2;unfold gIn;simp only[h1,h3,Bool.and_self,if_true,and_self]
theorem zim{l:List Int}:∀ d∈l.map Dt.int,okN 60 d=true:=λd hd=>by obtain ⟨i,_,rfl⟩:=List.mem_map.mp hd;rfl
theorem zut{fa:De}{Z Z1:Ev}{m:Nat}(h:fa Z=.ok (.int (m:Nat),Z1))(hm:m<=1000):zdS fa Z=.ok ((zaK m).map Dt.int,Z1):=by rw[zqp h,zmY (zts hm),Int.toNat_natCast,zh3]
theorem zsI{n:Nat}{o2 o4:Option B}{R:List (List Int)}(hn:n<=6)(hR:R.length<=1000)(hl:∀ r∈R,r.length<=100) :
  ∃ o',pIn [some (.val (.int (n:Nat))),some (.val (.lst (lp R))),o2,some (.own []),o4]=.ok (.nx,[some (.val (.int (n:Nat))),some (.val (.lst (lp R))),o2,some (.own (lp (R.flatMap (zsT n)))),o']):=by
 let N:Option B:=some (.val (.int (n:Nat)));let Z0:Ev:=[N,some (.val (.lst (lp R))),o2,some (.own []),o4]
 have hst:∀ row,(zsT n row).length<=6:=λrow=>by unfold zsT;rw[List.length_map];exact waN (List.length_filter_le _ _) (by rw[zbk];exact hn)
 obtain ⟨Z',⟨o',rfl⟩,e⟩:=zc3 (u:=tz) (l:=R) (g:=zb0 4) (body:=dEx (zhi 3 (dFz zuV))) (Z:=Z0) (Z0:=Z0) (ds:=lp R) (I:=λdn Z=>∃ o',Z=[N,some (.val (.lst (lp R))),o2,some (.own (lp (dn.flatMap (zsT n)))),o']) (fi:=dIt (zab 1)) rfl rfl ⟨o4,rfl⟩
  (λdn row zbz e Z ⟨o',hρ⟩=>by
   subst hρ;have hrow:row∈R:=by rw[e];simp
   let Z1:Ev:=[N,some (.val (.lst (lp R))),o2,some (.own (lp (dn.flatMap (zsT n)))),some (.val (tz row))]
   have hcomp:zuV Z1=.ok (((zaK n).filter λg=>!decide (g∈row)).map λg=>tz (row++[g]),Z1):=by
    have a0:zab 0 Z1=.ok (.int (n:Nat),Z1):=rfl;refine zch (u:=Dt.int) (l:=zaK n) (zut a0 xwo) rfl rfl (by rw[zbk];omega) (λg hg=>?_) λg hg _=>?_
    ·have a4:zab 4 (Z1++[some (.val (.int g))])=.ok (tz row,Z1++[some (.val (.int g))]):=rfl;have a5:zab 5 (Z1++[some (.val (.int g))])=.ok (.int g,Z1++[some (.val (.int g))]):=rfl;refine za5 (zar a5 a4 ?_);unfold tz;rw[(zgU rfl zim).1,zgD];rfl
    ·have a4:zab 4 (Z1++[some (.val (.int g))])=.ok (tz row,Z1++[some (.val (.int g))]):=rfl;have a5:zdO (dA (zab 5) dA0) (Z1++[some (.val (.int g))])=.ok (tz [g],Z1++[some (.val (.int g))]):=rfl;refine zar a4 a5 ?_;have:=hl row hrow;rw[<- zwX];exact zv9 (by simp only[wag,wan,List.length_nil];omega)
   have hdn:(dn.flatMap (zsT n)).length<=6000:=by
    have h1:(dn.flatMap (zsT n)).length<=dn.length * 6:=ztq λa _=>hst a;have h2:dn.length<=R.length:=by rw[e];simp
    omega
   have hlp:lp (zsT n row)=((zaK n).filter λg=>!decide (g∈row)).map λg=>tz (row++[g]):=by unfold lp zsT;rw[List.map_map];rfl
   refine ⟨Z1,_,rfl,zhb (zq5 (Z1:=Z1) rfl (zaN hcomp) rfl rfl ?_),some (.val (tz row)),?_⟩
   ·have:=hst row;rw[<- hlp,zn3,zn3];omega
   ·rw[List.flatMap_append,zxz,List.flatMap_singleton,hlp];rfl)
 exact ⟨o',e⟩
theorem zjr{n:Nat}(hn:n<=6):zbC [.val (.int (n:Nat))]=.ok (.lst (lp (zcl n n)),[.val .non]):=by
 let A:Option B:=some (.val (.int (n:Nat)));have hr:zdS (zab 0) [A,some (.val (.lst [.tup []])),none,none,none]=.ok ((List.range n).map λk:Nat=>Dt.int k,[A,some (.val (.lst [.tup []])),none,none,none]):=by have a0:zab 0 [A,some (.val (.lst [.tup []])),none,none,none]=.ok (.int (n:Nat),[A,some (.val (.lst [.tup []])),none,none,none]):=rfl;exact zqf a0 xwo
 obtain ⟨Z',⟨o2,o3,o4,rfl⟩,e⟩:=zc3 (u:=λk:Nat=>Dt.int k) (l:=List.range n) (g:=zb0 2) (body:=zx7)
  (I:=λdn Z=>∃ o2 o3 o4,Z=[A,some (.val (.lst (lp (zcl n dn.length)))),o2,o3,o4]) hr rfl ⟨none,none,none,rfl⟩
  (λdn c zbz e Z ⟨o2,o3,o4,hρ⟩=>by
   subst hρ;have hdl:dn.length<n:=by have:=congrArg List.length e;simp at this;omega
   have hle:=zkt n hn dn.length xwo;let C2:Option B:=some (.val (.int (c:Nat)));obtain ⟨o',e'⟩:=zsI (n:=n) (o2:=C2) (o4:=o4) (R:=zcl n dn.length) hn xwo (λr hr=>by have:=(zgy.mp hr).1;omega)
   let Z1:Ev:=[A,some (.val (.lst (lp (zcl n dn.length)))),C2,o3,o4]
   let Z2:Ev:=[A,some (.val (.lst (lp (zcl n dn.length)))),C2,some (.own []),o4]
   have e2:pIn Z2=.ok (.nx,[A,some (.val (.lst (lp (zcl n dn.length)))),C2,some (.own (lp (zcl n (dn.length+1)))),o']):=e';refine ⟨Z1,[A,some (.val (.lst (lp (zcl n (dn.length+1))))),C2,some (.val (.lst (lp (zcl n (dn.length+1))))),o'],rfl,?_,C2,some (.val (.lst (lp (zcl n (dn.length+1))))),o',?_⟩
   ·show zx7 Z1=_;rw[show zx7=za2 (zdC 3 (zc8 dA0)) (za2 pIn (zaX 1 (zgC 3))) from rfl,zag (Z1:=Z2) rfl,zag e2];rfl
   ·rw[List.length_append];rfl)
 refine zal (Z':=[A,some (.val (.lst (lp (zcl n (List.range n).length)))),o2,o3,o4]) rfl ?_ rfl;show zfh [A,none,none,none,none]=_;rw[zqg,zag (Z1:=[A,some (.val (.lst [.tup []])),none,none,none]) rfl,zag e,List.length_range];rfl
theorem zhT{bs q:List Tr}{b:Tr}{g:Int}{l:List Int}(A:zih bs)(hq:∀ t∈q,t∈bs)(hb:b∈bs)(hg:g∈zad b)(h:zb9 (g::l) q):∃ q',q=b::q'/\(g::l).take (zad b).length∈zaw b/\zb9 ((g::l).drop (zad b).length) q':=by
 obtain ⟨ys,h1,e⟩:=h;cases h1 with
 |nil=>simp at e
 |@cons y t ys q h r =>
  have hy:=zb3 h;have hyn:y≠[]:=λz=>A.ne t (hq t wau) (by subst z;exact hy.symm.eq_nil);obtain ⟨g',y',rfl⟩:=waI hyn;rw[List.flatten_cons] at e;have eg:g'=g:=by simp only[List.cons_append] at e;exact (List.cons.inj e).1
  subst eg;have tb:t=b:=zft A.nd (hq t wau) hb (hy.mem_iff.mp wau) hg;subst tb;have hm:(zad t).length=(g'::y').length:=hy.length_eq.symm;refine ⟨q,rfl,?_,ys,r,?_⟩
  ·rw[<- e,hm,List.take_left];exact h
  ·rw[<- e,hm,List.drop_left]
theorem zpH{b:Tr}{q:List Tr}{l:List Int}{m:Nat}(h1:l.take m∈zaw b)(h2:zb9 (l.drop m) q):zb9 l (b::q):=by obtain ⟨ys,h3,e⟩:=h2;exact ⟨l.take m::ys,.cons h1 h3,by rw[List.flatten_cons,e,List.take_append_drop]⟩
noncomputable def sel(bs:List Tr)(pl:List Nat):List Tr:=pl.filterMap (bs[·]?)
theorem zdz{bs:List Tr}{i:Nat}{b:Tr}{pl:List Nat}(h:bs[i]? = some b):sel bs (i::pl)=b::sel bs pl:=by unfold sel;rw[List.filterMap_cons,h]
theorem zkk{bs:List Tr}{pl:List Nat}{t:Tr}(h:t∈sel bs pl):t∈bs:=by unfold sel at h;obtain ⟨i,_,e⟩:=List.mem_filterMap.mp h;exact waH e
theorem znr{bs:List Tr}(hn:bs.Nodup):∀{a b:List Nat},(∀ i∈a,i<bs.length)->(∀ i∈b,i<bs.length)->sel bs a=sel bs b->a=b
 |[],[],_,_,_=>rfl
 |[],j::b,_,hb,e=>by rw[zdz (List.getElem?_eq_getElem (hb j List.mem_cons_self))] at e;simp[sel] at e
 |i::a,[],ha,_,e=>by rw[zdz (List.getElem?_eq_getElem (ha i List.mem_cons_self))] at e;simp[sel] at e
 |i::a,j::b,ha,hb,e=>by
  have hi:=ha i wau;have hj:=hb j wau;rw[zdz (List.getElem?_eq_getElem hi),zdz (List.getElem?_eq_getElem hj)] at e;obtain ⟨e1,e2⟩:=List.cons.inj e;have:i=j:=by
   rcases Nat.lt_trichotomy i j with h|h|h
   ·exact absurd e1 (List.pairwise_iff_getElem.mp hn i j hi hj h)
   ·exact h
   ·exact absurd e1.symm (List.pairwise_iff_getElem.mp hn j i hj hi h)
  rw[this,znr hn (λk hk=>ha k (List.mem_cons_of_mem _ hk)) (λk hk=>hb k (List.mem_cons_of_mem _ hk)) e2]
theorem zr3:∀(l pre:List Tr),sel (pre++l) (List.range' pre.length l.length)=l
 |[],pre=>by simp[sel]
 |t::l,pre=>by rw[List.length_cons,List.range'_succ,zdz (b:=t) (by rw[List.getElem?_append_right (Nat.le_refl _),Nat.sub_self];rfl)];have:=zr3 l (pre++[t]);rw[List.append_assoc,List.length_append] at this;exact congrArg (t::·) this
theorem zgg(bs:List Tr):sel bs (List.range bs.length)=bs:=by rw[List.range_eq_range'];exact zr3 bs []
theorem zrv(bs:List Tr)(pl:List Nat):sel bs pl.reverse=(sel bs pl).reverse:=by unfold sel;rw[List.filterMap_reverse]
theorem zm0{bs:List Tr}:∀{pl:List Nat},(∀ i∈pl,i<bs.length)->(sel bs pl).length=pl.length
 |[],_=>rfl
 |i::pl,h=>by rw[zdz (List.getElem?_eq_getElem (h i List.mem_cons_self)),List.length_cons,List.length_cons,zm0 λj hj=>h j (List.mem_cons_of_mem _ hj)]
theorem zk8{bs q:List Tr}{r:List Int}(A:zih bs)(hq:∀ t∈q,t∈bs)(hr:r.Perm (zae bs))(h:zb9 r q):q.Perm bs:=by
 have hp:(zae q).Perm (zae bs):=(zlb h).symm.trans hr;have hA:zih q:=⟨hp.symm.nodup A.nd,λt ht=>A.ne t (hq t ht)⟩
 haveI:DecidableEq Tr:=λa b=>Classical.propDecidable (a=b)
 refine zmI (zev hA) (zev A) λt=>⟨hq t,λht=>?_⟩
 obtain ⟨g,y,e⟩:=waI (A.ne t ht);have hg:g∈zad t:=by rw[e];exact wau
 obtain ⟨u,hu,gu⟩:=zaQ.mp (hp.mem_iff.mpr (zaQ.mpr ⟨t,ht,hg⟩));rw[zft A.nd ht (hq u hu) hg gu];exact hu
theorem zlw{bs:List Tr}:∀{pl:List Nat},(∀ i∈pl,i<bs.length)->(sel bs pl).Nodup->pl.Nodup
 |[],_,_=>.nil
 |i::pl,h,hn=>by have hi:=h i wau;rw[zdz (List.getElem?_eq_getElem hi)] at hn;rw[List.nodup_cons] at hn ⊢;refine ⟨λz=>hn.1 ?_,zlw (λj hj=>h j (wah _ hj)) hn.2⟩;unfold sel;exact List.mem_filterMap.mpr ⟨i,z,wac hi⟩
noncomputable def zbi(pl:List Nat):List Int:=pl.map λ(i:Nat)=>(i:Int)
theorem zh8:∀{a b:List Nat},zbi a=zbi b->a=b
 |[],[],_=>rfl
 |[],_::_,h=>by simp[zbi] at h
 |_::_,[],h=>by simp[zbi] at h
 |x::a,y::b,h=>by simp only[zbi,List.map_cons] at h;obtain ⟨h1,h2⟩:=List.cons.inj h;rw[zh8 h2,Int.ofNat_inj.mp h1]
theorem zep(k:Nat):zbi (List.range k)=zaK k:=rfl
theorem zl4(l:List Nat):zbi l.reverse=(zbi l).reverse:=by unfold zbi;rw[List.map_reverse]
theorem zuf{bs:List Tr}{r:List Int}{pl:List Nat}(A:zih bs)(hr:r.Perm (zae bs))(hpl:∀ i∈pl,i<bs.length)(h:zb9 r (sel bs pl)):r∈zaw (.nd false bs):=by refine zbq.mpr ⟨sel bs pl,?_,h⟩;show sel bs pl∈znh bs.length bs;exact (zdi _ _ _ rfl).mpr (zk8 A (λt=>zkk) hr h)
theorem zur{bs:List Tr}{r:List Int}{pl:List Nat}(A:zih bs)(hr:r.Perm (zae bs))(hpl:∀ i∈pl,i<bs.length)(h:zb9 r (sel bs pl)) :
  zaR (zbi pl)=zaK bs.length/\(r∈zaw (.nd true bs) ↔ zbi pl=zaK bs.length\/zbi pl=(zaK bs.length).reverse):=by
 have hp:=zk8 A (λt=>zkk) hr h;have hn:=zev A;have hlen:pl.length=bs.length:=by rw[<- zm0 hpl,hp.length_eq]
 refine ⟨zj9.mpr ⟨?_,λx hx=>?_,?_⟩,?_⟩
 ·exact List.pairwise_map.mpr ((zlw hpl (hp.symm.nodup hn)).imp λhab e=>hab (Int.ofNat_inj.mp e))
 ·obtain ⟨i,hi,rfl⟩:=List.mem_map.mp hx;have:=hpl i hi;lia
 ·unfold zbi;rw[List.length_map,hlen]
 ·rw[zbq];have hR:∀ i∈List.range bs.length,i<bs.length:=λi hi=>List.mem_range.mp hi;have hR':∀ i∈(List.range bs.length).reverse,i<bs.length:=λi hi=>List.mem_range.mp (List.mem_reverse.mp hi);constructor
  ·rintro ⟨p,hp',hm⟩;have e:sel bs pl=p:=zsl A (λt=>zkk) (λt ht=>(zcE hp').mem_iff.mp ht) h hm;have:p=bs\/p=bs.reverse:=by simpa [arr] using hp'
   rcases this with rfl|rfl
   ·left;rw[<- zep,<- znr hn hpl hR (e.trans (zgg _).symm)]
   ·right;rw[<- zep,<- zl4,<- znr hn hpl hR' (e.trans (by rw[zrv,zgg]))]
  ·rintro (e|e)
   ·have:=zh8 (e.trans (zep _).symm);refine ⟨bs,by simp[arr],?_⟩;rw[this,zgg] at h;exact h
   ·have:=zh8 (e.trans (by rw[zl4,zep]:(zaK bs.length).reverse=zbi (List.range bs.length).reverse));refine ⟨bs.reverse,by simp[arr],?_⟩;rw[this,zrv,zgg] at h;exact h
theorem zti{α:Type}(l:List α)(j:Nat):ziE l none (some (j:Int))=l.take j:=by
 unfold ziE;rw[HT.sIx_nat,HT.sIx_none,List.drop_zero,Nat.sub_zero];rcases Nat.le_total j l.length with h|h
 ·rw[Nat.min_eq_left h]
 ·rw[Nat.min_eq_right h,List.take_of_length_le (Nat.le_refl _),List.take_of_length_le h]
theorem zjU{α:Type}(l:List α)(j:Nat):ziE l (some (j:Int)) none=l.drop j:=by
 unfold ziE;rw[HT.sIx_nat,HT.sIx_none];rcases Nat.le_total j l.length with h|h
 ·rw[Nat.min_eq_left h,List.take_of_length_le xws]
 ·rw[Nat.min_eq_right h,List.drop_of_length_le (Nat.le_refl _),List.drop_of_length_le h];simp
theorem zvs(l:List Int)(j:Nat):Dt.tup ((l.map .int).take j)=tz (l.take j):=by unfold tz;rw[List.map_take]
theorem zqb(l:List Int)(j:Nat):Dt.tup ((l.map .int).drop j)=tz (l.drop j):=by unfold tz;rw[List.map_drop]
theorem zov(l:List Int):okN 60 (tz l)=true:=by unfold tz;rw[okN,List.all_eq_true];intro d hd;obtain ⟨i,_,rfl⟩:=List.mem_map.mp hd;rfl
theorem zig(l:List Int):okN 60 (.lst (l.map .int))=true:=zog l 59
theorem zvw(a b:List Int):eqD (tz a) (tz b)=(a == b):=by unfold tz;rw[eqD,zkM]
theorem zrX(a b:List Int):eqD (.lst (a.map .int)) (.lst (b.map .int))=(a == b):=by rw[eqD,zkM]
noncomputable abbrev tC:DT:=dTB (dOp (gEq true) (zab 2) (zdO dA0))
noncomputable abbrev zvP(j:Nat):De:=dOp gIx (dOp gIx (zab 0) (dC (.int 1))) (zab j)
noncomputable abbrev tLv(j:Nat):De:=zai (za8 8) (dR (zvP j) dR0)
noncomputable abbrev zxk:DN:=zbl (zdS (dFn zb5 (dA (dOp gIx (zab 0) (dC (.int 1))) dA0))) (zb0 6) (dTB (dOp (gIn false) (dOp gIx (zab 2) (dC (.int 0))) (tLv 6))) (zab 6) 1
noncomputable abbrev zrp:DS:=zaX 4 (dOp gIx (dFz zxk) (dC (.int 0)))
noncomputable abbrev zr8:DS:=zaX 5 (dFn zb5 (dA (tLv 4) dA0))
noncomputable abbrev zsB:De:=zfG (zab 2) dO0 (dO1 (zab 5))
noncomputable abbrev zvD:DS:=dIf (zhl (dTB (zpm false 3 (zab 4))) (dTB (dOp (gEq true) (dFz (zdL zd4 (dA zsB dA0))) (dFz (zdL zbh (dA (tLv 4) dA0)))))) (zbd (dC (.bl false))) dNx
noncomputable abbrev zvM(F:FD):DS:=dIf (zdx (dTB (zai F (dR (zvP 4) (dR zsB dR0))))) (zbd (dC (.bl false))) dNx
noncomputable abbrev zln(F:FD):DS:=za2 zrp (za2 zr8 (za2 zvD (za2 (zvM F) (za2 (dEx (zeK 3 (zab 4))) (zaX 2 (zfG (zab 2) (dO1 (zab 5)) dO0))))))
noncomputable abbrev tEnd:De:=dOr (dOp (gEq false) (dOp gIx (zab 0) (dC (.int 0))) (dC (.str (Str.ofString "any")))) (dOp (gIn false) (zgC 3) (zdO (dA (dFz (zdL zbh (dA (zgC 3) dA0))) (dA (dFz (zgj (dFz (zdL zbh (dA (zgC 3) dA0))))) dA0))))
theorem zqP(F:FD):zb6 F=za2 (dIf (dTB (zfw "int" (zab 0))) (zbd (dOp (gEq false) (zab 1) (zdO (dA (zab 0) dA0)))) dNx) (za2 (zaX 2 (zab 1)) (za2 (zdC 3 (zc8 dA0)) (za2 (zbA tC (zln F) 10) (zbd tEnd)))):=rfl
theorem znw{c:DT}{body:DS}{n:Nat}{Z Z1 Z2:Ev}(h:c Z=.ok (true,Z1))(hb:body Z1=.ok (.nx,Z2)):zbA c body (n+1) Z=zbA c body n Z2:=by rw[zbA,h];simp only[R.bind_ok,if_true,hb]
theorem zob{c:DT}{body:DS}{n:Nat}{Z Z1 Z2:Ev}{d:Dt}(h:c Z=.ok (true,Z1))(hb:body Z1=.ok (.rt d,Z2)):zbA c body (n+1) Z=.ok (.rt d,Z2):=by rw[zbA,h];simp only[R.bind_ok,if_true,hb]
theorem zqM{c:DT}{body:DS}{n:Nat}{Z Z1:Ev}(h:c Z=.ok (false,Z1)):zbA c body (n+1) Z=.ok (.nx,Z1):=by rw[zbA,h];simp only[R.bind_ok,Bool.false_eq_true,if_false]
theorem zgK{g:List Dt->R (List Dt)}{f:De}{Z Z1:Ev}{d:Dt}{z:List Dt}(h:f Z=.ok (d,Z1))(hg:g [d]=.ok z):zdL g (dA f dA0) Z=.ok (z,Z1):=by unfold zdL dA dA0;rw[h];simp only[R.bind_ok,hg]
theorem znQ{l:List Int}(h:l.length<64):zd4 [tz l]=.ok ((zaR l).map .int):=by unfold zd4 tz;simp only[zqz,h,if_true]
theorem zho{l:List Int}(h:l.length<64):zbh [.lst (l.map .int)]=.ok ((zaR l).map .int):=by unfold zbh;simp only[zqz,h,if_true]
structure Nod(r:Bool)(bs:List Tr):Prop where
 A:zih bs
 d:∀ b∈bs,dep b<=8
 k:bs.length<=6
 l:(zae bs).length<=6
theorem zqS{r:Bool}{bs:List Tr}{Z:Ev}{i j:Nat}{b:Tr}(h:zab 0 Z=.ok (toD (.nd r bs),Z))(hj:zab j Z=.ok (.int (i:Nat),Z))(hb:bs[i]? = some b):zvP j Z=.ok (toD b,Z):=by have hi:=(wam.mp hb).1;refine zar (ze2 h) hj (zuE (v:=(i:Nat)) xwo (by rw[zaU,List.length_map];omega) ?_);rw[Int.toNat_natCast,zaU,List.getElem?_map,hb];rfl
theorem zpM{r:Bool}{bs:List Tr}{Z:Ev}{i j:Nat}{b:Tr}(N:Nod r bs)(h:zab 0 Z=.ok (toD (.nd r bs),Z))(hj:zab j Z=.ok (.int (i:Nat),Z))(hb:bs[i]? = some b):tLv j Z=.ok (.lst ((zad b).map .int),Z):=by have hm:=waH hb;exact zdy (zqS h hj hb) (zel 8 b (N.d b hm) (by have:=zcz hm;have:=N.l;omega))
theorem zp1{r:Bool}{bs:List Tr}{g:Int}{l:List Int}{R3 o3 o4 o5:Option B}(N:Nod r bs)(hg:g∈zae bs):∃ i b,bs[i]? = some b/\g∈zad b /\
  zrp [some (.val (toD (.nd r bs))),R3,some (.val (tz (g::l))),o3,o4,o5]=.ok (.nx,[some (.val (toD (.nd r bs))),R3,some (.val (tz (g::l))),o3,some (.val (.int (i:Nat))),o5]):=by
 let Z:Ev:=[some (.val (toD (.nd r bs))),R3,some (.val (tz (g::l))),o3,o4,o5]
 have hv:zab 0 Z=.ok (toD (.nd r bs),Z):=rfl;have hlen:dFn zb5 (dA (dOp gIx (zab 0) (dC (.int 1))) dA0) Z=.ok (.int (bs.length:Nat),Z):=zbH (ze2 hv) (by show R.ok (Dt.int ((zjL bs).length:Nat))=_;rw[zaU,List.length_map]);let p:Nat->Bool:=λi=>match bs[i]? with
  |some b=>decide (g∈zad b)
  |none=>false
 have hc:zxk Z=.ok (((List.range bs.length).filter p).map λi:Nat=>Dt.int i,Z):=by
  refine zch (u:=λi:Nat=>Dt.int i) (l:=List.range bs.length) (zqf hlen (by have:=N.k;omega)) rfl rfl (by rw[List.length_range];have:=N.k;omega) (λi hi=>?_) λi hi _=>?_
  ·have hi':=List.mem_range.mp hi;have e:bs[i]? = some bs[i]:=wac hi';have a0:zab 0 (Z++[some (.val (.int (i:Nat)))])=.ok (toD (.nd r bs),Z++[some (.val (.int (i:Nat)))]):=rfl;have a6:zab 6 (Z++[some (.val (.int (i:Nat)))])=.ok (.int (i:Nat),Z++[some (.val (.int (i:Nat)))]):=rfl;have a2:dOp gIx (zab 2) (dC (.int 0)) (Z++[some (.val (.int (i:Nat)))])=.ok (.int g,Z++[some (.val (.int (i:Nat)))]):=zar (d:=tz (g::l)) (Z1:=Z++[some (.val (.int (i:Nat)))]) rfl rfl (by unfold gIx tz;rw[List.map_cons];simp only[zfx]);refine za5 (zar a2 (zpM N a0 a6 e) ?_);rw[(zgU rfl zim).2,zgD];show _=PV.R.ok (Dt.bl (match bs[i]? with|some b=>decide (g∈zad b)|none=>false));rw[e];rfl
  ·rfl
 obtain ⟨b,hb,gb⟩:=zaQ.mp hg;obtain ⟨k,hk,ek⟩:=List.mem_iff_getElem.mp hb;have hkp:k∈(List.range bs.length).filter p:=by refine List.mem_filter.mpr ⟨List.mem_range.mpr hk,?_⟩;show (match bs[k]? with|some b=>decide (g∈zad b)|none=>false)=true;rw[List.getElem?_eq_getElem hk,ek];exact wat gb
 obtain ⟨i,zbz,ei⟩:=waI (List.ne_nil_of_mem hkp);have hi:i∈(List.range bs.length).filter p:=by rw[ei];exact wau
 obtain ⟨h1,h2⟩:=List.mem_filter.mp hi;have hil:=List.mem_range.mp h1;have h2':(match bs[i]? with|some b=>decide (g∈zad b)|none=>false)=true:=h2;rw[List.getElem?_eq_getElem hil] at h2';refine ⟨i,bs[i],wac hil,of_decide_eq_true h2',?_⟩;rw[ei] at hc;exact zaD (Z1:=Z) (zar (zaN hc) rfl (by unfold gIx;rw[List.map_cons];simp only[zfx])) (by simp[Z])
theorem zsw{a b:List Int}(h:a.Perm b):zaR a=zaR b:=W.lks_uniq ((zaI a).trans (h.trans (zaI b).symm)) (zcn a) (zcn b)
theorem zpe{a b:List Int}(h:zaR a=zaR b):a.Perm b:=(zaI a).symm.trans (by rw[h];exact zaI b)
theorem ztd{i:Nat}{pl:List Nat}:((i:Int)∈zbi pl) ↔ i∈pl:=by unfold zbi;rw[List.mem_map];exact ⟨λ⟨j,hj,e⟩=>by rw[<- Int.ofNat_inj.mp e];exact hj,λh=>⟨i,h,rfl⟩⟩
section
variable{r:Bool}{bs:List Tr}{F:FD}{R:Option B}
theorem zrS{g:Int}{l:List Int}{pl:List Nat}{i:Nat}{b:Tr}{o5:Option B}(N:Nod r bs)(hl:(g::l).length<=6)(hb:bs[i]? = some b)(hpl:i∉pl)(Z2:Ev)(e2:Z2=[some (.val (toD (.nd r bs))),R,some (.val (tz (g::l))),some (.own ((zbi pl).map .int)),some (.val (.int (i:Nat))),some (.val (.int ((zad b).length:Nat)))]) :
  zr8 [some (.val (toD (.nd r bs))),R,some (.val (tz (g::l))),some (.own ((zbi pl).map .int)),some (.val (.int (i:Nat))),o5]=.ok (.nx,Z2) /\
  zhl (dTB (zpm false 3 (zab 4))) (dTB (dOp (gEq true) (dFz (zdL zd4 (dA zsB dA0))) (dFz (zdL zbh (dA (tLv 4) dA0))))) Z2=.ok (!(zaR ((g::l).take (zad b).length) == zaR (zad b)),Z2) /\
  zsB Z2=.ok (tz ((g::l).take (zad b).length),Z2)/\zfG (zab 2) (dO1 (zab 5)) dO0 Z2=.ok (tz ((g::l).drop (zad b).length),Z2):=by
 subst e2;let Z2:Ev:=[some (.val (toD (.nd r bs))),R,some (.val (tz (g::l))),some (.own ((zbi pl).map .int)),some (.val (.int (i:Nat))),some (.val (.int ((zad b).length:Nat)))]
 let Z1:Ev:=[some (.val (toD (.nd r bs))),R,some (.val (tz (g::l))),some (.own ((zbi pl).map .int)),some (.val (.int (i:Nat))),o5]
 have hbl:(zad b).length<=6:=by have:=zcz (waH hb);have:=N.l;omega
 have a2:zab 2 Z2=.ok (tz (g::l),Z2):=rfl;have a5:zab 5 Z2=.ok (.int ((zad b).length:Nat),Z2):=rfl;have a4:zab 4 Z2=.ok (.int (i:Nat),Z2):=rfl;have hpre:zsB Z2=.ok (tz ((g::l).take (zad b).length),Z2):=by refine (zkv a2 rfl (zr7 a5)).trans ?_;rw[zti,zvs]
 refine ⟨?_,?_,hpre,?_⟩
 ·have e:=zbH (g:=zb5) (z:=.int ((zad b).length:Nat)) (zpM (j:=4) (Z:=Z1) N rfl rfl hb) (by show PV.R.ok (Dt.int (((zad b).map Dt.int).length:Nat))=_;rw[List.length_map]);exact zaD e (by simp[Z1])
 ·have c1:dTB (zpm false 3 (zab 4)) Z2=.ok (false,Z2):=by refine za5 ?_;unfold zpm;rw[a4];show ((gIn false (.int (i:Nat)) (.lst ((zbi pl).map .int))).bind λz=>PV.R.ok (z,Z2))=_;rw[(zgU rfl zim).2,zgD];have:decide ((i:Int)∈zbi pl)=false:=waw λz=>hpl (ztd.mp z);rw[this];rfl
  have c2:dTB (dOp (gEq true) (dFz (zdL zd4 (dA zsB dA0))) (dFz (zdL zbh (dA (tLv 4) dA0)))) Z2=.ok (!(zaR ((g::l).take (zad b).length) == zaR (zad b)),Z2):=by
   refine za5 (zar (zaN (zgK hpre (znQ ?_))) (zaN (zgK (zpM (j:=4) N rfl rfl hb) (zho xwo))) ?_)
   ·rw[List.length_take];omega
   ·rw[zbp (zig _) (zig _),zrX];rfl
  rw[show zhl _ _ Z2=_ from zjv c1];exact c2
 ·refine (zkv a2 (zr7 a5) rfl).trans ?_;rw[zjU,zqb]
theorem zqO{T o3 o4 o5:Option B}(left:List Int):tC [T,R,some (.val (tz left)),o3,o4,o5]=.ok (!left.isEmpty,[T,R,some (.val (tz left)),o3,o4,o5]):=by
 let Z:Ev:=[T,R,some (.val (tz left)),o3,o4,o5]
 have a2:zab 2 Z=.ok (tz left,Z):=rfl;have a0:zdO dA0 Z=.ok (tz [],Z):=rfl;refine za5 (zar a2 a0 ?_);rw[zbp (zov _) (zov _),zvw];cases left <;> rfl
theorem zkY(N:Nod r bs)(IH:∀ b∈bs,∀ x:List Int,x.Perm (zad b)->F [.val (toD b),.val (tz x)]=.ok (.bl (decide (x∈zaw b)),[.val .non,.val .non])) :
  ∀(f:Nat)(left:List Int)(pl:List Nat)(o4 o5:Option B),left.length<f->left.length<=6->left.Nodup->(∀ g∈left,g∈zae bs)->(∀ i∈pl,∀ b,bs[i]? = some b->∀ g∈zad b,g∉left)->pl.length+left.length<=10 ->
   (∃ a2 a3 a4 a5,zbA tC (zln F) f [some (.val (toD (.nd r bs))),R,some (.val (tz left)),some (.own ((zbi pl).map .int)),o4,o5]=.ok (.rt (.bl false),[some (.val (toD (.nd r bs))),R,a2,a3,a4,a5])/\¬ ∃ q,(∀ t∈q,t∈bs)/\zb9 left q) \/
   (∃ pl' a4 a5,zbA tC (zln F) f [some (.val (toD (.nd r bs))),R,some (.val (tz left)),some (.own ((zbi pl).map .int)),o4,o5]=.ok (.nx,[some (.val (toD (.nd r bs))),R,some (.val (tz [])),some (.own ((zbi (pl++pl')).map .int)),a4,a5])/\(∀ i∈pl',i<bs.length)/\zb9 left (sel bs pl'))
 |0,left,pl,o4,o5,h,_,_,_,_,_=>by omega
 |f+1,[],pl,o4,o5,_,_,_,_,_,_=>by right;refine ⟨[],o4,o5,?_,xws,[],.nil,rfl⟩;rw[List.append_nil];exact zqM (zqO [])
 |f+1,g::l,pl,o4,o5,hf,h6,hn,hin,hpl,h10=>by
  obtain ⟨i,b,hb,gb,e1⟩:=zp1 (r:=r) (bs:=bs) (g:=g) (l:=l) (R3:=R) (o3:=some (.own ((zbi pl).map .int))) (o4:=o4) (o5:=o5) N (hin g wau);have hbm:=waH hb;have hi:=(wam.mp hb).1;have hip:i∉pl:=λz=>hpl i z b hb g gb wau;have hne:zad b≠[]:=N.A.ne b hbm;have hm1:1<=(zad b).length:=Nat.pos_of_ne_zero λz=>hne (List.length_eq_zero_iff.mp z);let T:Option B:=some (.val (toD (.nd r bs)));let Z2:Ev:=[T,R,some (.val (tz (g::l))),some (.own ((zbi pl).map .int)),some (.val (.int (i:Nat))),some (.val (.int ((zad b).length:Nat)))]
  obtain ⟨e2,e3,e4,e5⟩:=zrS (r:=r) (R:=R) (g:=g) (l:=l) (pl:=pl) (o5:=o5) N h6 hb hip Z2 rfl;have hc:=zqO (R:=R) (T:=T) (o3:=some (.own ((zbi pl).map .int))) (o4:=o4) (o5:=o5) (g::l);have hkid:zvP 4 Z2=.ok (toD b,Z2):=zqS (r:=r) rfl rfl hb;by_cases hp:((g::l).take (zad b).length).Perm (zad b)
  ·have e3':zhl (dTB (zpm false 3 (zab 4))) (dTB (dOp (gEq true) (dFz (zdL zd4 (dA zsB dA0))) (dFz (zdL zbh (dA (tLv 4) dA0))))) Z2=.ok (false,Z2):=by rw[e3,zsw hp];simp
   have hcall:zai F (dR (zvP 4) (dR zsB dR0)) Z2=.ok (.bl (decide ((g::l).take (zad b).length∈zaw b)),Z2):=zcX hkid e4 (IH b hbm _ hp);by_cases hr:(g::l).take (zad b).length∈zaw b
   ·rw[decide_eq_true hr] at hcall;have hlen:pl.length+1<=10:=by simp only[wan] at h10;omega
    have hbody:zln F [T,R,some (.val (tz (g::l))),some (.own ((zbi pl).map .int)),o4,o5]=.ok (.nx,[T,R,some (.val (tz ((g::l).drop (zad b).length))),some (.own ((zbi (pl++[i])).map .int)),some (.val (.int (i:Nat))),some (.val (.int ((zad b).length:Nat)))]):=by
     let Z3:Ev:=[T,R,some (.val (tz (g::l))),some (.own ((zbi (pl++[i])).map .int)),some (.val (.int (i:Nat))),some (.val (.int ((zad b).length:Nat)))]
     have y1:dEx (zeK 3 (zab 4)) Z2=.ok (.nx,Z3):=by
      have:=zqQ (i:=3) (fa:=zab 4) (Z:=Z2) (Z1:=Z2) (l0:=(zbi pl).map .int) (ds:=(zbi pl).map .int) (d:=.int (i:Nat)) rfl rfl rfl (by unfold zbi;rw[List.length_map,List.length_map];omega);refine (zhb this).trans ?_;show PV.R.ok (Fl.nx,[T,R,_,some (B.own ((zbi pl).map Dt.int++[Dt.int (i:Nat)])),_,_])=_;have:(zbi (pl++[i])).map Dt.int=(zbi pl).map Dt.int++[Dt.int (i:Nat)]:=by unfold zbi;simp
      rw[show Z3=[T,R,some (.val (tz (g::l))),some (.own ((zbi (pl++[i])).map .int)),some (.val (.int (i:Nat))),some (.val (.int ((zad b).length:Nat)))] from rfl,this]
     have a2:zab 2 Z3=.ok (tz (g::l),Z3):=rfl;have a5:zab 5 Z3=.ok (.int ((zad b).length:Nat),Z3):=rfl;have y2:zfG (zab 2) (dO1 (zab 5)) dO0 Z3=.ok (tz ((g::l).drop (zad b).length),Z3):=by refine (zkv a2 (zr7 a5) rfl).trans ?_;rw[zjU,zqb]
     rw[show zln F=za2 zrp (za2 zr8 (za2 zvD (za2 (zvM F) (za2 (dEx (zeK 3 (zab 4))) (zaX 2 (zfG (zab 2) (dO1 (zab 5)) dO0)))))) from rfl,zag e1,zag e2,zag (Z1:=Z2) (by rw[show zvD Z2=_ from zbN e3'];rfl),zag (Z1:=Z2) (by rw[show zvM F Z2=_ from zbN (zfr (za5 hcall))];rfl),zag y1];exact zaD y2 (by simp[Z3])
    have htd:((g::l).take (zad b).length++(g::l).drop (zad b).length).Nodup:=by rw[List.take_append_drop];exact hn
    rw[List.nodup_append] at htd;have hdl:((g::l).drop (zad b).length).length+1<=(g::l).length:=by rw[List.length_drop];simp only[wan] at *;omega
    have hsub:∀ x∈(g::l).drop (zad b).length,x∈g::l:=λx hx=>List.mem_of_mem_drop hx;rcases zkY N IH f ((g::l).drop (zad b).length) (pl++[i]) (some (.val (.int (i:Nat)))) (some (.val (.int ((zad b).length:Nat)))) xwo xwo htd.2.1 (λx hx=>hin x (hsub x hx)) (λj hj c hc x hx z=>by
      rcases wax.mp hj with hj|hj
      ·exact hpl j hj c hc x hx (hsub x z)
      ·rw[List.mem_singleton] at hj;subst hj;rw[hb] at hc;cases hc;exact htd.2.2 x (hp.mem_iff.mpr hx) x z rfl) (by rw[List.length_append];simp only[wan,List.length_nil] at *;omega) with ⟨a2,a3,a4,a5,ew,hno⟩|⟨pl',a4,a5,ew,h1,h2⟩
    ·left;refine ⟨a2,a3,a4,a5,(znw hc hbody).trans ew,λ⟨q,hq,hM⟩=>?_⟩;obtain ⟨q',rfl,_,h3⟩:=zhT N.A hq hbm gb hM;exact hno ⟨q',λt ht=>hq t (wah _ ht),h3⟩
    ·right;refine ⟨i::pl',a4,a5,(znw hc hbody).trans ?_,λj hj=>?_,?_⟩
     ·rw[ew,List.append_assoc];rfl
     ·rcases wap.mp hj with rfl|hj
      ·exact hi
      ·exact h1 j hj
     ·rw[zdz hb];exact zpH hr h2
   ·left;rw[decide_eq_false hr] at hcall;refine ⟨_,_,_,_,zob hc (Z2:=Z2) ?_,λ⟨q,hq,hM⟩=>?_⟩
    ·rw[show zln F=za2 zrp (za2 zr8 (za2 zvD (za2 (zvM F) (za2 (dEx (zeK 3 (zab 4))) (zaX 2 (zfG (zab 2) (dO1 (zab 5)) dO0)))))) from rfl,zag e1,zag e2,zag (Z1:=Z2) (by rw[show zvD Z2=_ from zbN e3'];rfl)];exact zby (by rw[show zvM F Z2=_ from zdw (zfr (za5 hcall))];rfl)
    ·obtain ⟨q',rfl,h3,_⟩:=zhT N.A hq hbm gb hM;exact hr h3
  ·left;have e3':zhl (dTB (zpm false 3 (zab 4))) (dTB (dOp (gEq true) (dFz (zdL zd4 (dA zsB dA0))) (dFz (zdL zbh (dA (tLv 4) dA0))))) Z2=.ok (true,Z2):=by have:(zaR ((g::l).take (zad b).length) == zaR (zad b))=false:=beq_false_of_ne λz=>hp (zpe z);rw[e3,this];rfl
   refine ⟨_,_,_,_,zob hc (Z2:=Z2) ?_,λ⟨q,hq,hM⟩=>?_⟩
   ·rw[show zln F=za2 zrp (za2 zr8 (za2 zvD (za2 (zvM F) (za2 (dEx (zeK 3 (zab 4))) (zaX 2 (zfG (zab 2) (dO1 (zab 5)) dO0)))))) from rfl,zag e1,zag e2];exact zby (by rw[show zvD Z2=_ from zdw e3'];rfl)
   ·obtain ⟨q',rfl,h3,_⟩:=zhT N.A hq hbm gb hM;exact hp (zb3 h3)
end
theorem zpV{r:Bool}{bs:List Tr}{R a2 a4 a5:Option B}{P:List Int}(hl:P.length<64):∃ a3,tEnd [some (.val (toD (.nd r bs))),R,a2,some (.own (P.map .int)),a4,a5]=.ok (.bl (!r || (zaR P == P || (zaR P).reverse == P)),[some (.val (toD (.nd r bs))),R,a2,a3,a4,a5]):=by
 let Z:Ev:=[some (.val (toD (.nd r bs))),R,a2,some (.own (P.map .int)),a4,a5]
 let Z1:Ev:=[some (.val (toD (.nd r bs))),R,a2,some (.val (.lst (P.map .int))),a4,a5]
 have hv:zab 0 Z=.ok (toD (.nd r bs),Z):=rfl;cases r with
 |false =>
  refine ⟨some (.own (P.map .int)),?_⟩;show dOr _ _ Z=_;unfold dOr;rw[zkg hv];rfl
 |true =>
  refine ⟨some (.val (.lst (P.map .int))),?_⟩;show dOr _ _ Z=_;unfold dOr;rw[zkg hv];have u0:zgC 3 Z=.ok (.lst (P.map .int),Z1):=rfl;have u1:zgC 3 Z1=.ok (.lst (P.map .int),Z1):=rfl;have s1:dFz (zdL zbh (dA (zgC 3) dA0)) Z1=.ok (.lst ((zaR P).map .int),Z1):=zaN (zgK u1 (zho hl));have s2:dFz (zgj (dFz (zdL zbh (dA (zgC 3) dA0)))) Z1=.ok (.lst ((zaR P).reverse.map .int),Z1):=by refine zaN ?_;unfold zgj;rw[s1];simp only[PV.R.bind_ok];rw[List.map_reverse]
  have s3:zdO (dA (dFz (zdL zbh (dA (zgC 3) dA0))) (dA (dFz (zgj (dFz (zdL zbh (dA (zgC 3) dA0))))) dA0)) Z1=.ok (.tup [.lst ((zaR P).map .int),.lst ((zaR P).reverse.map .int)],Z1):=zpz (zlF s1 (zlF s2 rfl)) xws;have:=zar (g:=gIn false) u0 s3 (zgU (neg:=false) (zig P) (λd hd=>by
   simp only[wap,wak,or_false] at hd;rcases hd with rfl|rfl
   ·exact zig _
   ·exact zig _)).1
  simp only[PV.R.bind_ok,Bool.not_true,Bool.false_or];refine this.trans ?_;have:inD (.lst (P.map .int)) [.lst ((zaR P).map .int),.lst ((zaR P).reverse.map .int)]=(zaR P == P || (zaR P).reverse == P):=by unfold inD;rw[List.any_cons,List.any_cons,List.any_nil,zrX,zrX,Bool.or_false]
  rw[this];rfl
theorem zvr{F:FD}{r:Bool}{bs:List Tr}{row:List Int}(N:Nod r bs)(IH:∀ b∈bs,∀ x:List Int,x.Perm (zad b)->F [.val (toD b),.val (tz x)]=.ok (.bl (decide (x∈zaw b)),[.val .non,.val .non]))(hr:row.Perm (zae bs)) :
  za0 false [false,false] 4 (zb6 F) [.val (toD (.nd r bs)),.val (tz row)]=.ok (.bl (decide (row∈zaw (.nd r bs))),[.val .non,.val .non]):=by
 let T:Option B:=some (.val (toD (.nd r bs)));let R:Option B:=some (.val (tz row));let Z0:Ev:=[T,R,none,none,none,none]
 let Z1:Ev:=[T,R,R,none,none,none]
 let Z2:Ev:=[T,R,R,some (.own []),none,none]
 have hrl:row.length<=6:=by rw[hr.length_eq];exact N.l
 have x0:dIf (dTB (zfw "int" (zab 0))) (zbd (dOp (gEq false) (zab 1) (zdO (dA (zab 0) dA0)))) dNx Z0=.ok (.nx,Z0):=by
  have:dTB (zfw "int" (zab 0)) Z0=.ok (false,Z0):=by refine za5 ?_;unfold zfw;rw[show zab 0 Z0=.ok (toD (.nd r bs),Z0) from rfl,toD];rfl
  rw[zbN this];rfl
 rcases zkY (r:=r) (F:=F) (R:=R) N IH 10 row [] none none xwo hrl (hr.symm.nodup N.A.nd) (λg hg=>hr.mem_iff.mp hg) (λi hi=>by cases hi) (by simp;omega) with ⟨a2,a3,a4,a5,ew,hno⟩|⟨pl',a4,a5,ew,h1,h2⟩
 ·have hf:decide (row∈zaw (.nd r bs))=false:=waw λz=>by obtain ⟨p,hp,hm⟩:=zbq.mp z;exact hno ⟨p,λt ht=>(zcE hp).mem_iff.mp ht,hm⟩
  rw[hf];refine zal (Z':=[T,R,a2,a3,a4,a5]) rfl ?_ rfl;show zb6 F Z0=_;rw[zqP,zag x0,zag (Z1:=Z1) rfl,zag (Z1:=Z2) rfl];exact zby ew
 ·rw[List.nil_append] at ew;have hpl:(zbi pl').length<64:=by have:=(zlb h2).length_eq;have h3:=zk8 N.A (λt=>zkk) hr h2;have:=h3.length_eq;rw[zm0 h1] at this;unfold zbi;rw[List.length_map];have:=N.k;omega
  obtain ⟨a3,ee⟩:=zpV (r:=r) (bs:=bs) (R:=R) (a2:=some (.val (tz []))) (a4:=a4) (a5:=a5) (P:=zbi pl') hpl;have hval:(!r || (zaR (zbi pl') == zbi pl' || (zaR (zbi pl')).reverse == zbi pl'))=decide (row∈zaw (.nd r bs)):=by
   cases r with
   |false =>
    rw[decide_eq_true (zuf N.A hr h1 h2)];rfl
   |true =>
    obtain ⟨h3,h4⟩:=zur N.A hr h1 h2;rw[h3,Bool.eq_iff_iff];simp only[Bool.not_true,Bool.false_or,Bool.or_eq_true,beq_iff_eq,war,h4];exact ⟨λh=>h.elim (λe=>.inl e.symm) λe=>.inr e.symm,λh=>h.elim (λe=>.inl e.symm) λe=>.inr e.symm⟩
  rw[hval] at ee;refine zal (Z':=[T,R,some (.val (tz [])),a3,a4,a5]) rfl ?_ rfl;show zb6 F Z0=_;have ew2:zbA tC (zln F) 10 Z2=.ok (.nx,[T,R,some (.val (tz [])),some (.own ((zbi pl').map .int)),a4,a5]):=ew;rw[zqP,zag x0,zag (Z1:=Z1) rfl,zag (Z1:=Z2) rfl,zag ew2];exact zaY ee
theorem zqJ:∀(n:Nat)(t:Tr),dep t<=n->dep t<=8->okT t=true->(zad t).Nodup->(zad t).length<=6->∀ row:List Int,row.Perm (zad t)->zbT n [.val (toD t),.val (tz row)]=.ok (.bl (decide (row∈zaw t)),[.val .non,.val .non])
 |0,t,h,_,_,_,_=>by cases t <;> simp[dep] at h
 |n+1,.lf g,_,_,_,_,_=>λrow hr=>by
  let Z:Ev:=[some (.val (.int g)),some (.val (tz row)),none,none,none,none]
  refine zal (Z':=Z) rfl ?_ rfl;rw[toD];show zb6 _ Z=_;rw[zqP];have a1:zab 1 Z=.ok (tz row,Z):=rfl;have a0:zdO (dA (zab 0) dA0) Z=.ok (tz [g],Z):=rfl;refine zby ?_;rw[zdw (Z1:=Z) (za5 rfl)];refine zaY (zar a1 a0 ?_);rw[zbp (zov _) (zov _),zvw,zaw];congr 2;rw[Bool.eq_iff_iff];simp
 |n+1,.nd r bs,h,h8,ho,hn,h6=>λrow hr=>by
  have hh:=zgt h ho hn;have hd8:∀ b∈bs,dep b<=8:=λb hb=>by simp only[dep] at h8;have:=zaW.mp (wal (zcY bs)) b hb;omega
  have hsub:∀ b∈bs,(zad b).length<=6:=λb hb=>by have:=zcz hb;rw[zad] at h6;omega
  have hk:bs.length<=6:=by have:=zmN bs (wal _) (by rw[okT,Bool.and_eq_true] at ho;exact ho.2);rw[zad] at h6;omega
  rw[zad] at hr h6;exact zvr (F:=zbT n) ⟨hh.1,hd8,hk,h6⟩ (λb hb x hx=>zqJ n b (hh.2 b hb).1 (hd8 b hb) (hh.2 b hb).2.1 (hh.2 b hb).2.2 (hsub b hb) x hx) hr
theorem zer{f:DN}{Z Z1:Ev}{l:List Dt}(h:f Z=.ok (l,Z1)):zeP f Z=.ok (.rt (.lst l),Z1):=by unfold zeP;rw[h];rfl
theorem zpI{t:Tr}{rs:List (List Int)}(hd:dep t<=8)(ho:okT t=true)(hn:(zad t).Nodup)(h6:(zad t).length<=6)(hl:rs.length<=1000)(hr:∀ r∈rs,r.Perm (zad t)) :
  zaP [.val (toD t),.val (.lst (lp rs))]=.ok (.lst (lp (rs.filter λr=>decide (r∈zaw t))),[.val .non,.val .non]):=by
 let Z:Ev:=[some (.val (toD t)),some (.val (.lst (lp rs)))]
 refine zal (Z':=Z) rfl ?_ rfl;refine zer ?_;refine (zch (u:=tz) (f:=tz) (p:=λr=>decide (r∈zaw t)) (l:=rs) (ds:=lp rs) rfl rfl rfl xwo (λr hr'=>?_) λr hr' _=>rfl).trans rfl;have a0:zab 0 (Z++[some (.val (tz r))])=.ok (toD t,Z++[some (.val (tz r))]):=rfl;have a2:zab 2 (Z++[some (.val (tz r))])=.ok (tz r,Z++[some (.val (tz r))]):=rfl;exact za5 (zcX a0 a2 (zqJ 8 t hd hd ho hn h6 r (hr r hr')))
theorem zdb{α β:Type}{F:α->β->Prop}:∀{l:List α}{r:List β},Paired F l r->Paired F l.reverse r.reverse
 |_,_,.nil=>.nil
 |_,_,.cons h t=>by rw[List.reverse_cons,List.reverse_cons];exact zga h (zdb t)
theorem zhC{α β:Type}{F F':α->β->Prop}{g:α->α}:∀{l:List α}{r:List β},Paired F l r->(∀ a b,F a b->F' (g a) b)->Paired F' (l.map g) r
 |_,_,.nil,_=>.nil
 |_,_,.cons h t,H=>.cons (H _ _ h) (zhC t H)
theorem znT:∀ ys:List (List Int),(ys.reverse.map List.reverse).flatten=ys.flatten.reverse
 |[]=>rfl
 |y::ys=>by rw[List.reverse_cons,List.map_append,List.flatten_append,znT ys,List.flatten_cons,List.reverse_append];simp
theorem zuY{r:Bool}{bs p:List Tr}(h:p∈arr r bs):p.reverse∈arr r bs:=by
 cases r with
 |false=>exact (zdi _ _ _ rfl).mpr ((List.reverse_perm p).trans (zcE h))
 |true =>
  have:p=bs\/p=bs.reverse:=by simpa [arr] using h
  rcases this with rfl|rfl
  ·simp[arr]
  ·simp[arr]
theorem zqy:∀(n:Nat)(t:Tr),dep t<=n->∀ x∈zaw t,x.reverse∈zaw t
 |0,t,h,_,_=>by cases t <;> simp[dep] at h
 |n+1,.lf g,_,x,hx=>by rw[zaw,List.mem_singleton] at hx;subst hx;rw[zaw];simp
 |n+1,.nd r bs,h,x,hx=>by
  simp only[dep] at h;have hd:=zaW.mp (by omega:zcY bs<=n);obtain ⟨p,hp,ys,h1,rfl⟩:=zbq.mp hx;refine zbq.mpr ⟨p.reverse,zuY hp,ys.reverse.map List.reverse,?_,znT ys⟩;have:Paired (λy t=>y∈zaw t/\dep t<=n) ys p:=by
   have pb:∀ t∈p,dep t<=n:=λt ht=>hd t ((zcE hp).mem_iff.mp ht);clear hx hp
   induction h1 with
   |nil=>exact .nil
   |cons h t ih=>exact .cons ⟨h,pb _ wau⟩ (ih λu hu=>pb u (wah _ hu))
  exact zhC (zdb this) λa b hab=>zqy n b hab.2 a hab.1
theorem zk1{t:Tr}{x:List Int}(h:x∈zaw t):x.reverse∈zaw t:=zqy _ t (wal _) x h
structure zdv(t:Tr):Prop where
 o:okT t=true
 n:(zad t).Nodup
theorem zdv.kids{r:Bool}{bs:List Tr}(h:zdv (.nd r bs)):zih bs/\(∀ b∈bs,zdv b)/\(if r then 3 else 2)<=bs.length:=by obtain ⟨A,H⟩:=zgt (Nat.le_succ _) h.o h.n;have:=h.o;rw[okT,Bool.and_eq_true,decide_eq_true_eq] at this;exact ⟨A,λb hb=>⟨(H b hb).2.1,(H b hb).2.2⟩,this.1⟩
theorem zee{α β:Type}{F:α->β->Prop}:∀{l1 l2:List α}{p1 p2:List β},Paired F l1 p1->Paired F l2 p2->Paired F (l1++l2) (p1++p2)
 |_,_,_,_,.nil,h=>h
 |_,_,_,_,.cons h t,h'=>.cons h (zee t h')
section
variable{α:Type}{N A:α->Prop}
noncomputable def RLg(N A:α->Prop)(r:List α):Prop:=∃ u v,r=u++v/\(∀ g∈u,N g)/\∀ g∈v,A g
noncomputable def Ctg(N A:α->Prop)(r:List α):Prop:=∃ u v w,r=u++v++w/\(∀ g∈u,N g)/\(∀ g∈v,A g)/\∀ g∈w,N g
theorem zaJ{P:α->Prop}{a b:List α}:(∀ g∈a++b,P g) ↔ (∀ g∈a,P g)/\∀ g∈b,P g:=List.forall_mem_append
theorem zbO{P:α->Prop}{a:List α}:(∀ g∈a.reverse,P g) ↔ ∀ g∈a,P g:=by simp
theorem zx6(dj:∀ g,N g->¬ A g){a:List α}(h1:∀ g∈a,N g)(h2:∀ g∈a,A g):a=[]:=by
 cases a with
 |nil=>rfl
 |cons g r=>exact absurd (h2 g wau) (dj g (h1 g wau))
theorem zwb{a:List α}(h:∀ g∈a,N g):RLg N A a:=⟨a,[],xws,h,xws⟩
theorem zqu{a:List α}(h:∀ g∈a,A g):RLg N A a:=⟨[],a,rfl,xws,h⟩
theorem zjH(dj:∀ g,N g->¬ A g){x y z:List α}(hx:∀ g∈x,N g)(hy:¬ ∀ g∈y,N g):RLg N A (x++(y++z)) ↔ RLg N A y/\∀ g∈z,A g:=by
 constructor
 ·rintro ⟨u,v,e,hu,hv⟩;rcases List.append_eq_append_iff.mp e with ⟨a,rfl,e2⟩|⟨a,rfl,e2⟩
  ·rcases List.append_eq_append_iff.mp e2 with ⟨b,rfl,rfl⟩|⟨b,rfl,e4⟩
   ·exact absurd (zaJ.mp (zaJ.mp hu).2).1 hy
   ·rw[e4] at hv;exact ⟨⟨a,b,rfl,(zaJ.mp hu).2,(zaJ.mp hv).1⟩,(zaJ.mp hv).2⟩
  ·rw[e2] at hv;have ha:=zx6 dj (zaJ.mp hx).2 (zaJ.mp hv).1;subst ha;have:=zaJ.mp (zaJ.mp hv).2;exact ⟨zqu this.1,this.2⟩
 ·rintro ⟨⟨u,v,rfl,hu,hv⟩,hz⟩;exact ⟨x++u,v++z,xws,zaJ.mpr ⟨hx,hu⟩,zaJ.mpr ⟨hv,hz⟩⟩
theorem zj5(dj:∀ g,N g->¬ A g){x s:List α}(hx:∀ g∈x,N g)(hs:¬ ∀ g∈s,N g):Ctg N A (x++s) ↔ Ctg N A s:=by
 constructor
 ·rintro ⟨u,v,w,e,hu,hv,hw⟩;rw[List.append_assoc] at e;rcases List.append_eq_append_iff.mp e with ⟨a,rfl,rfl⟩|⟨a,rfl,e2⟩
  ·exact ⟨a,v,w,xws,(zaJ.mp hu).2,hv,hw⟩
  ·rcases List.append_eq_append_iff.mp e2 with ⟨b,rfl,rfl⟩|⟨b,rfl,rfl⟩
   ·exact absurd (zaJ.mp hw).2 hs
   ·exact ⟨[],b,w,xws,xws,(zaJ.mp hv).2,hw⟩
 ·rintro ⟨u,v,w,rfl,hu,hv,hw⟩;exact ⟨x++u,v,w,xws,zaJ.mpr ⟨hx,hu⟩,hv,hw⟩
theorem zko{y t:List α}(hy:¬ ∀ g∈y,N g)(ht:¬ ∀ g∈t,N g):Ctg N A (y++t) ↔ RLg N A y/\RLg N A t.reverse:=by
 constructor
 ·rintro ⟨u,v,w,e,hu,hv,hw⟩;rcases List.append_eq_append_iff.mp e with ⟨a,e1,e2⟩|⟨a,e1,e2⟩
  ·subst e2;have hr:RLg N A (a++w).reverse:=⟨w.reverse,a.reverse,xws,zbO.mpr hw,?_⟩
   ·refine ⟨?_,hr⟩;rcases List.append_eq_append_iff.mp e1 with ⟨b,rfl,rfl⟩|⟨b,rfl,rfl⟩
    ·exact ⟨u,b,rfl,hu,(zaJ.mp hv).1⟩
    ·exact absurd (zaJ.mp hu).1 hy
   ·rcases List.append_eq_append_iff.mp e1 with ⟨b,rfl,rfl⟩|⟨b,rfl,rfl⟩
    ·exact zbO.mpr (zaJ.mp hv).2
    ·exact absurd (zaJ.mp hu).1 hy
  ·subst e2;exact absurd (zaJ.mp hw).2 ht
 ·rintro ⟨⟨u,v,rfl,hu,hv⟩,⟨a,b,e,ha,hb⟩⟩;have:t=b.reverse++a.reverse:=by rw[<- List.reverse_reverse t,e];simp
  subst this;exact ⟨u,v++b.reverse,a.reverse,xws,hu,zaJ.mpr ⟨hv,zbO.mpr hb⟩,zbO.mpr ha⟩
end
noncomputable abbrev No(p r:List Int):Prop:=∀ g∈r,g∉p
noncomputable abbrev Al(p r:List Int):Prop:=∀ g∈r,g∈p
noncomputable abbrev RL(p r:List Int):Prop:=RLg (λg=>g∉p) (λg=>g∈p) r
noncomputable abbrev Ct(p r:List Int):Prop:=Ctg (λg=>g∉p) (λg=>g∈p) r
theorem ztK{p:List Int}:∀ g:Int,g∉p->¬ g∈p:=λ_ h=>h
variable{p:List Int}
noncomputable def sh(p:List Int)(t:Tr):Nat:=if ∀ g∈zad t,g∉p then 0 else if ∀ g∈zad t,g∈p then 2 else 1
theorem zoh{t:Tr}:sh p t=0 ↔ No p (zad t):=by
 unfold sh;split
 ·rename_i h;exact ⟨λ_=>h,λ_=>rfl⟩
 ·rename_i h;split
  ·exact ⟨λe=>(by cases e),λe=>absurd e h⟩
  ·exact ⟨λe=>(by cases e),λe=>absurd e h⟩
theorem ztV{t:Tr}(hne:zad t≠[]):sh p t=2 ↔ Al p (zad t):=by
 unfold sh;split
 ·rename_i h;exact ⟨λe=>(by cases e),λe=>absurd (zx6 ztK h e) hne⟩
 ·split
  ·rename_i h;exact ⟨λ_=>h,λ_=>rfl⟩
  ·rename_i h;exact ⟨λe=>(by cases e),λe=>absurd e h⟩
theorem zk5(t:Tr):sh p t=0\/sh p t=1\/sh p t=2:=by
 unfold sh;split
 ·exact .inl rfl
 ·split
  ·exact .inr (.inr rfl)
  ·exact .inr (.inl rfl)
theorem zgo{t:Tr}{y:List Int}(h:y∈zaw t):No p y ↔ sh p t=0:=by rw[zoh];have:=zb3 h;exact ⟨λq g hg=>q g (this.mem_iff.mpr hg),λq g hg=>q g (this.mem_iff.mp hg)⟩
theorem zn6{t:Tr}{y:List Int}(hne:zad t≠[])(h:y∈zaw t):Al p y ↔ sh p t=2:=by rw[ztV hne];have:=zb3 h;exact ⟨λq g hg=>q g (this.mem_iff.mpr hg),λq g hg=>q g (this.mem_iff.mp hg)⟩
theorem zmi{r:List Int}:zb9 r [] ↔ r=[]:=by
 constructor
 ·rintro ⟨ys,h,rfl⟩;cases h;rfl
 ·rintro rfl;exact ⟨[],.nil,rfl⟩
theorem zap{r:List Int}{l m:List Tr}:zb9 r (l++m) ↔ ∃ a b,r=a++b/\zb9 a l/\zb9 b m:=by
 constructor
 ·rintro ⟨ys,h,rfl⟩;have key:∀{l:List Tr}{ys:List (List Int)},Paired (λy t=>y∈zaw t) ys (l++m)->∃ as bs,ys=as++bs/\Paired (λy t=>y∈zaw t) as l/\Paired (λy t=>y∈zaw t) bs m:=λ{l}=>by
   induction l with
   |nil=>intro ys h;exact ⟨[],ys,rfl,.nil,h⟩
   |cons t l ih =>
    intro ys h;cases h with
    |cons h1 h2 =>
     obtain ⟨as,bs,rfl,h3,h4⟩:=ih h2;exact ⟨_::as,bs,rfl,.cons h1 h3,h4⟩
  obtain ⟨as,bs,rfl,h1,h2⟩:=key h;exact ⟨as.flatten,bs.flatten,xws,⟨as,h1,rfl⟩,⟨bs,h2,rfl⟩⟩
 ·rintro ⟨a,b,rfl,⟨as,h1,rfl⟩,⟨bs,h2,rfl⟩⟩;exact ⟨as++bs,zee h1 h2,xws⟩
theorem zdA{r:List Int}{t:Tr}:zb9 r [t] ↔ r∈zaw t:=by
 constructor
 ·rintro ⟨ys,h,rfl⟩;cases h with|cons h1 h2=>cases h2;simpa using h1
 ·intro h;exact ⟨[r],.cons h .nil,xws⟩
theorem zba{r:List Int}{t:Tr}{l:List Tr}:zb9 r (t::l) ↔ ∃ a b,r=a++b/\a∈zaw t/\zb9 b l:=by rw[show t::l=[t]++l from rfl,zap];simp only[zdA]
theorem zfy{l:List Tr}:∀{r:List Int},zb9 r l.reverse ↔ zb9 r.reverse l:=λ{r}=>by
 have key:∀{l:List Tr}{r:List Int},zb9 r l->zb9 r.reverse l.reverse:=λ{l}=>by
  induction l with
  |nil=>intro r h;rw[zmi.mp h];exact zmi.mpr rfl
  |cons t l ih =>
   intro r h;obtain ⟨a,b,rfl,h1,h2⟩:=zba.mp h;rw[List.reverse_cons,List.reverse_append];exact zap.mpr ⟨_,_,rfl,ih h2,zdA.mpr (zk1 h1)⟩
 constructor
 ·intro h;have:=key h;rwa [List.reverse_reverse] at this
 ·intro h;have:=key h;rwa [List.reverse_reverse] at this
noncomputable def bun(l:List Tr):List Tr:=if l.length<2 then l else [.nd false l]
theorem zcc{l:List Tr}{r:List Int}:zb9 r (bun l) ↔ ∃ q,q.Perm l/\zb9 r q:=by
 unfold bun;split
 ·rename_i h;constructor
  ·intro q;exact ⟨l,.refl _,q⟩
  ·rintro ⟨q,hp,hm⟩;have:q=l:=by
    match l,h with
    |[],_=>exact hp.eq_nil
    |[a],_=>exact hp.eq_singleton
   rw[this] at hm;exact hm
 ·rw[zdA,zbq];constructor
  ·rintro ⟨q,hq,hm⟩;exact ⟨q,zcE hq,hm⟩
  ·rintro ⟨q,hq,hm⟩;refine ⟨q,?_,hm⟩;unfold arr;rw[if_neg xws];exact (zdi _ _ _ rfl).mpr hq
theorem zcq{l:List Tr}:∀{r:List Int},zb9 r l->(∀ x∈l,sh p x=0)->No p r:=λ{r} h hl=>by
 induction l generalizing r with
 |nil=>rw[zmi.mp h];exact λg hg=>by cases hg
 |cons t l ih =>
  obtain ⟨a,b,rfl,h1,h2⟩:=zba.mp h;exact zaJ.mpr ⟨(zgo h1).mpr (hl t wau),ih h2 λx hx=>hl x (wah _ hx)⟩
theorem zmS{l:List Tr}(hne:∀ x∈l,zad x≠[]):∀{r:List Int},zb9 r l->(Al p r ↔ ∀ x∈l,sh p x=2):=λ{r} h=>by
 induction l generalizing r with
 |nil=>rw[zmi.mp h];exact ⟨λ_ x hx=>(by cases hx),λ_ g hg=>by cases hg⟩
 |cons t l ih =>
  obtain ⟨a,b,rfl,h1,h2⟩:=zba.mp h;have e1:=zn6 (p:=p) (hne t wau) h1;have e2:=ih (λx hx=>hne x (wah _ hx)) h2;rw[List.forall_mem_cons,<- e1,<- e2];exact zaJ
variable{p:List Int}
noncomputable abbrev NA(p:List Int)(l:List Tr):Prop:=RLg (λx=>sh p x=0) (λx=>sh p x=2) l
noncomputable abbrev NAN(p:List Int)(l:List Tr):Prop:=Ctg (λx=>sh p x=0) (λx=>sh p x=2) l
theorem zxj:∀ x:Tr,sh p x=0->¬ sh p x=2:=λx h e=>by rw[h] at e;cases e
theorem zbR{t:Tr}(h:zdv t):zad t≠[]:=zbG _ t (wal _) h.o
structure zcj(p:List Int)(t:Tr)(pc:List Tr):Prop where
 pure:∀ x∈pc,sh p x=0\/sh p x=2
 ok:∀ x∈pc,zdv x
 lv:(zae pc).Perm (zad t)
 yes:NA p pc->∀ r,zb9 r pc ↔ (r∈zaw t/\RL p r)
 no:¬ NA p pc->∀ r∈zaw t,¬ RL p r
theorem zcj.self{t:Tr}(h:zdv t)(hs:sh p t≠1):zcj p t [t]:=by
 have h02:sh p t=0\/sh p t=2:=by
  rcases zk5 (p:=p) t with e|e|e
  ·exact .inl e
  ·exact absurd e hs
  ·exact .inr e
 have na:NA p [t]:=by
  rcases h02 with e|e
  ·exact zwb λx hx=>by rw[List.mem_singleton.mp hx];exact e
  ·exact zqu λx hx=>by rw[List.mem_singleton.mp hx];exact e
 refine ⟨λx hx=>by rw[List.mem_singleton.mp hx];exact h02,λx hx=>by rw[List.mem_singleton.mp hx];exact h,by simp[zae],λ_ r=>?_,λn=>absurd na n⟩;rw[zdA];refine ⟨λhr=>⟨hr,?_⟩,λhr=>hr.1⟩;rcases h02 with e|e
 ·exact zwb ((zgo hr).mpr e)
 ·exact zqu ((zn6 (zbR h) hr).mpr e)
theorem zcj.has{t:Tr}{pc:List Tr}(L:zcj p t pc)(h:sh p t≠0):¬ ∀ x∈pc,sh p x=0:=λz=>h (zoh.mpr λg hg=>by obtain ⟨x,hx,gx⟩:=zaQ.mp (L.lv.mem_iff.mpr hg);exact zoh.mp (z x hx) g gx)
theorem zcj.all{t:Tr}{pc:List Tr}(L:zcj p t pc)(ht:zdv t)(h:∀ x∈pc,sh p x=2):sh p t=2:=(ztV (zbR ht)).mpr λg hg=>by obtain ⟨x,hx,gx⟩:=zaQ.mp (L.lv.mem_iff.mpr hg);exact (ztV (zbR (L.ok x hx))).mp (h x hx) g gx
section
variable{f:Tr->List Tr}
structure LOK(p:List Int)(f:Tr->List Tr)(l:List Tr):Prop where
 lean:∀ x∈l,zcj p x (f x)
 one:∀ x∈l,sh p x≠1->f x=[x]
 ok:∀ x∈l,zdv x
theorem LOK.sub{l m:List Tr}(h:LOK p f l)(hs:∀ x∈m,x∈l):LOK p f m:=⟨λx hx=>h.lean x (hs x hx),λx hx=>h.one x (hs x hx),λx hx=>h.ok x (hs x hx)⟩
noncomputable abbrev rv(f:Tr->List Tr)(l:List Tr):List Tr:=l.flatMap λx=>(f x).reverse
theorem ztD{l:List Tr}(h:LOK p f l):(∀ y∈rv f l,sh p y=2) ↔ ∀ x∈l,sh p x=2:=by
 constructor
 ·intro q x hx;exact (h.lean x hx).all (h.ok x hx) λy hy=>q y (List.mem_flatMap.mpr ⟨x,hx,List.mem_reverse.mpr hy⟩)
 ·intro q y hy;obtain ⟨x,hx,hy'⟩:=List.mem_flatMap.mp hy;have e:=q x hx;rw[h.one x hx (by rw[e];decide)] at hy';rw[List.mem_singleton.mp hy'];exact e
theorem zmQ{l:List Tr}(h:LOK p f l)(hq:∀ x∈l,sh p x≠1):rv f l=l:=by
 induction l with
 |nil=>rfl
 |cons x l ih =>
  show (f x).reverse++rv f l=_;rw[h.one x List.mem_cons_self (hq x List.mem_cons_self),ih (h.sub λy hy=>List.mem_cons_of_mem _ hy) λy hy=>hq y (List.mem_cons_of_mem _ hy)];rfl
theorem zrT{A B:List Tr}{b:Tr}(hA:∀ x∈A,sh p x=0)(hb:sh p b≠0)(Lb:zcj p b (f b))(LB:LOK p f B) :
  (NA p (A++(f b++rv f B))->∀ r,zb9 r (A++(f b++rv f B)) ↔ zb9 r (A++b::B)/\RL p r)/\(¬ NA p (A++(f b++rv f B))->∀ r,zb9 r (A++b::B)->¬ RL p r):=by
 have key:NA p (A++(f b++rv f B)) ↔ NA p (f b)/\∀ x∈B,sh p x=2:=by rw[NA,zjH zxj hA (Lb.has hb),ztD LB]
 have word:∀{a c d:List Int},zb9 a A->c∈zaw b->zb9 d B->(RL p (a++(c++d)) ↔ RL p c/\∀ x∈B,sh p x=2):=λ{a c d} h1 h2 h3=>by rw[RL,zjH ztK (zcq h1 hA) λz=>hb ((zgo h2).mp z)];exact and_congr_right λ_=>zmS (λx hx=>zbR (LB.ok x hx)) h3
 constructor
 ·intro na r;obtain ⟨n1,n2⟩:=key.mp na;rw[zmQ LB λx hx=>by rw[n2 x hx];decide];constructor
  ·intro h;obtain ⟨a,r2,rfl,h1,h2⟩:=zap.mp h;obtain ⟨c,d,rfl,h3,h4⟩:=zap.mp h2;obtain ⟨h5,h6⟩:=(Lb.yes n1 c).mp h3;exact ⟨zap.mpr ⟨a,_,rfl,h1,zba.mpr ⟨c,d,rfl,h5,h4⟩⟩,(word h1 h5 h4).mpr ⟨h6,n2⟩⟩
  ·rintro ⟨h,hr⟩;obtain ⟨a,r2,rfl,h1,h2⟩:=zap.mp h;obtain ⟨c,d,rfl,h3,h4⟩:=zba.mp h2;exact zap.mpr ⟨a,_,rfl,h1,zap.mpr ⟨c,d,rfl,(Lb.yes n1 c).mpr ⟨h3,((word h1 h3 h4).mp hr).1⟩,h4⟩⟩
 ·intro na r h hr;obtain ⟨a,r2,rfl,h1,h2⟩:=zap.mp h;obtain ⟨c,d,rfl,h3,h4⟩:=zba.mp h2;obtain ⟨q1,q2⟩:=(word h1 h3 h4).mp hr;refine na (key.mpr ⟨Classical.byContradiction λz=>Lb.no z c h3 q1,q2⟩)
theorem zh0{t:Tr}{y:List Int}:y.reverse∈zaw t ↔ y∈zaw t:=⟨λh=>by have:=zk1 h;rwa [List.reverse_reverse] at this,zk1⟩
theorem zqF{A M Zq:List Tr}{b c:Tr}(hA:∀ x∈A,sh p x=0)(hb:sh p b≠0)(hc:sh p c≠0)(hZ:∀ x∈Zq,sh p x=0)(hM:∀ x∈M,zdv x){a y m z w:List Int}(h1:zb9 a A)(h2:y∈zaw b)(h3:zb9 m M)(h4:z∈zaw c)(h5:zb9 w Zq):Ct p (a++(y++(m++(z++w)))) ↔ RL p y/\RL p z.reverse/\∀ x∈M,sh p x=2:=by have hy:¬ No p y:=λq=>hb ((zgo h2).mp q);have hz:¬ No p z:=λq=>hc ((zgo h4).mp q);rw[Ct,zj5 ztK (zcq h1 hA) (λq=>hy (zaJ.mp q).1),zko hy (λq=>hz (zaJ.mp (zaJ.mp q).2).1)];refine and_congr_right λ_=>?_;rw[show (m++(z++w)).reverse=w.reverse++(z.reverse++m.reverse) by simp,zjH ztK (zbO.mpr (zcq h5 hZ)) (λq=>hz (zbO.mp q)),zbO];exact and_congr_right λ_=>zmS (λx hx=>zbR (hM x hx)) h3
theorem zp7{A M Zq:List Tr}{b c:Tr}(hA:∀ x∈A,sh p x=0)(hb:sh p b≠0)(hc:sh p c≠0)(hZ:∀ x∈Zq,sh p x=0)(Lb:zcj p b (f b))(Lc:zcj p c (f c))(LM:LOK p f M) :
  (NAN p (A++(f b++(rv f M++((f c).reverse++Zq))))->∀ r,zb9 r (A++(f b++(rv f M++((f c).reverse++Zq)))) ↔ zb9 r (A++b::(M++c::Zq))/\Ct p r) /\
  (¬ NAN p (A++(f b++(rv f M++((f c).reverse++Zq))))->∀ r,zb9 r (A++b::(M++c::Zq))->¬ Ct p r):=by
 have hasC:¬ ∀ x∈rv f M++((f c).reverse++Zq),sh p x=0:=λz=>Lc.has hc (zbO.mp (zaJ.mp (zaJ.mp z).2).1);have key:NAN p (A++(f b++(rv f M++((f c).reverse++Zq)))) ↔ NA p (f b)/\NA p (f c)/\∀ x∈M,sh p x=2:=by rw[NAN,zj5 zxj hA (λz=>Lb.has hb (zaJ.mp z).1),zko (Lb.has hb) hasC];refine and_congr_right λ_=>?_;rw[show (rv f M++((f c).reverse++Zq)).reverse=Zq.reverse++(f c++(rv f M).reverse) by simp,zjH zxj (zbO.mpr hZ) (Lc.has hc),zbO,ztD LM]
 have word:∀{a y m z w:List Int},zb9 a A->y∈zaw b->zb9 m M->z∈zaw c->zb9 w Zq->(Ct p (a++(y++(m++(z++w)))) ↔ RL p y/\RL p z.reverse/\∀ x∈M,sh p x=2):=λh1 h2 h3 h4 h5=>zqF hA hb hc hZ LM.ok h1 h2 h3 h4 h5;constructor
 ·intro na r;obtain ⟨n1,n2,n3⟩:=key.mp na;rw[zmQ LM λx hx=>by rw[n3 x hx];decide];constructor
  ·intro h;obtain ⟨a,r2,rfl,h1,h2⟩:=zap.mp h;obtain ⟨y,r3,rfl,h3,h4⟩:=zap.mp h2;obtain ⟨m,r4,rfl,h5,h6⟩:=zap.mp h4;obtain ⟨z,w,rfl,h7,h8⟩:=zap.mp h6;obtain ⟨q1,q2⟩:=(Lb.yes n1 y).mp h3;obtain ⟨q3,q4⟩:=(Lc.yes n2 _).mp (zfy.mp h7);have q3':=zh0.mp q3;exact ⟨zap.mpr ⟨a,_,rfl,h1,zba.mpr ⟨y,_,rfl,q1,zap.mpr ⟨m,_,rfl,h5,zba.mpr ⟨z,w,rfl,q3',h8⟩⟩⟩⟩,(word h1 q1 h5 q3' h8).mpr ⟨q2,q4,n3⟩⟩
  ·rintro ⟨h,hr⟩;obtain ⟨a,r2,rfl,h1,h2⟩:=zap.mp h;obtain ⟨y,r3,rfl,h3,h4⟩:=zba.mp h2;obtain ⟨m,r4,rfl,h5,h6⟩:=zap.mp h4;obtain ⟨z,w,rfl,h7,h8⟩:=zba.mp h6;obtain ⟨q1,q2,_⟩:=(word h1 h3 h5 h7 h8).mp hr;exact zap.mpr ⟨a,_,rfl,h1,zap.mpr ⟨y,_,rfl,(Lb.yes n1 y).mpr ⟨h3,q1⟩,zap.mpr ⟨m,_,rfl,h5,zap.mpr ⟨z,w,rfl,zfy.mpr ((Lc.yes n2 _).mpr ⟨zh0.mpr h7,q2⟩),h8⟩⟩⟩⟩
 ·intro na r h hr;obtain ⟨a,r2,rfl,h1,h2⟩:=zap.mp h;obtain ⟨y,r3,rfl,h3,h4⟩:=zba.mp h2;obtain ⟨m,r4,rfl,h5,h6⟩:=zap.mp h4;obtain ⟨z,w,rfl,h7,h8⟩:=zba.mp h6;obtain ⟨q1,q2,q3⟩:=(word h1 h3 h5 h7 h8).mp hr;refine na (key.mpr ⟨Classical.byContradiction λe=>Lb.no e y h3 q1,Classical.byContradiction λe=>Lc.no e _ (zh0.mpr h7) q2,q3⟩)
end
variable{p:List Int}
section
variable{f:Tr->List Tr}
noncomputable def zbg(f:Tr->List Tr)(p:List Int):List Tr->List Tr->List Tr
 |acc,[]=>acc
 |acc,b::os=>zbg f p (acc++(if (acc.any λx=>sh p x == 2)=true then (f b).reverse else f b)) os
theorem zlf:∀(os acc:List Tr),(acc.any λx=>sh p x == 2)=true->zbg f p acc os=acc++rv f os
 |[],acc,_=>by simp[zbg,rv]
 |b::os,acc,h=>by rw[zbg,if_pos h,zlf os _ (by rw[List.any_append,h];rfl)];simp[rv]
theorem zlk:∀(A os acc:List Tr),(∀ x∈A,sh p x=0)->(∀ x∈A,f x=[x])->(∀ x∈acc,sh p x=0)->zbg f p acc (A++os)=zbg f p (acc++A) os
 |[],os,acc,_,_,_=>by simp
 |a::A,os,acc,h1,h2,h3=>by
  have hn:¬ (acc.any λx=>sh p x == 2)=true:=λz=>by obtain ⟨x,hx,e⟩:=List.any_eq_true.mp z;rw[h3 x hx] at e;cases e
  rw[List.cons_append,zbg,if_neg hn,h2 a List.mem_cons_self,zlk A os _ (λx hx=>h1 x (List.mem_cons_of_mem _ hx)) (λx hx=>h2 x (List.mem_cons_of_mem _ hx)) λx hx=>by
   rcases List.mem_append.mp hx with z|z
   ·exact h3 x z
   ·rw[List.mem_singleton.mp z];exact h1 a wau]
  simp
theorem znp{A B:List Tr}{b:Tr}(hA:∀ x∈A,sh p x=0)(hb:sh p b≠0)(L:LOK p f (A++b::B)):zbg f p [] (A++b::B)=A++(f b++rv f B):=by
 have Lb:=L.lean b xws;rw[zlk A _ [] hA (λx hx=>L.one x (by simp[hx]) (by rw[hA x hx];decide)) xws,List.nil_append,zbg];have hn:¬ (A.any λx=>sh p x == 2)=true:=λz=>by obtain ⟨x,hx,e⟩:=List.any_eq_true.mp z;rw[hA x hx] at e;cases e
 rw[if_neg hn,zlf,List.append_assoc];rw[List.any_append,Bool.or_eq_true];refine .inr ?_;refine Classical.byContradiction λz=>Lb.has hb λx hx=>?_;rcases Lb.pure x hx with e|e
 ·exact e
 ·exact absurd (List.any_eq_true.mpr ⟨x,hx,by rw[e];rfl⟩) z
end
theorem zcO:∀{os:List Tr},(¬ ∀ x∈os,sh p x=0)->∃ A b B,os=A++b::B/\(∀ x∈A,sh p x=0)/\sh p b≠0
 |[],h=>absurd xws h
 |x::os,h=>by
  by_cases hx:sh p x=0
  ·obtain ⟨A,b,B,rfl,h1,h2⟩:=zcO (os:=os) λz=>h λy hy=>by
    rcases wap.mp hy with rfl|hy
    ·exact hx
    ·exact z y hy
   exact ⟨x::A,b,B,rfl,λy hy=>by
    rcases wap.mp hy with rfl|hy
    ·exact hx
    ·exact h1 y hy,h2⟩
  ·exact ⟨[],x,os,rfl,xws,hx⟩
theorem znB{os:List Tr}(h:¬ ∀ x∈os,sh p x=0):∃ M c Zq,os=M++c::Zq/\(∀ x∈Zq,sh p x=0)/\sh p c≠0:=by obtain ⟨A,b,B,e,h1,h2⟩:=zcO (os:=os.reverse) λz=>h (zbO.mp z);refine ⟨B.reverse,b,A.reverse,?_,zbO.mpr h1,h2⟩;rw[<- List.reverse_reverse os,e];simp
theorem zpw{A B:List Tr}{b:Tr}{r:List Int}(hA:∀ x∈A,sh p x=0)(hb:sh p b≠0)(hB:∀ x∈B,zdv x)(h:zb9 r (A++b::B))(hr:RL p r):∀ x∈B,sh p x=2:=by obtain ⟨a,r2,rfl,h1,h2⟩:=zap.mp h;obtain ⟨c,d,rfl,h3,h4⟩:=zba.mp h2;exact (zmS (λx hx=>zbR (hB x hx)) h4).mp ((zjH ztK (zcq h1 hA) λz=>hb ((zgo h3).mp z)).mp hr).2
noncomputable abbrev ws(p:List Int)(k:Nat)(l:List Tr):List Tr:=l.filter λb=>sh p b == k
theorem zcK{k:Nat}{l:List Tr}{x:Tr}:x∈ws p k l ↔ x∈l/\sh p x=k:=by rw[List.mem_filter,beq_iff_eq]
theorem zcJ:∀ bs:List Tr,(ws p 0 bs++(ws p 1 bs++ws p 2 bs)).Perm bs
 |[]=>.refl _
 |b::bs=>by
  have ih:=zcJ bs;have c:∀ k,ws p k (b::bs)=if sh p b=k then b::ws p k bs else ws p k bs:=λk=>by
   show List.filter _ (b::bs)=_;rw[List.filter_cons];by_cases h:sh p b=k
   ·rw[if_pos (by simpa using h),if_pos h]
   ·rw[if_neg (by simpa using h),if_neg h]
  rw[c,c,c];rcases zk5 (p:=p) b with e|e|e
  ·rw[e,if_pos rfl,if_neg xwd,if_neg xwd];exact .cons b ih
  ·rw[e,if_neg xwd,if_pos rfl,if_neg xwd];exact List.perm_middle.trans (.cons b ih)
  ·rw[e,if_neg xwd,if_neg xwd,if_pos rfl];refine (List.Perm.append_left _ List.perm_middle).trans (List.perm_middle.trans (.cons b ih))
noncomputable def zb1(p:List Int)(r:Bool)(bs:List Tr):List Tr :=
 if r=true then (if sh p (bs.headD (.lf 0)) > sh p (bs.getLastD (.lf 0)) then bs.reverse else bs) else bun (ws p 0 bs)++(ws p 1 bs++bun (ws p 2 bs))
theorem zlC{os:List Tr}{r:List Int}(hl:2<=os.length)(ho:∀ x∈os,zdv x)(hle:¬ sh p (os.headD (.lf 0)) > sh p (os.getLastD (.lf 0)))(hn:¬ ∀ x∈os,sh p x=0)(h2:¬ ∀ x∈os,sh p x=2)(h:zb9 r os.reverse)(hr:RL p r):False:=by
 obtain ⟨A,b,B,e,hA,hb⟩:=zcO (os:=os.reverse) λz=>hn (zbO.mp z);rw[e] at h;have hB:=zpw hA hb (λx hx=>ho x (List.mem_reverse.mp (by rw[e];simp[hx]))) h hr;have e':os=B.reverse++b::A.reverse:=by rw[<- List.reverse_reverse os,e];simp
 subst e';cases A with
 |cons a A =>
  have e1:(B.reverse++b::(a::A).reverse).getLastD (.lf 0)=a:=by
   have:B.reverse++b::(a::A).reverse=(B.reverse++b::A.reverse)++[a]:=by simp
   rw[this,List.getLastD_eq_getLast?,List.getLast?_append];rfl
  rw[e1,hA a List.mem_cons_self] at hle;cases hB':B.reverse with
  |nil =>
   rw[hB'] at hle;have:sh p b > 0:=Nat.pos_of_ne_zero hb;exact hle this
  |cons c C =>
   rw[hB'] at hle;have hc:=hB c (List.mem_reverse.mp (by rw[hB'];simp));have:sh p c > 0:=by rw[hc];decide
   exact hle this
 |nil =>
  have e1:(B.reverse++b::([]:List Tr).reverse).getLastD (.lf 0)=b:=by simp
  rw[e1] at hle;cases hB':B.reverse with
  |nil=>rw[hB'] at hl;simp at hl
  |cons c C =>
   rw[hB'] at hle;have hc:=hB c (List.mem_reverse.mp (by rw[hB'];simp));have hb2:sh p b=2:=by have:¬ sh p c > sh p b:=hle;rcases zk5 (p:=p) b with z|z|z <;> omega
   refine h2 λx hx=>?_;rcases wax.mp hx with z|z
   ·exact hB x (List.mem_reverse.mp z)
   ·simp at z;rw[z];exact hb2
theorem zwG{r:Bool}{bs:List Tr}(H:zdv (.nd r bs))(hs:sh p (.nd r bs)=1)(x:List Int):(x∈zaw (.nd r bs)/\RL p x) ↔ (zb9 x (zb1 p r bs)/\RL p x):=by
 obtain ⟨Ap,hk,hlen⟩:=H.kids;have hn:¬ ∀ y∈bs,sh p y=0:=λz=>by
  have:sh p (.nd r bs)=0:=zoh.mpr λg hg=>by rw[zad] at hg;obtain ⟨y,hy,gy⟩:=zaQ.mp hg;exact zoh.mp (z y hy) g gy
  rw[this] at hs;cases hs
 have h2:¬ ∀ y∈bs,sh p y=2:=λz=>by
  have:sh p (.nd r bs)=2:=(ztV (zbR H)).mpr λg hg=>by rw[zad] at hg;obtain ⟨y,hy,gy⟩:=zaQ.mp hg;exact (ztV (zbR (hk y hy))).mp (z y hy) g gy
  rw[this] at hs;cases hs
 refine and_congr_left λhr=>?_;cases r with
 |true =>
  have hl:2<=bs.length:=by simp at hlen;omega
  have mem:x∈zaw (.nd true bs) ↔ zb9 x bs\/zb9 x bs.reverse:=by rw[zbq];unfold arr;rw[if_pos rfl];simp
  rw[mem];unfold zb1;rw[if_pos rfl];by_cases c:sh p (bs.headD (.lf 0)) > sh p (bs.getLastD (.lf 0))
  ·rw[if_pos c];refine ⟨λh=>h.elim (λz=>?_) id,.inr⟩;refine (zlC (os:=bs.reverse) (by simpa using hl) (λy hy=>hk y (List.mem_reverse.mp hy)) ?_ (λq=>hn (zbO.mp q)) (λq=>h2 (zbO.mp q)) (by rw[List.reverse_reverse];exact z) hr).elim;have e1:bs.reverse.headD (.lf 0)=bs.getLastD (.lf 0):=by simp[List.headD_eq_head?_getD,List.getLastD_eq_getLast?]
   have e2:bs.reverse.getLastD (.lf 0)=bs.headD (.lf 0):=by simp[List.headD_eq_head?_getD,List.getLastD_eq_getLast?]
   rw[e1,e2];omega
  ·rw[if_neg c];exact ⟨λh=>h.elim id λz=>(zlC hl hk c hn h2 z hr).elim,.inl⟩
 |false =>
  have mem:x∈zaw (.nd false bs) ↔ ∃ q,q.Perm bs/\zb9 x q:=by rw[zbq];unfold arr;rw[if_neg xws];exact ⟨λ⟨q,h1,h2⟩=>⟨q,(zdi _ _ _ rfl).mp h1,h2⟩,λ⟨q,h1,h2⟩=>⟨q,(zdi _ _ _ rfl).mpr h1,h2⟩⟩
  rw[mem];unfold zb1;rw[if_neg xws];constructor
  ·rintro ⟨q,hq,hm⟩;obtain ⟨A,b,B,rfl,hA,hb⟩:=zcO (os:=q) λz=>hn λy hy=>z y (hq.mem_iff.mpr hy);have hB:=zpw hA hb (λy hy=>hk y (hq.mem_iff.mp (by simp[hy]))) hm hr;have flt:∀ k,(ws p k (A++b::B)).Perm (ws p k bs):=λk=>hq.filter _;have wA:∀ k,ws p k A=if k=0 then A else []:=λk=>by
    by_cases h:k=0
    ·rw[if_pos h];exact List.filter_eq_self.mpr λy hy=>by rw[hA y hy,h];rfl
    ·rw[if_neg h];exact List.filter_eq_nil_iff.mpr λy hy=>by rw[hA y hy];simpa using λz=>h z.symm
   have wB:∀ k,ws p k B=if k=2 then B else []:=λk=>by
    by_cases h:k=2
    ·rw[if_pos h];exact List.filter_eq_self.mpr λy hy=>by rw[hB y hy,h];rfl
    ·rw[if_neg h];exact List.filter_eq_nil_iff.mpr λy hy=>by rw[hB y hy];simpa using λz=>h z.symm
   have wq:∀ k,ws p k (A++b::B)=ws p k A++((if sh p b=k then [b] else [])++ws p k B):=λk=>by
    show List.filter _ _=_;rw[List.filter_append,List.filter_cons];by_cases h:sh p b=k
    ·rw[if_pos (by simpa using h),if_pos h];rfl
    ·rw[if_neg (by simpa using h),if_neg h];rfl
   have f0:=flt 0;have f1:=flt 1;have f2:=flt 2;rw[wq,wA,wB] at f0 f1 f2;obtain ⟨a,r2,rfl,m1,m2⟩:=zap.mp hm;obtain ⟨c,d,rfl,m3,m4⟩:=zba.mp m2;rcases zk5 (p:=p) b with z|z|z
   ·exact absurd z hb
   ·simp[z] at f0 f1 f2;refine zap.mpr ⟨a,_,rfl,zcc.mpr ⟨A,f0,m1⟩,zap.mpr ⟨c,d,rfl,?_,zcc.mpr ⟨B,f2,m4⟩⟩⟩;rw[<- f1];exact zdA.mpr m3
   ·simp[z] at f0 f1 f2;refine zap.mpr ⟨a,_,rfl,zcc.mpr ⟨A,f0,m1⟩,zap.mpr ⟨[],c++d,rfl,?_,zcc.mpr ⟨b::B,f2,m2⟩⟩⟩;have e:ws p 1 bs=[]:=by first|exact f1|exact List.filter_eq_nil_iff.mpr λy hy q=>f1 y hy (by simpa using q)
    rw[e];exact zmi.mpr rfl
  ·intro hm;obtain ⟨a,r2,rfl,m1,m2⟩:=zap.mp hm;obtain ⟨c,d,rfl,m3,m4⟩:=zap.mp m2;obtain ⟨q0,p0,m5⟩:=zcc.mp m1;obtain ⟨q2,p2,m6⟩:=zcc.mp m4;exact ⟨q0++(ws p 1 bs++q2),(p0.append (List.Perm.append_left _ p2)).trans (zcJ bs),zap.mpr ⟨a,_,rfl,m5,zap.mpr ⟨c,d,rfl,m3,m6⟩⟩⟩
variable{p:List Int}
theorem zbj(a b:List Tr):zae (a++b)=zae a++zae b:=by rw[zaH,zaH,zaH,List.flatMap_append]
theorem zrd(t:Tr):zae [t]=zad t:=by simp[zae]
theorem zic(l:List Tr):zae (bun l)=zae l:=by
 unfold bun;split
 ·rfl
 ·rw[zrd];rfl
theorem zkP{r:Bool}{l:List Tr}(h1:(if r then 3 else 2)<=l.length)(h2:∀ x∈l,zdv x)(h3:(zae l).Nodup):zdv (.nd r l):=by refine ⟨?_,h3⟩;rw[okT,Bool.and_eq_true,decide_eq_true_eq,zco,List.all_eq_true];exact ⟨h1,λx hx=>(h2 x hx).o⟩
theorem zpv{l:List Tr}(h2:∀ x∈l,zdv x)(h3:(zae l).Nodup):∀ x∈bun l,zdv x:=λx hx=>by
 unfold bun at hx;split at hx
 ·exact h2 x hx
 ·rename_i h;rw[List.mem_singleton.mp hx];exact zkP (Nat.le_of_not_lt h) h2 h3
theorem znV{l:List Tr}{k:Nat}(h2:∀ x∈l,zdv x)(hk:k=0\/k=2)(h:∀ x∈l,sh p x=k):∀ x∈bun l,sh p x=k:=λx hx=>by
 unfold bun at hx;split at hx
 ·exact h x hx
 ·rename_i hl;rw[List.mem_singleton.mp hx];have e:zad (.nd false l)=zae l:=rfl;rcases hk with rfl|rfl
  ·rw[zoh,e];intro g hg;obtain ⟨t,ht,hg⟩:=zaQ.mp hg;exact zoh.mp (h t ht) g hg
  ·rw[ztV,e]
   ·intro g hg;obtain ⟨t,ht,hg⟩:=zaQ.mp hg;exact (ztV (zbR (h2 t ht))).mp (h t ht) g hg
   ·rw[e]
    match l,hl with
    |[],hl=>exact absurd xwd hl
    |a::l,_ =>
     intro z;rw[show zae (a::l)=zad a++zae l from rfl,List.append_eq_nil_iff] at z;exact zbR (h2 a wau) z.1
theorem ziz{k:Nat}{l:List Tr}(h2:∀ x∈l,zdv x):∀ x∈ws p k l,zdv x:=λx hx=>h2 x (zcK.mp hx).1
theorem zvx{l m:List Tr}(h:l.Sublist m):(zae l).Sublist (zae m):=by
 rw[zaH,zaH]
 induction h with
 |slnil=>exact .slnil
 |cons a h ih=>rw[List.flatMap_cons];exact ih.trans (List.sublist_append_right _ _)
 |cons_cons a h ih=>rw[List.flatMap_cons,List.flatMap_cons];exact (List.Sublist.refl _).append ih
theorem zwq{k:Nat}{l:List Tr}(h:(zae l).Nodup):(zae (ws p k l)).Nodup:=(zvx List.filter_sublist).nodup h
theorem ztJ{r:Bool}{bs:List Tr}:(zae (zb1 p r bs)).Perm (zae bs):=by
 unfold zb1;split
 ·split
  ·exact zbv (List.reverse_perm bs)
  ·exact .refl _
 ·rw[zbj,zbj,zic,zic,<- zbj,<- zbj];exact zbv (zcJ bs)
theorem zhy{r:Bool}{bs:List Tr}(h2:∀ x∈bs,zdv x)(h3:(zae bs).Nodup){x:Tr}(hx:x∈zb1 p r bs):zdv x/\(sh p x≠1\/x∈bs):=by
 unfold zb1 at hx;split at hx
 ·have:x∈bs:=by
   split at hx
   ·exact List.mem_reverse.mp hx
   ·exact hx
  exact ⟨h2 x this,.inr this⟩
 ·have B:∀ k,k=0\/k=2->x∈bun (ws p k bs)->zdv x/\(sh p x≠1\/x∈bs):=λk hk hx=>by refine ⟨zpv (ziz h2) (zwq h3) x hx,.inl ?_⟩;rw[znV (ziz h2) hk (λy hy=>(zcK.mp hy).2) x hx];rcases hk with rfl|rfl <;> decide
  rcases wax.mp hx with hx|hx
  ·exact B 0 (.inl rfl) hx
  ·rcases wax.mp hx with hx|hx
   ·exact ⟨h2 x (zcK.mp hx).1,.inr (zcK.mp hx).1⟩
   ·exact B 2 (.inr rfl) hx
theorem zxh{f:Tr->List Tr}:∀{l:List Tr},(∀ x∈l,zcj p x (f x))->(zae (rv f l)).Perm (zae l)
 |[],_=>.refl _
 |x::l,h=>by show (zae ((f x).reverse++rv f l)).Perm (zad x++zae l);rw[zbj];exact ((zbv (List.reverse_perm _)).trans (h x wau).lv).append (zxh λy hy=>h y (wah _ hy))
noncomputable def ordT(p:List Int):Tr->List Tr
 |.lf g=>[.lf g]
 |.nd r bs=>zb1 p r bs
noncomputable def zcm:Nat->List Int->Tr->List Tr
 |0,_,t=>[t]
 |n+1,p,t=>if sh p t=1 then zbg (zcm n p) p [] (ordT p t) else [t]
theorem zd5{n:Nat}{t:Tr}(h:sh p t≠1):zcm n p t=[t]:=by
 cases n with
 |zero=>rfl
 |succ n=>rw[zcm,if_neg h]
theorem zsZ{g:Int}:sh p (.lf g)≠1:=λz=>by
 unfold sh at z;split at z
 ·cases z
 ·rename_i h;split at z
  ·cases z
  ·rename_i h';simp[zad] at h h';exact h' h
theorem zxe{t:Tr}(h:sh p t=1):sh p t≠0/\sh p t≠2:=by rw[h];decide
theorem zhu{t:Tr}{l:List Tr}(h:(zae l).Perm (zad t))(hs:sh p t≠0):¬ ∀ x∈l,sh p x=0:=λz=>hs (zoh.mpr λg hg=>by obtain ⟨x,hx,gx⟩:=zaQ.mp (h.mem_iff.mpr hg);exact zoh.mp (z x hx) g gx)
theorem ztW{f:Tr->List Tr}{P:Tr->Prop}{A B:List Tr}{b:Tr}(hA:∀ x∈A,P x)(hb:∀ x∈f b,P x)(hB:∀ y∈B,∀ x∈f y,P x):∀ x∈A++(f b++rv f B),P x:=by refine zaJ.mpr ⟨hA,zaJ.mpr ⟨hb,λx hx=>?_⟩⟩;obtain ⟨y,hy,hx⟩:=List.mem_flatMap.mp hx;exact hB y hy x (List.mem_reverse.mp hx)
theorem ztz{f:Tr->List Tr}{A B:List Tr}{b:Tr}(hA:∀ x∈A,sh p x=0)(L:LOK p f (A++b::B)) :
  (∀ x∈A++(f b++rv f B),sh p x=0\/sh p x=2)/\(∀ x∈A++(f b++rv f B),zdv x)/\(zae (A++(f b++rv f B))).Perm (zae (A++b::B)):=by
 have Lb:=L.lean b xws;have LB:∀ x∈B,zcj p x (f x):=λx hx=>L.lean x (by simp[hx]);refine ⟨ztW (λx hx=>.inl (hA x hx)) Lb.pure λy hy=>(LB y hy).pure,ztW (λx hx=>L.ok x (by simp[hx])) Lb.ok λy hy=>(LB y hy).ok,?_⟩;rw[zbj,zbj,zbj];exact .append_left _ (Lb.lv.append (zxh LB))
theorem zhB:∀(n:Nat)(t:Tr),(sh p t=1->dep t<=n)->zdv t->zcj p t (zcm n p t)
 |0,t,h,H=>by refine zcj.self H λz=>?_;have:=h z;cases t <;> simp[dep] at this
 |n+1,t,h,H=>by
  by_cases hs:sh p t=1
  ·have hd:=h hs;rw[zcm,if_pos hs];cases t with
   |lf g=>exact absurd hs zsZ
   |nd r bs =>
    show zcj p _ (zbg (zcm n p) p [] (zb1 p r bs));simp only[dep] at hd;have hd':=zaW.mp (by omega:zcY bs<=n);obtain ⟨_,hk,_⟩:=H.kids;have L:LOK p (zcm n p) (zb1 p r bs):=⟨λx hx=>by
     obtain ⟨h1,h2⟩:=zhy hk H.n hx;exact zhB n x (λz=>by
      rcases h2 with q|q
      ·exact absurd z q
      ·exact hd' x q) h1,λx _ q=>zd5 q,λx hx=>(zhy hk H.n hx).1⟩
    have hlv:(zae (zb1 p r bs)).Perm (zad (.nd r bs)):=ztJ;obtain ⟨A,b,B,e,hA,hb⟩:=zcO (zhu hlv (zxe hs).1);have O:=λx=>zwG H hs x;rw[e] at L hlv O ⊢;rw[znp hA hb L];obtain ⟨s1,s2,s3⟩:=ztz hA L;have S:=zrT hA hb (L.lean b xws) (L.sub (m:=B) λx hx=>by simp[hx]);refine ⟨s1,s2,s3.trans hlv,λna r=>?_,λna r hr q=>?_⟩
    ·rw[S.1 na r,O r]
    ·exact S.2 na r ((O r).mp ⟨hr,q⟩).1 q
  ·rw[zcm,if_neg hs];exact zcj.self H hs
variable{p:List Int}
structure zgG(p:List Int)(os pc:List Tr):Prop where
 ok:∀ x∈pc,zdv x
 lv:(zae pc).Perm (zae os)
 pure:∀ x∈pc,sh p x=0\/sh p x=2
 yes:NAN p pc->∀ r,zb9 r pc ↔ zb9 r os/\Ct p r
 no:¬ NAN p pc->∀ r,zb9 r os->¬ Ct p r
theorem zwO{r:List Int}(h:Al p r):Ct p r:=⟨[],r,[],xws,xws,h,xws⟩
theorem zjj{r:List Int}:Ct p r.reverse ↔ Ct p r:=by
 have key:∀{r:List Int},Ct p r->Ct p r.reverse:=λ{r}=>by rintro ⟨u,v,w,rfl,h1,h2,h3⟩;exact ⟨w.reverse,v.reverse,u.reverse,xws,zbO.mpr h3,zbO.mpr h2,zbO.mpr h1⟩
 exact ⟨λh=>by have:=key h;rwa [List.reverse_reverse] at this,key⟩
theorem zoy{a y w:List Int}(ha:No p a)(hy:¬ No p y)(hw:No p w):Ct p (a++(y++w)) ↔ Ct p y:=by rw[Ct,zj5 ztK ha λz=>hy (zaJ.mp z).1];rw[<- Ct,<- zjj,List.reverse_append,Ct,zj5 ztK (zbO.mpr hw) λz=>hy (zbO.mp z)];exact zjj
theorem zgw{k:Nat}{l:List Tr}(h:∀ x∈l,sh p x=k):ws p k l=l:=List.filter_eq_self.mpr λx hx=>by rw[h x hx];exact beq_self_eq_true k
theorem zhY{k:Nat}{l:List Tr}(h:∀ x∈l,sh p x≠k):ws p k l=[]:=List.filter_eq_nil_iff.mpr λx hx z=>h x hx (beq_iff_eq.mp z)
theorem zj6{k:Nat}{a b:List Tr}:ws p k (a++b)=ws p k a++ws p k b:=List.filter_append _ _
theorem zfF{k:Nat}{a:Tr}{b:List Tr}:ws p k (a::b)=(if sh p a=k then [a] else [])++ws p k b:=by
 show List.filter _ _=_;rw[List.filter_cons];by_cases h:sh p a=k
 ·rw[if_pos (by simpa using h),if_pos h];rfl
 ·rw[if_neg (by simpa using h),if_neg h];rfl
theorem zq8{os:List Tr}(h:(ws p 0 os).length+2<=os.length):∃ A b M c Zq,os=A++b::(M++c::Zq)/\(∀ x∈A,sh p x=0)/\sh p b≠0/\sh p c≠0/\∀ x∈Zq,sh p x=0:=by
 obtain ⟨A,b,B,rfl,h1,h2⟩:=zcO (os:=os) (p:=p) λz=>by rw[zgw z] at h;omega
 obtain ⟨M,c,Zq,rfl,h3,h4⟩:=znB (os:=B) (p:=p) λz=>by rw[zj6,zfF,if_neg h2,zgw h1,zgw z] at h;simp at h;omega
 exact ⟨A,b,M,c,Zq,rfl,h1,h2,h4,h3⟩
theorem zss{f:Tr->List Tr}{A M Zq:List Tr}{b c:Tr}(L:LOK p f (A++b::(M++c::Zq)))(hA:∀ x∈A,sh p x=0)(hb:sh p b≠0)(hZ:∀ x∈Zq,sh p x=0):zbg f p [] (A++b::(M++c::Zq))=A++(f b++(rv f M++((f c).reverse++Zq))):=by
 rw[znp hA hb L];have:rv f Zq=Zq:=zmQ (L.sub λx hx=>by simp[hx]) λx hx=>by rw[hZ x hx];decide
 simp only[rv,List.flatMap_append,List.flatMap_cons] at this ⊢;rw[this]
theorem zkp{f:Tr->List Tr}{os:List Tr}(L:LOK p f os)(h:(ws p 0 os).length+2<=os.length):zgG p os (zbg f p [] os):=by obtain ⟨A,b,M,c,Zq,rfl,hA,hb,hc,hZ⟩:=zq8 h;obtain ⟨s1,s2,s3⟩:=ztz hA L;have S:=zp7 hA hb hc hZ (L.lean b xws) (L.lean c xws) (L.sub (m:=M) λx hx=>by simp[hx]);rw[<- znp hA hb L] at s1 s2 s3;rw[<- zss L hA hb hZ] at S;exact ⟨s2,s3,s1,S.1,S.2⟩
theorem zv4{f:Tr->List Tr}{x:Tr}(hx:zdv x)(hs:sh p x=2)(h1:f x=[x]):zgG p [x] (zbg f p [] [x]):=by
 have e:zbg f p [] [x]=[x]:=by simp[zbg,h1]
 rw[e];refine ⟨λy hy=>by rw[List.mem_singleton.mp hy];exact hx,.refl _,λy hy=>by rw[List.mem_singleton.mp hy];exact .inr hs,λ_ r=>⟨λh=>⟨h,zwO ?_⟩,λh=>h.1⟩,λn=>absurd ⟨[],[x],[],xws,xws,?_,xws⟩ n⟩
 ·exact (zn6 (zbR hx) (zdA.mp h)).mpr hs
 ·intro y hy;rw[List.mem_singleton.mp hy];exact hs
theorem zh2{l:List Tr}{r:List Int}:r∈zaw (.nd true l) ↔ zb9 r l\/zb9 r.reverse l:=by
 rw[zbq];constructor
 ·rintro ⟨q,hq,hm⟩;have:q=l\/q=l.reverse:=by simpa [arr] using hq
  rcases this with rfl|rfl
  ·exact .inl hm
  ·exact .inr (zfy.mp hm)
 ·rintro (hm|hm)
  ·exact ⟨l,by simp[arr],hm⟩
  ·exact ⟨l.reverse,by simp[arr],zfy.mpr hm⟩
theorem zrL{l:List Tr}{r:List Int}:r∈zaw (.nd false l) ↔ ∃ q,q.Perm l/\zb9 r q:=by rw[zbq];exact ⟨λ⟨q,hq,hm⟩=>⟨q,zcE hq,hm⟩,λ⟨q,hq,hm⟩=>⟨q,(zdi _ _ _ rfl).mpr hq,hm⟩⟩
structure zeM(p:List Int)(t:Tr)(o:Option Tr):Prop where
 yes:∀ t',o=some t'->zdv t'/\(zad t').Perm (zad t)/\∀ r,r∈zaw t' ↔ r∈zaw t/\Ct p r
 no:o=none->∀ r∈zaw t,¬ Ct p r
noncomputable def zjm(pc:List Tr):Tr:=if pc.length=1 then pc.headD (.lf 0) else .nd true pc
noncomputable def zeE(p:List Int)(bs:List Tr):List Tr:=(ws p 1 bs).take 1++(bun (ws p 2 bs)++(ws p 1 bs).drop 1)
theorem zqq{pc:List Tr}{s:List Int}:s∈zaw (zjm pc) ↔ zb9 s pc\/zb9 s.reverse pc:=by
 unfold zjm;split
 ·rename_i h;obtain ⟨x,rfl⟩:=List.length_eq_one_iff.mp h;show s∈zaw x ↔ _;rw[zdA,zdA,zh0,or_self]
 ·exact zh2
theorem zq1{T C X Yq:List Tr}{s:List Int}(hX:X.length<=1)(hY:Yq.length<=1)(hT:(X++Yq).Perm T)(h:zb9 s (X++(bun C++Yq))):zb9 s (T.take 1++(bun C++T.drop 1))\/zb9 s.reverse (T.take 1++(bun C++T.drop 1)):=by
 have hb:(bun C).reverse=bun C:=by
  unfold bun;split
  ·rename_i h
   match C,h with
   |[],_=>rfl
   |[a],_=>rfl
  ·rfl
 have rev:∀{X Yq:List Tr},X.length<=1->Yq.length<=1->zb9 s (X++(bun C++Yq))->zb9 s.reverse (Yq++(bun C++X)):=λ{X Yq} hX hY h=>by
  have:Yq++(bun C++X)=(X++(bun C++Yq)).reverse:=by
   have one:∀{Zq:List Tr},Zq.length<=1->Zq.reverse=Zq:=λ{Zq} h=>by
    match Zq,h with
    |[],_=>rfl
    |[a],_=>rfl
   rw[List.reverse_append,List.reverse_append,hb,one hX,one hY,List.append_assoc]
  rw[this,zfy,List.reverse_reverse];exact h
 match X,Yq,hX,hY with
 |[],[],_,_=>rw[hT.symm.eq_nil];exact .inl h
 |[x],[],_,_=>rw[hT.symm.eq_singleton];exact .inl h
 |[],[y],hX,hY=>rw[hT.symm.eq_singleton];exact .inr (rev hX hY h)
 |[x],[y],hX,hY =>
  have hT':T.Perm [x,y]:=hT.symm;have hl:=hT'.length_eq
  match T,hl with
  |[a,b],_ =>
   have ha:a∈[x,y]:=hT'.mem_iff.mp xws;rcases wap.mp ha with rfl|ha
   ·have:=(List.perm_cons _).mp hT';rw[this.eq_singleton];exact .inl h
   ·have ha:=List.mem_singleton.mp ha;subst ha;have:=(List.perm_cons a).mp (hT'.trans (List.Perm.swap _ _ _));have:=this.eq_singleton;cases this;exact .inr (rev hX hY h)
variable{p:List Int}
theorem zxt{bs:List Tr}(hk:∀ x∈bs,zdv x)(h2:(ws p 0 bs).length+2<=bs.length)(r:List Int):(r∈zaw (.nd false bs)/\Ct p r) ↔
  ∃ A Zq a s w,r=a++(s++w)/\(A++Zq).Perm (ws p 0 bs)/\zb9 a A/\zb9 w Zq/\(zb9 s (zeE p bs)\/zb9 s.reverse (zeE p bs))/\Ct p s:=by
 rw[zrL];constructor
 ·rintro ⟨⟨q,hq,hm⟩,hc⟩;have flt:∀ k,(ws p k q).Perm (ws p k bs):=λk=>hq.filter _;obtain ⟨A,b,M,c,Zq,rfl,hA,hb,hc',hZ⟩:=zq8 (os:=q) (p:=p) (by rw[(flt 0).length_eq,hq.length_eq];exact h2);obtain ⟨a,r2,rfl,m1,m2⟩:=zap.mp hm;obtain ⟨y,r3,rfl,m3,m4⟩:=zba.mp m2;obtain ⟨m,r4,rfl,m5,m6⟩:=zap.mp m4;obtain ⟨z,w,rfl,m7,m8⟩:=zba.mp m6;have hM:=((zqF hA hb hc' hZ (λx hx=>hk x (hq.mem_iff.mp (by simp[hx]))) m1 m3 m5 m7 m8).mp hc).2.2;have hy:¬ No p y:=λe=>hb ((zgo m3).mp e);refine ⟨A,Zq,a,y++(m++z),w,xws,?_,m1,m8,?_,?_⟩
  ·have:=flt 0;rw[zj6,zfF,zj6,zfF,if_neg hb,if_neg hc',zgw hA,zgw hZ,zhY (l:=M) λx hx=>by rw[hM x hx];decide] at this;exact this
  ·have f1:=flt 1;have f2:=flt 2;rw[zj6,zfF,zj6,zfF,zhY (l:=A) (λx hx=>by rw[hA x hx];decide),zhY (l:=Zq) (λx hx=>by rw[hZ x hx];decide)] at f1 f2;rw[zhY (l:=M) (λx hx=>by rw[hM x hx];decide)] at f1;rw[zgw (l:=M) hM] at f2;simp only[List.nil_append,List.append_nil] at f1 f2;refine zq1 (X:=if sh p b=1 then [b] else []) (Yq:=if sh p c=1 then [c] else []) (by split <;> simp) (by split <;> simp) f1 ?_;have sb:sh p b=1\/sh p b=2:=by
    rcases zk5 (p:=p) b with e|e
    ·exact absurd e hb
    ·exact e
   have sc:sh p c=1\/sh p c=2:=by
    rcases zk5 (p:=p) c with e|e
    ·exact absurd e hc'
    ·exact e
   rcases sb with sb|sb <;> rcases sc with sc|sc <;> simp only[sb,sc,if_true,Nat.reduceEqDiff,if_false,List.nil_append,List.append_nil,List.cons_append] at f2 ⊢
   ·exact zba.mpr ⟨y,_,rfl,m3,zap.mpr ⟨m,z,rfl,zcc.mpr ⟨M,f2,m5⟩,zdA.mpr m7⟩⟩
   ·exact zba.mpr ⟨y,_,rfl,m3,zcc.mpr ⟨_,f2,zap.mpr ⟨m,z,rfl,m5,zdA.mpr m7⟩⟩⟩
   ·exact zap.mpr ⟨y++m,z,xws,zcc.mpr ⟨_,f2,zba.mpr ⟨y,m,rfl,m3,m5⟩⟩,zdA.mpr m7⟩
   ·exact zcc.mpr ⟨_,f2,zba.mpr ⟨y,_,rfl,m3,zap.mpr ⟨m,z,rfl,m5,zdA.mpr m7⟩⟩⟩
  ·refine (zoy (zcq m1 hA) (λe=>hy (zaJ.mp e).1) (zcq m8 hZ)).mp ?_;simpa using hc
 ·rintro ⟨A,Zq,a,s,w,rfl,hp,m1,m2,hs,hc⟩;have key:∀{s:List Int},zb9 s (zeE p bs)->∃ q,q.Perm (ws p 1 bs++ws p 2 bs)/\zb9 s q:=λ{s} h=>by obtain ⟨x,r2,rfl,k1,k2⟩:=zap.mp h;obtain ⟨y,z,rfl,k3,k4⟩:=zap.mp k2;obtain ⟨q,hq,k5⟩:=zcc.mp k3;refine ⟨_,?_,zap.mpr ⟨x,_,rfl,k1,zap.mpr ⟨y,z,rfl,k5,k4⟩⟩⟩;refine (List.Perm.append_left _ (List.perm_append_comm.trans (List.Perm.append_left _ hq))).trans ?_;rw[<- List.append_assoc,List.take_append_drop]
  have:∃ q,q.Perm (ws p 1 bs++ws p 2 bs)/\zb9 s q:=by
   rcases hs with hs|hs
   ·exact key hs
   ·obtain ⟨q,hq,k⟩:=key hs;exact ⟨q.reverse,(List.reverse_perm q).trans hq,zfy.mpr k⟩
  obtain ⟨q,hq,k⟩:=this;have hN:∀ x∈A++Zq,sh p x=0:=λx hx=>(zcK.mp (hp.mem_iff.mp hx)).2;refine ⟨⟨A++(q++Zq),?_,zap.mpr ⟨a,_,rfl,m1,zap.mpr ⟨s,w,rfl,k,m2⟩⟩⟩,?_⟩
  ·refine (List.Perm.append_left _ List.perm_append_comm).trans ?_;rw[<- List.append_assoc];exact (hp.append hq).trans (zcJ bs)
  ·by_cases hn:No p s
   ·have:No p (a++(s++w)):=zaJ.mpr ⟨zcq m1 (zaJ.mp hN).1,zaJ.mpr ⟨hn,zcq m2 (zaJ.mp hN).2⟩⟩;exact ⟨_,[],[],xws,this,xws,xws⟩
   ·exact (zoy (zcq m1 (zaJ.mp hN).1) hn (zcq m2 (zaJ.mp hN).2)).mpr hc
theorem zvJ{N:List Tr}{x:Tr}{r:List Int}:r∈zaw ((bun (N++[x])).headD (.lf 0)) ↔ ∃ A Zq a s w,r=a++(s++w)/\(A++Zq).Perm N/\zb9 a A/\zb9 w Zq/\s∈zaw x:=by
 have hd:r∈zaw ((bun (N++[x])).headD (.lf 0)) ↔ zb9 r (bun (N++[x])):=by
  unfold bun;split
  ·rename_i h
   match N,h with
   |[],_=>exact zdA.symm
   |a::N,h=>simp at h;omega
  ·exact zdA.symm
 rw[hd,zcc];constructor
 ·rintro ⟨q,hq,hm⟩;obtain ⟨A,Zq,rfl⟩:=List.append_of_mem (hq.mem_iff.mpr (by simp:x∈N++[x]));obtain ⟨a,r2,rfl,m1,m2⟩:=zap.mp hm;obtain ⟨s,w,rfl,m3,m4⟩:=zba.mp m2;exact ⟨A,Zq,a,s,w,rfl,(List.perm_cons x).mp (List.perm_middle.symm.trans (hq.trans List.perm_append_comm)),m1,m4,m3⟩
 ·rintro ⟨A,Zq,a,s,w,rfl,hp,m1,m2,m3⟩;exact ⟨A++x::Zq,List.perm_middle.trans ((hp.cons x).trans (List.perm_append_comm (l₁:=[x]) (l₂:=N))),zap.mpr ⟨a,_,rfl,m1,zba.mpr ⟨s,w,rfl,m3,m2⟩⟩⟩
theorem zqa{bs pc:List Tr}(H:zdv (.nd false bs))(h2:(ws p 0 bs).length+2<=bs.length)(T:zgG p (zeE p bs) pc)(hl:pc.length=1\/3<=pc.length) :
  (NAN p pc->zeM p (.nd false bs) (some ((bun (ws p 0 bs++[zjm pc])).headD (.lf 0))))/\(¬ NAN p pc->zeM p (.nd false bs) none):=by
 obtain ⟨_,hk,_⟩:=H.kids;have C:=zxt hk h2;have hlv:(zae (zeE p bs)).Perm (zae (ws p 1 bs++ws p 2 bs)):=by rw[zeE,zbj,zbj,zic,<- zbj,<- zbj];refine zbv ((List.Perm.append_left _ List.perm_append_comm).trans ?_);rw[<- List.append_assoc,List.take_append_drop]
 have ilv:(zad (zjm pc))=zae pc:=by
  unfold zjm;split
  ·rename_i h;obtain ⟨x,rfl⟩:=List.length_eq_one_iff.mp h;exact (zrd x).symm
  ·rfl
 have alv:(zae (ws p 0 bs++[zjm pc])).Perm (zae bs):=by rw[zbj,zrd,ilv];refine (List.Perm.append_left _ (T.lv.trans hlv)).trans ?_;rw[<- zbj];exact zbv (zcJ bs)
 have nd:=alv.nodup_iff.mpr H.n;have iok:zdv (zjm pc):=by
  unfold zjm;split
  ·rename_i h;obtain ⟨x,rfl⟩:=List.length_eq_one_iff.mp h;exact T.ok x xws
  ·rename_i h;refine zkP ?_ T.ok ?_
   ·rcases hl with q|q
    ·exact absurd q h
    ·exact q
   ·rw[zbj,zrd,ilv] at nd;exact (List.nodup_append.mp nd).2.1
 have aok:∀ x∈ws p 0 bs++[zjm pc],zdv x:=zaJ.mpr ⟨ziz hk,λx hx=>by rw[List.mem_singleton.mp hx];exact iok⟩;constructor
 ·intro na;refine ⟨λt' e=>?_,λe=>by cases e⟩;cases e;have hb:∃ x,bun (ws p 0 bs++[zjm pc])=[x]:=by
   unfold bun;split
   ·rename_i h
    match ws p 0 bs,h with
    |[],_=>exact ⟨_,rfl⟩
    |a::N,h=>simp at h;omega
   ·exact ⟨_,rfl⟩
  refine ⟨?_,?_,λr=>?_⟩
  ·obtain ⟨x,e⟩:=hb;have:=zpv aok nd x (by rw[e];simp);rw[e];exact this
  ·obtain ⟨x,e⟩:=hb;have:=zic (ws p 0 bs++[zjm pc]);rw[e,zrd] at this;rw[e];exact (show (zad x).Perm _ from this ▸ alv)
  ·rw[zvJ,C r];refine exists_congr λA=>exists_congr λZq=>exists_congr λa=>exists_congr λs=>exists_congr λw=>and_congr_right λ_=>and_congr_right λ_=>and_congr_right λ_=>and_congr_right λ_=>?_;rw[zqq,T.yes na,T.yes na,zjj,or_and_right]
 ·intro na;refine ⟨λt' e=>(by cases e),λ_ r hr hc=>?_⟩;obtain ⟨A,Zq,a,s,w,rfl,hp,m1,m2,hs,hc⟩:=(C r).mp ⟨hr,hc⟩;rcases hs with hs|hs
  ·exact T.no na s hs hc
  ·exact T.no na _ hs (zjj.mpr hc)
theorem zpC{bs pc:List Tr}(H:zdv (.nd true bs))(T:zgG p bs pc)(hl:3<=pc.length) :
  (NAN p pc->zeM p (.nd true bs) (some (.nd true pc)))/\(¬ NAN p pc->zeM p (.nd true bs) none):=by
 constructor
 ·intro na;refine ⟨λt' e=>?_,λe=>by cases e⟩;cases e;refine ⟨zkP hl T.ok (T.lv.nodup_iff.mpr H.n),T.lv,λr=>?_⟩;rw[zh2,zh2,T.yes na,T.yes na,zjj,or_and_right]
 ·intro na;refine ⟨λt' e=>(by cases e),λ_ r hr hc=>?_⟩;rcases zh2.mp hr with h|h
  ·exact T.no na r h hc
  ·exact T.no na _ h (zjj.mpr hc)
theorem zqi{r:Bool}{A B q:List Tr}{b:Tr}(h:q∈arr r (A++b::B)):∃ q1 q2,q=q1++b::q2/\(q1++q2).Perm (A++B)/\∀ x,q1++x::q2∈arr r (A++x::B):=by
 cases r with
 |false =>
  have hp:=zcE h;obtain ⟨q1,q2,rfl⟩:=List.append_of_mem (hp.mem_iff.mpr (by simp:b∈A++b::B));have:(q1++q2).Perm (A++B):=(List.perm_cons b).mp (List.perm_middle.symm.trans (hp.trans List.perm_middle));exact ⟨q1,q2,rfl,this,λx=>(zdi _ _ _ rfl).mpr (List.perm_middle.trans ((this.cons x).trans List.perm_middle.symm))⟩
 |true =>
  have:q=A++b::B\/q=(A++b::B).reverse:=by simpa [arr] using h
  rcases this with rfl|rfl
  ·exact ⟨A,B,rfl,.refl _,λx=>by simp[arr]⟩
  ·exact ⟨B.reverse,A.reverse,xws,by rw[<- List.reverse_append];exact List.reverse_perm _,λx=>by simp[arr]⟩
theorem zoj{r:Bool}{A B:List Tr}{b c:Tr}{x:List Int}(hN:∀ y∈A++B,sh p y=0)(hb:sh p b≠0)(hbc:∀ y,y∈zaw b/\Ct p y->y∈zaw c)(hx:x∈zaw (.nd r (A++b::B)))(hc:Ct p x):x∈zaw (.nd r (A++c::B)):=by obtain ⟨q,hq,hm⟩:=zbq.mp hx;obtain ⟨q1,q2,rfl,hp,hq'⟩:=zqi hq;obtain ⟨a,r2,rfl,m1,m2⟩:=zap.mp hm;obtain ⟨s,w,rfl,m3,m4⟩:=zba.mp m2;have hN':∀ y∈q1++q2,sh p y=0:=λy hy=>hN y (hp.mem_iff.mp hy);have cs:=(zoy (zcq m1 (zaJ.mp hN').1) (λe=>hb ((zgo m3).mp e)) (zcq m4 (zaJ.mp hN').2)).mp hc;exact zbq.mpr ⟨_,hq' c,zap.mpr ⟨a,_,rfl,m1,zba.mpr ⟨s,w,rfl,hbc s ⟨m3,cs⟩,m4⟩⟩⟩
theorem ztu{r:Bool}{A B:List Tr}{b:Tr}{x:List Int}(hN:∀ y∈A++B,sh p y=0)(hb:sh p b≠0)(hx:x∈zaw (.nd r (A++b::B))):∃ s,s∈zaw b/\(Ct p x ↔ Ct p s):=by obtain ⟨q,hq,hm⟩:=zbq.mp hx;obtain ⟨q1,q2,rfl,hp,_⟩:=zqi hq;obtain ⟨a,r2,rfl,m1,m2⟩:=zap.mp hm;obtain ⟨s,w,rfl,m3,m4⟩:=zba.mp m2;have hN':∀ y∈q1++q2,sh p y=0:=λy hy=>hN y (hp.mem_iff.mp hy);exact ⟨s,m3,zoy (zcq m1 (zaJ.mp hN').1) (λe=>hb ((zgo m3).mp e)) (zcq m4 (zaJ.mp hN').2)⟩
theorem zpf{r:Bool}{A B:List Tr}{b:Tr}{o:Option Tr}(H:zdv (.nd r (A++b::B)))(hN:∀ y∈A++B,sh p y=0)(hb:sh p b≠0)(T:zeM p b o):zeM p (.nd r (A++b::B)) (o.map λc=>.nd r (A++c::B)):=by
 obtain ⟨_,hk,hn⟩:=H.kids;cases o with
 |none =>
  refine ⟨λt' e=>(by cases e),λ_ x hx hc=>?_⟩;obtain ⟨s,hs,e⟩:=ztu hN hb hx;exact T.no rfl s hs (e.mp hc)
 |some c =>
  obtain ⟨h1,h2,h3⟩:=T.yes c rfl;have hc:sh p c≠0:=λz=>hb (zoh.mpr λg hg=>zoh.mp z g (h2.mem_iff.mpr hg));have lv:(zae (A++c::B)).Perm (zae (A++b::B)):=by rw[zbj,zbj];exact .append_left _ (List.Perm.append_right _ h2)
  refine ⟨λt' e=>?_,λe=>(by cases e)⟩;cases e;refine ⟨zkP (by simpa using hn) (λx hx=>?_) (lv.nodup_iff.mpr H.n),lv,λx=>⟨λhx=>?_,λhx=>?_⟩⟩
  ·rcases wax.mp hx with q|q
   ·exact hk x (by simp[q])
   ·rcases wap.mp q with rfl|q
    ·exact h1
    ·exact hk x (by simp[q])
  ·obtain ⟨s,hs,e⟩:=ztu hN hc hx;have:=e.mpr ((h3 s).mp hs).2;exact ⟨zoj hN hc (λy hy=>((h3 y).mp hy.1).1) hx this,this⟩
  ·exact zoj hN hb (λy hy=>(h3 y).mpr hy) hx.1 hx.2
variable{p:List Int}
noncomputable def zhr(f:Tr->Option Tr)(p:List Int)(bs:List Tr):List (Option Tr):=bs.map λb=>if sh p b=0 then some b else f b
noncomputable def zmn:List (Option Tr)->Option (List Tr)
 |[]=>some []
 |none::_=>none
 |some a::l=>(zmn l).map (a::·)
open Classical in
noncomputable def zvR(f:Tr->Option Tr)(p:List Int)(r:Bool)(bs:List Tr):Option Tr :=
 if (ws p 0 bs).length+1=bs.length then (zmn (zhr f p bs)).map (.nd r)
 else if r=true then (if NAN p (zbg (zcm 7 p) p [] bs) then some (.nd true (zbg (zcm 7 p) p [] bs)) else none)
 else if NAN p (zbg (zcm 7 p) p [] (zeE p bs)) then some ((bun (ws p 0 bs++[zjm (zbg (zcm 7 p) p [] (zeE p bs))])).headD (.lf 0)) else none
noncomputable def nodT(f:Tr->Option Tr)(p:List Int):Tr->Option Tr
 |.lf g=>some (.lf g)
 |.nd r bs=>zvR f p r bs
noncomputable def zbZ:Nat->List Int->Tr->Option Tr
 |0,_,t=>some t
 |n+1,p,t=>if sh p t=2 then some t else nodT (zbZ n p) p t
theorem zhN:∀{A:List Tr}{l:List (Option Tr)},zmn (A.map some++l)=(zmn l).map (A++·)
 |[],l=>by show zmn l=_;cases zmn l <;> rfl
 |a::A,l=>by show (zmn (A.map some++l)).map _=_;rw[zhN];cases zmn l <;> rfl
theorem zlS{f:Tr->Option Tr}{A:List Tr}(h:∀ x∈A,sh p x=0):zhr f p A=A.map some:=List.map_congr_left λx hx=>if_pos (h x hx)
theorem zuN{f:Tr->Option Tr}{A B:List Tr}{b:Tr}(hA:∀ x∈A,sh p x=0)(hB:∀ x∈B,sh p x=0)(hb:sh p b≠0):zmn (zhr f p (A++b::B))=(f b).map λc=>A++c::B:=by
 have:zhr f p (A++b::B)=A.map some++f b::(B.map some++[]):=by rw[zhr,List.map_append,List.map_cons,if_neg hb,List.append_nil];have e1:=zlS (f:=f) hA;have e2:=zlS (f:=f) hB;rw[zhr] at e1 e2;rw[e1,e2]
 rw[this,zhN];cases f b with
 |none=>rfl
 |some c =>
  show ((zmn (B.map some++[])).map _).map _=_;rw[zhN];simp[zmn]
theorem zkx{f:Tr->List Tr}:∀{os acc:List Tr},(∀ x∈os,f x≠[])->acc.length+os.length<=(zbg f p acc os).length
 |[],acc,_=>by simp[zbg]
 |b::os,acc,h=>by
  rw[zbg];have:=zkx (f:=f) (os:=os) (acc:=acc++(if (acc.any λx=>sh p x == 2)=true then (f b).reverse else f b)) λx hx=>h x (wah _ hx);refine waN ?_ this;have h1:1<=(if (acc.any λx=>sh p x == 2)=true then (f b).reverse else f b).length:=by
   have:=List.length_pos_iff.mpr (h b wau);split
   ·rw[List.length_reverse];exact this
   ·exact this
  rw[List.length_append,List.length_cons];omega
theorem zcj.ne{t:Tr}{pc:List Tr}(L:zcj p t pc)(H:zdv t):pc≠[]:=λz=>by have:=L.lv;rw[z] at this;exact zbR H this.symm.eq_nil
theorem zcj.two{t:Tr}{pc:List Tr}(L:zcj p t pc)(H:zdv t)(hs:sh p t=1):2<=pc.length:=by
 match pc,L with
 |[],L=>exact absurd rfl (L.ne H)
 |[x],L =>
  exfalso;rcases L.pure x xws with e|e
  ·exact L.has (by rw[hs];decide) λy hy=>by rw[List.mem_singleton.mp hy];exact e
  ·have:=L.all H λy hy=>by rw[List.mem_singleton.mp hy];exact e
   rw[hs] at this;cases this
 |_::_::_,_=>simp
theorem zna{bs:List Tr}(h2:∀ x∈bs,zdv x)(h3:(zae bs).Nodup){x:Tr}(hx:x∈zeE p bs):zdv x/\(sh p x≠1\/x∈bs):=by
 have W:∀{k:Nat},x∈ws p k bs->zdv x/\(sh p x≠1\/x∈bs):=λh=>⟨h2 x (zcK.mp h).1,.inr (zcK.mp h).1⟩
 rcases wax.mp hx with hx|hx
 ·exact W (List.mem_of_mem_take hx)
 ·rcases wax.mp hx with hx|hx
  ·refine ⟨zpv (ziz h2) (zwq h3) x hx,.inl ?_⟩;rw[znV (ziz h2) (.inr rfl) (λy hy=>(zcK.mp hy).2) x hx]
   decide
  ·exact W (List.mem_of_mem_drop hx)
theorem zmb{bs:List Tr}{n:Nat}(H:zdv (.nd false bs))(hd:∀ b∈bs,dep b<=n)(h2:(ws p 0 bs).length+2<=bs.length) :
  zgG p (zeE p bs) (zbg (zcm n p) p [] (zeE p bs))/\((zbg (zcm n p) p [] (zeE p bs)).length=1\/3<=(zbg (zcm n p) p [] (zeE p bs)).length):=by
 obtain ⟨_,hk,_⟩:=H.kids;have L:LOK p (zcm n p) (zeE p bs):=⟨λx hx=>by
  obtain ⟨h1,h2⟩:=zna hk H.n hx;exact zhB n x (λz=>by
   rcases h2 with q|q
   ·exact absurd z q
   ·exact hd x q) h1,λx _ q=>zd5 q,λx hx=>(zna hk H.n hx).1⟩
 have hp:=(zcJ (p:=p) bs).length_eq;rw[List.length_append,List.length_append] at hp;have b2:=znV (p:=p) (l:=ws p 2 bs) (ziz hk) (.inr rfl) (λy hy=>(zcK.mp hy).2);have bl:(ws p 2 bs).length≠0->(bun (ws p 2 bs)).length=1:=λh=>by
  unfold bun;split
  ·omega
  ·rfl
 have an:zeE p bs=(ws p 1 bs).take 1++(bun (ws p 2 bs)++(ws p 1 bs).drop 1):=rfl;cases hT:ws p 1 bs with
 |nil =>
  rw[hT,List.length_nil] at hp;obtain ⟨x,hx⟩:=List.length_eq_one_iff.mp (bl xwo);rw[hT,hx] at an;have an:zeE p bs=[x]:=an;rw[hx] at b2;have s:=b2 x xws;have T:=zv4 (L.ok x (by rw[an];simp)) s (zd5 (n:=n) (by rw[s];decide));rw[an];refine ⟨T,.inl ?_⟩;simp[zbg,zd5 (n:=n) (p:=p) (t:=x) (by rw[s];decide)]
 |cons x T =>
  have hn:∀ y∈zeE p bs,sh p y≠0:=λy hy=>by
   have W:y∈ws p 1 bs->sh p y≠0:=λh=>by rw[(zcK.mp h).2];decide
   rcases wax.mp hy with hy|hy
   ·exact W (List.mem_of_mem_take hy)
   ·rcases wax.mp hy with hy|hy
    ·rw[b2 y hy];decide
    ·exact W (List.mem_of_mem_drop hy)
  have sx:sh p x=1:=(zcK.mp (by rw[hT];simp:x∈ws p 1 bs)).2;rw[hT] at an;have an:zeE p bs=x::(bun (ws p 2 bs)++T):=an;rw[hT,List.length_cons] at hp;have hlen:1<=(bun (ws p 2 bs)++T).length:=by
   rw[List.length_append];by_cases z:(ws p 2 bs).length=0
   ·omega
   ·rw[bl z];omega
  refine ⟨zkp L ?_,.inr ?_⟩
  ·rw[zhY hn,an,List.length_nil,List.length_cons];omega
  ·have Lx:=L.lean x (by rw[an];simp);have t2:=Lx.two (L.ok x (by rw[an];simp)) sx;rw[an,zbg];have:=zkx (f:=zcm n p) (p:=p) (os:=bun (ws p 2 bs)++T) (acc:=[]++zcm n p x) λy hy=>by
    have:y∈zeE p bs:=by rw[an];exact wah _ hy
    exact (L.lean y this).ne (L.ok y this)
   refine waN ?_ this;rw[List.nil_append];omega
theorem zhp:∀(n:Nat)(t:Tr),n<=8->dep t<=n->zdv t->sh p t≠0->zeM p t (zbZ n p t)
 |0,t,_,h,_,_=>by cases t <;> simp[dep] at h
 |n+1,t,hn8,h,H,h0=>by
  rw[zbZ];by_cases hs:sh p t=2
  ·rw[if_pos hs];refine ⟨λt' e=>?_,λe=>(by cases e)⟩;cases e;exact ⟨H,.refl _,λr=>⟨λhr=>⟨hr,zwO ((zn6 (zbR H) hr).mpr hs)⟩,λhr=>hr.1⟩⟩
  ·rw[if_neg hs];have h1:sh p t=1:=by
    rcases zk5 (p:=p) t with e|e|e
    ·exact absurd e h0
    ·exact e
    ·exact absurd e hs
   cases t with
   |lf g=>exact absurd h1 zsZ
   |nd r bs =>
    show zeM p _ (zvR (zbZ n p) p r bs);simp only[dep] at h;have hd:=zaW.mp (by omega:zcY bs<=n);have hd8:∀ b∈bs,dep b<=7:=λb hb=>waN (hd b hb) xwo;obtain ⟨_,hk,hlen⟩:=H.kids;have hnn:¬ ∀ x∈bs,sh p x=0:=zhu (t:=.nd r bs) (.refl _) h0;obtain ⟨A,b,B,e,hA,hb⟩:=zcO hnn;unfold zvR;by_cases hw:(ws p 0 bs).length+1=bs.length
    ·rw[if_pos hw];have hB:∀ x∈B,sh p x=0:=by
      rw[e,zj6,zfF,if_neg hb,zgw hA] at hw;simp only[wav,wan,List.nil_append] at hw;have:(ws p 0 B).length=B.length:=by omega
      intro x hx;have e2:ws p 0 B=B:=List.filter_sublist.eq_of_length this;rw[<- e2] at hx;exact (zcK.mp hx).2
     subst e;rw[zuN hA hB hb,Option.map_map];exact zpf H (zaJ.mpr ⟨hA,hB⟩) hb (zhp n b xwo (hd b xws) (hk b xws) hb)
    ·rw[if_neg hw];have h2:(ws p 0 bs).length+2<=bs.length:=by
      have hle:(ws p 0 bs).length<=bs.length:=List.length_filter_le _ _;have:(ws p 0 bs).length≠bs.length:=λz=>hnn λx hx=>by have e2:ws p 0 bs=bs:=List.filter_sublist.eq_of_length z;rw[<- e2] at hx;exact (zcK.mp hx).2
      omega
     cases r with
     |true =>
      rw[if_pos rfl];have L:LOK p (zcm 7 p) bs:=⟨λx hx=>zhB 7 x (λ_=>hd8 x hx) (hk x hx),λx _ q=>zd5 q,hk⟩
      have R:=zpC H (zkp L h2) (waN hlen (by have:=zkx (f:=zcm 7 p) (p:=p) (os:=bs) (acc:=[]) λy hy=>(L.lean y hy).ne (hk y hy);simpa using this))
      split
      ·rename_i q;exact R.1 q
      ·rename_i q;exact R.2 q
     |false =>
      rw[if_neg xwd];obtain ⟨T,hl⟩:=zmb (n:=7) H hd8 h2;have R:=zqa H h2 T hl;split
      ·rename_i q;exact R.1 q
      ·rename_i q;exact R.2 q
theorem zqW{r:Bool}{bs:List Tr}{Z:Ev}(h:zab 0 Z=.ok (toD (.nd r bs),Z)):dIt (dOp gIx (zab 0) (dC (.int 1))) Z=.ok (bs.map toD,Z):=by unfold dIt;rw[ze2 h,zaU];rfl
theorem zvU{t:Tr}{Z:Ev}{f:DS}(h:zab 0 Z=.ok (toD t,Z)):dIf (dTB (zai zcM (dR (zab 0) dR0))) f dNx Z=if zxZ t=true then f Z else .ok (.nx,Z):=by
 have e:=za5 (zdy h (zlP t));cases hl:zxZ t with
 |true=>rw[hl] at e;rw[zdw e];rfl
 |false=>rw[hl] at e;rw[zbN e];rfl
theorem zlp{F:FD}{r:Bool}{bs:List Tr}(IH:∀ b∈bs,F [.val (toD b)]=.ok (.lst ((zad b).map .int),[.val .non]))(hl:(zae bs).length<=1000):za0 false [false] 2 (zeJ F) [.val (toD (.nd r bs))]=.ok (.lst ((zae bs).map .int),[.val .non]):=by
 let T:Option B:=some (.val (toD (.nd r bs)));let Z0:Ev:=[T,none,none]
 let Z1:Ev:=[T,some (.own []),none]
 obtain ⟨Z',⟨o',rfl⟩,e⟩:=zc3 (u:=toD) (l:=bs) (g:=zb0 2) (body:=dEx (zhi 1 (zai F (dR (zab 2) dR0)))) (Z:=Z1) (I:=λdn Z=>∃ o',Z=[T,some (.own ((zae dn).map .int)),o']) (zqW (Z:=Z1) (r:=r) rfl) rfl ⟨none,rfl⟩
  (λdn b zbz e Z ⟨o',hρ⟩=>by
   subst hρ;have hb:b∈bs:=by rw[e];simp
   let r1:Ev:=[T,some (.own ((zae dn).map .int)),some (.val (toD b))]
   have hlen:(zae dn).length+(zad b).length<=1000:=by rw[e,zaH,List.flatMap_append,List.length_append,List.flatMap_cons,List.length_append] at hl;rw[zaH];lia
   refine ⟨r1,_,rfl,zhb (zq5 (Z1:=r1) (l:=(zad b).map .int) rfl (zdy (Z':=r1) (d:=toD b) rfl (IH b hb)) rfl rfl (by simp only[wag];lia)),some (.val (toD b)),?_⟩;show [T,some (B.own ((zae dn).map Dt.int++(zad b).map Dt.int)),_]=_;rw[<- List.map_append];have:zae (dn++[b])=zae dn++zad b:=by rw[zaH,List.flatMap_append,zaH];simp
   rw[this])
 refine zal (Z':=[T,some (.val (.lst ((zae bs).map .int))),o']) rfl ?_ rfl;show za2 (dIf (dTB (zai zcM (dR (zab 0) dR0))) (zbd (dFz (zc8 (dA (zab 0) dA0)))) dNx) (za2 (zdC 1 (zc8 dA0)) (za2 (ziF (dIt (dOp gIx (zab 0) (dC (.int 1)))) (zb0 2) (dEx (zhi 1 (zai F (dR (zab 2) dR0))))) (zbd (zgC 1)))) Z0=_;rw[zag (zvU (t:=.nd r bs) (Z:=Z0) rfl),zag (Z1:=Z1) rfl,zag e];rfl
theorem zha:∀(n:Nat)(t:Tr),dep t<=n->(zad t).length<=1000->zb4 n [.val (toD t)]=.ok (.lst ((zad t).map .int),[.val .non])
 |0,t,h,_=>by cases t <;> simp[dep] at h
 |n+1,.lf g,_,_=>by rw[toD,zad];exact zal (d:=.lst [.int g]) (Z':=[some (.val (.int g)),none,none]) rfl rfl rfl
 |n+1,.nd r bs,h,hl=>by simp only[dep] at h;rw[zad] at hl ⊢;exact zlp (F:=zb4 n) (λb hb=>zha n b (zaW.mp (by lia:zcY bs<=n) b hb) (by have:=zcz hb;lia)) hl
end Lw
end
section
namespace LQ
open PySem PySem.Spec L2 PV Lw
noncomputable def mn(t:Tr):Int:=(zaR (zad t)).headD 0
noncomputable def zoK(r:Bool)(l:List Tr):List Tr:=if r then (if mn (l.headD (.lf 0)) > mn (l.getLastD (.lf 0)) then l.reverse else l) else byK (l.map mn) l
mutual
noncomputable def zaj:Tr->Tr
 |.lf i=>.lf i
 |.nd r l=>.nd r (zoK r (zl6 l))
noncomputable def zl6:List Tr->List Tr
 |[]=>[]
 |t::r=>zaj t::zl6 r
end
theorem zc4:∀ l:List Tr,zl6 l=l.map zaj
 |[]=>by simp[zl6]
 |t::r=>by simp[zl6,zc4 r]
theorem zbG:∀(n:Nat)(t:Tr),dep t<=n->okT t=true->zad t≠[]
 |n,.lf i,_,_=>by simp[zad]
 |0,.nd r l,h,_=>by simp[dep] at h
 |n+1,.nd r l,h,ho=>by
  simp only[dep,okT,wae,war] at h ho;cases l with
  |nil=>have:=ho.1;cases r <;> simp at this
  |cons t q =>
   simp only[zij,wae] at ho;have:=zbG n t (by simp only[zcY] at h;lia) ho.2.1;simp only[zad,zae];intro z;exact this (List.append_eq_nil_iff.mp z).1
theorem zoq{l:List Int}(h:l≠[]):(zaR l).headD 0∈l:=by
 have hp:=zaI l;cases e:zaR l with
 |nil=>rw[e] at hp;exact absurd hp.symm.eq_nil h
 |cons a r=>rw[e] at hp;exact hp.mem_iff.mp xws
theorem zu5{l:List Int}{x:Int}(h:x∈l):(zaR l).headD 0<=x:=by
 have hp:=zaI l;have ha:=zcn l;cases e:zaR l with
 |nil=>rw[e] at hp;rw[hp.symm.eq_nil] at h;cases h
 |cons a r =>
  rw[e] at hp ha;rcases wap.mp (hp.mem_iff.mpr h) with rfl|z
  ·simp
  ·simpa using (List.pairwise_cons.mp ha).1 x z
theorem zxx{t:Tr}(h:zad t≠[]):mn t∈zad t:=zoq h
inductive Tw:Tr->Tr->Prop
 |lf (i:Int):Tw (.lf i) (.lf i)
 |any {l l1 l2:List Tr}:Paired Tw l l1->l1.Perm l2->Tw (.nd false l) (.nd false l2)
 |row {l l1 l2:List Tr}:Paired Tw l l1->(l2=l1\/l2=l1.reverse)->Tw (.nd true l) (.nd true l2)
theorem zh4{l1 l2:List Tr}(h:l2=l1\/l2=l1.reverse):l1.Perm l2:=by
 rcases h with rfl|rfl
 ·exact .refl _
 ·exact (List.reverse_perm _).symm
theorem zpY{l1 l2:List Tr}(h:l1.Perm l2):zij l2=zij l1/\(zae l2).Perm (zae l1)/\(∀ n,zcY l1<=n->zcY l2<=n)/\l2.length=l1.length:=by
 refine ⟨?_,?_,λn hn=>?_,h.length_eq.symm⟩
 ·rw[zco,zco,Bool.eq_iff_iff,List.all_eq_true,List.all_eq_true];exact ⟨λk t ht=>k t (h.mem_iff.mp ht),λk t ht=>k t (h.mem_iff.mpr ht)⟩
 ·rw[zaH,zaH];exact (h.flatMap_right zad).symm
 ·rw[zaW] at hn ⊢;exact λt ht=>hn t (h.mem_iff.mpr ht)
theorem zd6{n:Nat}(ih:∀ t t',dep t<=n->Tw t t'->okT t'=okT t/\(zad t').Perm (zad t)/\dep t'<=dep t):∀{l l1:List Tr},Paired Tw l l1->zcY l<=n->zij l1=zij l/\(zae l1).Perm (zae l)/\zcY l1<=zcY l/\l1.length=l.length
 |_,_,.nil,_=>by simp[zae,zcY]
 |t::l,t'::l1,.cons h r,hd=>by simp only[zcY] at hd;obtain ⟨a1,a2,a3⟩:=ih t t' xwl h;obtain ⟨b1,b2,b3,b4⟩:=zd6 ih r xwl;simp only[zij,zae,zcY,wan];exact ⟨by rw[a1,b1],a2.append b2,xwl,xwl⟩
theorem zhz(n:Nat):∀(t t':Tr),dep t<=n->Tw t t'->okT t'=okT t/\(zad t').Perm (zad t)/\dep t'<=dep t:=by
 induction n with
 |zero =>
  intro t t' hd h;cases t <;> simp[dep] at hd
 |succ n ih =>
  intro t t' hd h;cases h with
  |lf i=>exact ⟨rfl,.refl _,wal _⟩
  |any hp hq =>
   simp only[dep] at hd;obtain ⟨b1,b2,b3,b4⟩:=zd6 ih hp xwl;obtain ⟨c1,c2,c3,c4⟩:=zpY hq;simp only[okT,zad,dep];refine ⟨by rw[c1,b1,c4,b4],c2.trans b2,?_⟩;have:=c3 _ b3;lia
  |row hp hq =>
   simp only[dep] at hd;obtain ⟨b1,b2,b3,b4⟩:=zd6 ih hp xwl;obtain ⟨c1,c2,c3,c4⟩:=zpY (zh4 hq);simp only[okT,zad,dep];refine ⟨by rw[c1,b1,c4,b4],c2.trans b2,?_⟩;have:=c3 _ b3;lia
theorem zsu{α:Type}{ks:List Int}{l:List α}(h:ks.length=l.length):(byK ks l).Perm l:=by have:=(zbL (ks.zip l)).map Prod.snd;rw[List.map_snd_zip xwl] at this;exact this
theorem zck{α β:Type}{F:α->β->Prop}(f:α->β):∀{l:List α},(∀ a∈l,F a (f a))->Paired F l (l.map f)
 |[],_=>.nil
 |a::l,h=>.cons (h a xws) (zck f λb hb=>h b (by simp[hb]))
theorem zg2:∀(n:Nat)(t:Tr),dep t<=n->Tw t (zaj t)
 |n,.lf i,_=>by simp only[zaj];exact .lf i
 |0,.nd r l,h=>by simp[dep] at h
 |n+1,.nd r l,h=>by
  simp only[dep] at h;have hp:Paired Tw l (l.map zaj):=zck zaj λt ht=>zg2 n t (zaW.mp (by lia:zcY l<=n) t ht);simp only[zaj];rw[zc4];cases r with
  |false =>
   refine .any hp ?_;show (l.map zaj).Perm (byK _ _);exact (zsu xws).symm
  |true =>
   refine .row hp ?_;unfold zoK;simp only[if_true];split
   ·exact .inr rfl
   ·exact .inl rfl
theorem zjK{f:Tr->Int}:∀{l:List Tr},(∀ t∈l,f t∈zad t)->(zae l).Nodup->(l.map f).Nodup
 |[],_,_=>by simp
 |t::r,hm,hn=>by
  simp only[zae] at hn;rw[List.nodup_append] at hn;rw[List.map_cons,List.nodup_cons];refine ⟨λz=>?_,zjK (λu hu=>hm u (by simp[hu])) hn.2.1⟩;obtain ⟨u,hu,e⟩:=List.mem_map.mp z;have h1:=hm t xws;have h2:f t∈zae r:=by rw[zaH,List.mem_flatMap];exact ⟨u,hu,by rw[<- e];exact hm u (by simp[hu])⟩
  exact hn.2.2 _ h1 _ h2 rfl
theorem zxs{l1 l2:List Tr}{f:Tr->Int}(h:l1.Perm l2)(hn:(l1.map f).Nodup):byK (l2.map f) l2=byK (l1.map f) l1:=by
 unfold byK;have hz:∀ l:List Tr,(l.map f).zip l=l.map λt=>(f t,t):=λl=>by
  induction l with
  |nil=>rfl
  |cons a r ih=>simp[ih]
 rw[hz,hz];have hp:(zgM (l2.map λt=>(f t,t))).Perm (zgM (l1.map λt=>(f t,t))):=(zbL _).trans ((h.symm.map _).trans (zbL _).symm);rw[zuv hp ?_ (zeO _) (zeO _)];have q:=((zbL (l2.map λt=>(f t,t))).map Prod.fst).trans ((h.symm.map (λt=>(f t,t))).map Prod.fst);rw[q.nodup_iff];rw[List.map_map];exact hn
theorem zin{n:Nat}(ih:∀ t t',dep t<=n->Tw t t'->okT t=true->(zad t).Nodup->zaj t'=zaj t):∀{l l1:List Tr},Paired Tw l l1->zcY l<=n->zij l=true->(zae l).Nodup->l1.map zaj=l.map zaj
 |_,_,.nil,_,_,_=>rfl
 |t::l,t'::l1,.cons h r,hd,ho,hn=>by simp only[zcY] at hd;simp only[zij,wae] at ho;simp only[zae] at hn;rw[List.nodup_append] at hn;rw[List.map_cons,List.map_cons,ih t t' xwl h ho.1 hn.1,zin ih r xwl ho.2 hn.2.1]
theorem zkf{n:Nat}{l:List Tr}(hd:zcY l<=n)(ho:zij l=true):∀ t∈l.map zaj,mn t∈zad t:=λu hu=>by obtain ⟨t,ht,rfl⟩:=List.mem_map.mp hu;have h1:=zaW.mp hd t ht;rw[zco,List.all_eq_true] at ho;have h2:=zhz n t (zaj t) h1 (zg2 n t h1);exact zxx (zbG n _ (waN h2.2.2 h1) (by rw[h2.1];exact ho t ht))
theorem zdf{n:Nat}{l:List Tr}(hd:zcY l<=n)(ho:zij l=true)(hn:(zae l).Nodup):((l.map zaj).map mn).Nodup:=by refine zjK (zkf hd ho) ?_;have:=(zd6 (zhz n) (zck zaj λt ht=>zg2 n t (zaW.mp hd t ht)) hd).2.1;exact this.nodup_iff.mpr hn
theorem zqt{l:List Tr}(hl:2<=l.length)(hn:(l.map mn).Nodup):mn (l.headD (.lf 0))≠mn (l.getLastD (.lf 0)):=by
 cases l with
 |nil=>simp at hl
 |cons a r =>
  cases r with
  |nil=>simp at hl
  |cons b q =>
   rw[List.map_cons,List.nodup_cons] at hn;intro z;refine hn.1 ?_;have e:(a::b::q).getLastD (.lf 0)=(b::q).getLast xws:=by simp[List.getLastD]
   rw[e] at z;have z':mn a=mn ((b::q).getLast xws):=z;rw[z'];exact List.mem_map.mpr ⟨_,List.getLast_mem _,rfl⟩
theorem zte{l:List Tr}(hl:2<=l.length)(hn:(l.map mn).Nodup):zoK true l.reverse=zoK true l:=by
 have ne:=zqt hl hn;have h1:l.reverse.headD (.lf 0)=l.getLastD (.lf 0):=by simp[List.headD_eq_head?_getD,List.getLastD_eq_getLast?]
 have h2:l.reverse.getLastD (.lf 0)=l.headD (.lf 0):=by
  cases l with
  |nil=>rfl
  |cons a q=>simp
 unfold zoK;simp only[if_true,h1,h2];by_cases h:mn (l.headD (.lf 0)) > mn (l.getLastD (.lf 0))
 ·rw[if_pos h,if_neg xwl]
 ·rw[if_neg h,if_pos xwl,List.reverse_reverse]
theorem zqZ(n:Nat):∀(t t':Tr),dep t<=n->Tw t t'->okT t=true->(zad t).Nodup->zaj t'=zaj t:=by
 induction n with
 |zero =>
  intro t t' hd h;cases t <;> simp[dep] at hd
 |succ n ih =>
  intro t t' hd h ho hn;cases h with
  |lf i=>rfl
  |@any l l1 l2 hp hq =>
   simp only[dep] at hd;simp only[okT,wae] at ho;simp only[zad] at hn;have hd':zcY l<=n:=by lia
   have e:=zin ih hp hd' ho.2 hn;simp only[zaj,zc4];congr 1;show byK ((l2.map zaj).map mn) (l2.map zaj)=byK ((l.map zaj).map mn) (l.map zaj);have hpm:(l.map zaj).Perm (l2.map zaj):=by rw[<- e];exact hq.map _
   exact zxs hpm (zdf hd' ho.2 hn)
  |@row l l1 l2 hp hq =>
   simp only[dep] at hd;simp only[okT,wae,war,if_true] at ho;simp only[zad] at hn;have hd':zcY l<=n:=by lia
   have e:=zin ih hp hd' ho.2 hn;simp only[zaj,zc4];congr 1;rcases hq with rfl|rfl
   ·rw[e]
   ·rw[List.map_reverse,e];exact zte (by simp;lia) (zdf hd' ho.2 hn)
theorem zh6:∀{l:List Tr}{t:Tr},t∈l->(zae l).Nodup->(zad t).Nodup
 |[],_,h,_=>by cases h
 |u::l,t,h,hn=>by
  simp only[zae] at hn;rw[List.nodup_append] at hn;rcases wap.mp h with rfl|h
  ·exact hn.1
  ·exact zh6 h hn.2.1
theorem znU{t:Tr}(h:dep t<=8)(hl:(zad t).length<64):zdp [.val (toD t)]=.ok (.lst ((zaR (zad t)).map .int),[.val .non]):=by
 let Z:Ev:=[some (.val (toD t))]
 refine zal (Z':=Z) rfl ?_ rfl;have a0:zab 0 Z=.ok (toD t,Z):=rfl;exact zaY (zaN (zgK (zdy a0 (zha 8 t h xwl)) (zho xwl)))
theorem zfN{t:Tr}(h:dep t<=8)(hl:(zad t).length<64)(hne:zad t≠[]):za7 [.val (toD t)]=.ok (.int (mn t),[.val .non]):=by
 refine zal (Z':=[some (.val (toD t))]) rfl ?_ rfl;show zef [some (.val (toD t))]=_;have ec:=zdy (F:=zdp) (fa:=zab 0) (Z:=[some (.val (toD t))]) (Z':=[some (.val (toD t))]) rfl (znU h hl);unfold zef zbd dOp;rw[ec];have hne':zaR (zad t)≠[]:=λz=>hne (by have:=zaI (zad t);rw[z] at this;exact this.symm.eq_nil);cases e:zaR (zad t) with
 |nil=>exact absurd e hne'
 |cons a q =>
  simp only[R.bind_ok,dC,List.map_cons];have:gIx (.lst (.int a::q.map .int)) (.int 0)=.ok (.int a):=by unfold gIx;simp only[zfx]
  rw[this];simp only[R.bind_ok];unfold mn;rw[e];rfl
theorem zno{L:List Tr}(h:L≠[]):gIx (.lst (L.map toD)) (.int 0)=.ok (toD (L.headD (.lf 0))):=by
 cases L with
 |nil=>exact absurd rfl h
 |cons a q =>
  unfold gIx;simp only[List.map_cons,zfx];rfl
theorem zhx{α:Type}{l:List α}(h:l≠[]):atI l (-1)=l.getLast? := by
 unfold atI ixN;have hl:0<l.length:=List.length_pos_iff.mpr h;rw[if_neg xwd,if_pos xwl];have e:((-1:Int)+(l.length:Nat)).toNat=l.length-1:=by lia
 rw[e,Option.bind_some,List.getLast?_eq_getElem?]
theorem zuU{L:List Tr}(h:L≠[]):gIx (.lst (L.map toD)) (.int (-1))=.ok (toD (L.getLastD (.lf 0))):=by
 unfold gIx;have:atI (L.map toD) (-1)=some (toD (L.getLastD (.lf 0))):=by
  rw[zhx (by simpa using h),List.getLast?_map,List.getLastD_eq_getLast?];cases e:L.getLast? with
  |none=>exact absurd (List.getLast?_eq_none_iff.mp e) h
  |some a=>rfl
 simp only[this]
theorem znF{L:List Int}(h:L≠[]):gIx (.lst (L.map .int)) (.int 0)=.ok (.int (L.headD 0)):=by
 cases L with
 |nil=>exact absurd rfl h
 |cons a q =>
  unfold gIx;simp only[List.map_cons,zfx];rfl
theorem znx{L:List Int}(h:L≠[]):gIx (.lst (L.map .int)) (.int (-1))=.ok (.int (L.getLastD 0)):=by
 unfold gIx;have:atI (L.map Dt.int) (-1)=some (.int (L.getLastD 0)):=by
  rw[zhx (by simpa using h),List.getLast?_map,List.getLastD_eq_getLast?];cases e:L.getLast? with
  |none=>exact absurd (List.getLast?_eq_none_iff.mp e) h
  |some a=>rfl
 simp only[this]
theorem zmh:∀{l:List Int},l.Nodup->zhM l=true
 |[],_=>rfl
 |a::r,h=>by rw[List.nodup_cons] at h;unfold zhM;rw[zmh h.2,Bool.and_true];simpa using h.1
theorem zof{α β:Type}(f:α->β)(p:Int×α):∀ l:List (Int×α),zpa (p.1,f p.2) (l.map λq=>(q.1,f q.2))=(zpa p l).map λq=>(q.1,f q.2)
 |[]=>rfl
 |q::r=>by
  simp only[List.map_cons,zpa];split
  ·rfl
  ·simp only[List.map_cons,zof f p r]
theorem zlv{α β:Type}(f:α->β):∀ l:List (Int×α),zgM (l.map λq=>(q.1,f q.2))=(zgM l).map λq=>(q.1,f q.2)
 |[]=>rfl
 |q::r=>by simp only[List.map_cons,zgM,zlv f r];exact zof f q _
theorem zrn{α β:Type}(f:α->β)(ks:List Int)(l:List α):byK ks (l.map f)=(byK ks l).map f:=by
 unfold byK;have:ks.zip (l.map f)=(ks.zip l).map λq=>(q.1,f q.2):=by rw[List.zip_map_right];rfl
 rw[this,zlv,List.map_map,List.map_map];rfl
theorem zlx:∀{L:List Tr},(∀ t∈L,dep t<=8/\(zad t).length<64/\zad t≠[])->ze7 za7 (L.map toD)=some (L.map mn)
 |[],_=>rfl
 |t::r,h=>by have ht:=h t xws;have ih:ze7 za7 (r.map toD)=some (r.map mn):=zlx λu hu=>h u (wah _ hu);rw[List.map_cons,ze7,zfN ht.1 ht.2.1 ht.2.2];simp only[ih];rfl
theorem zw5{D:List Dt}{r:Bool}{x:Dt}{Z:Ev}{i:Nat}(h:Z[i]? = some (some (.val (.tup [.str (wd r),x])))):dTB (dOp (gEq false) (dOp gIx (zab i) (dC (.int 0))) (dC (.str (Str.ofString "any")))) Z=.ok (!r,Z):=by
 have e:dOp gIx (zab i) (dC (.int 0)) Z=.ok (.str (wd r),Z):=by unfold dOp zab;rw[h];rfl
 unfold dTB;rw[dOp,e];simp only[R.bind_ok,dC];rw[zbp (by rw[okN];exact zeu r) (by rw[okN];exact zi0),eqS,zto];rfl
theorem zwR{r:Bool}{x:Dt}{Z:Ev}{i:Nat}(h:Z[i]? = some (some (.val (.tup [.str (wd r),x])))):dTB (dOp (gEq false) (dOp gIx (zab i) (dC (.int 0))) (dC (.str (Str.ofString "row")))) Z=.ok (r,Z):=by
 have e:dOp gIx (zab i) (dC (.int 0)) Z=.ok (.str (wd r),Z):=by unfold dOp zab;rw[h];rfl
 unfold dTB;rw[dOp,e];simp only[R.bind_ok,dC];rw[zbp (by rw[okN];exact zeu r) (by rw[okN];exact zi7),eqS,ztL];rfl
theorem znC{n:Nat}{r:Bool}{l:List Tr}(hd:zcY l<=n)(ho:okT (.nd r l)=true)(hn:(zae l).Nodup)(hl:(zae l).length<64) :
  (∀ t∈l.map zaj,dep t<=n/\(zad t).length<64/\zad t≠[])/\((l.map zaj).map mn).Nodup/\l.map zaj≠[]/\2<=(l.map zaj).length/\(l.map zaj).length<64:=by
 simp only[okT,wae,war] at ho;have h2:2<=l.length:=by have:=ho.1;cases r <;> simp at this <;> lia
 refine ⟨λu hu=>?_,zdf hd ho.2 hn,?_,by simpa using h2,?_⟩
 ·obtain ⟨t,ht,rfl⟩:=List.mem_map.mp hu;have h1:=zaW.mp hd t ht;have ho':=ho.2;rw[zco,List.all_eq_true] at ho';obtain ⟨q1,q2,q3⟩:=zhz n t (zaj t) h1 (zg2 n t h1);refine ⟨waN q3 h1,?_,zbG n _ (waN q3 h1) (by rw[q1];exact ho' t ht)⟩;have:=zcz ht;rw[q2.length_eq];lia
 ·intro z;rw[List.map_eq_nil_iff] at z;rw[z] at h2;simp at h2
 ·rw[List.length_map];have:l.length<=(zae l).length:=by
   have hok:=ho.2;have:∀(l:List Tr),zcY l<=n->zij l=true->l.length<=(zae l).length:=by
    intro l
    induction l with
    |nil=>intros;simp
    |cons t q ih =>
     intro hd ho;simp only[zcY] at hd;simp only[zij,wae] at ho;have h1:=List.length_pos_iff.mpr (zbG n t xwl ho.1);have h2:=ih xwl ho.2;simp only[zae,wav,wan];lia
   exact this l hd hok
  lia
theorem zoo:∀(n:Nat)(t:Tr),n<=8->dep t<=n->okT t=true->(zad t).Nodup->(zad t).length<64->zbD n [.val (toD t)]=.ok (toD (zaj t),[.val .non])
 |0,t,_,h,_,_,_=>by cases t <;> simp[dep] at h
 |n+1,.lf i,h8,h,ho,hn,hl=>by refine zal (Z':=[some (.val (.int i)),none]) rfl ?_ rfl;rw[toD,zaj];rfl
 |n+1,.nd r l,h8,h,ho,hn,hl=>by
  simp only[dep] at h;simp only[zad] at hl hn;have hd:zcY l<=n:=by lia
  obtain ⟨B1,B2,B3,B4,B5⟩:=znC hd ho hn hl;have ho2:∀ t∈l,okT t=true:=by simp only[okT,wae] at ho;have:=ho.2;rw[zco,List.all_eq_true] at this;exact this
  have hn2:∀ t∈l,(zad t).Nodup:=λt ht=>zh6 ht hn;have hD:toD (.nd r l)=.tup [.str (wd r),.tup (zjL l)]:=by rw[toD]
  have e0:dIf (dTB (zai zcM (dR (zab 0) dR0))) (zbd (zab 0)) dNx [some (.val (toD (.nd r l))),none]=.ok (.nx,[some (.val (toD (.nd r l))),none]):=by have ec:=zdy (F:=zcM) (fa:=zab 0) (Z:=[some (.val (toD (.nd r l))),none]) (Z':=[some (.val (toD (.nd r l))),none]) rfl (zlP (.nd r l));unfold dIf dTB;rw[ec];rfl
  have e1:zaX 1 (dFz (zbl (dIt (dOp gIx (zab 0) (dC (.int 1)))) (zb0 2) dTT (zai (zbD n) (dR (zab 2) dR0)) 1)) [some (.val (toD (.nd r l))),none]=.ok (.nx,[some (.val (toD (.nd r l))),some (.val (.lst ((l.map zaj).map toD)))]):=by
   have:=zeb (Z0:=[some (.val (toD (.nd r l))),none]) (fi:=dIt (dOp gIx (zab 0) (dC (.int 1)))) (fe:=zai (zbD n) (dR (zab 2) dR0)) (l:=l) (u:=toD) (f:=λt=>toD (zaj t)) (ds:=zjL l) (j:=2) (by rw[hD];rfl) (zaU l) (by simp only[wag] at B5;lia)
    (λt ht=>zdy (Z':=[some (.val (toD (.nd r l))),none]++[some (.val (toD t))]) rfl (zoo n t xwl (zaW.mp hd t ht) (ho2 t ht) (hn2 t ht) (by have:=zcz ht;lia))) rfl
   unfold zaX dFz;rw[this];simp only[R.bind_ok];rw[List.map_map];rfl
  have e2:dIf (dTB (dOp (gEq false) (dOp gIx (zab 0) (dC (.int 0))) (dC (.str (Str.ofString "any"))))) (zaX 1 (dFz (zl3 za7 (zab 1)))) (dIf (dTB (dOp gGt (zai za7 (dR (dOp gIx (zab 1) (dC (.int 0))) dR0)) (zai za7 (dR (dOp gIx (zab 1) (zpg (dC (.int 1)))) dR0)))) (zaX 1 (dFz (zgj (zab 1)))) dNx) [some (.val (toD (.nd r l))),some (.val (.lst ((l.map zaj).map toD)))]=.ok (.nx,[some (.val (toD (.nd r l))),some (.val (.lst ((zoK r (l.map zaj)).map toD)))]):=by
   unfold dIf;rw[zw5 (D:=[]) (r:=r) (x:=.tup (zjL l)) (by rw[hD];rfl)];simp only[R.bind_ok];cases r with
   |false =>
    simp only[Bool.not_false,if_true];unfold zaX dFz zl3;show ((((match ze7 za7 ((l.map zaj).map toD) with|some ks=>if (decide (((l.map zaj).map toD).length<64) && zhM ks)=true then R.ok (byK ks ((l.map zaj).map toD),_) else .no|none=>.no):R (List Dt×Ev)).bind _).bind _)=_;rw[zlx λt ht=>by have:=B1 t ht;exact ⟨xwl,this.2⟩]
    simp only;rw[zmh B2,if_pos (by simp only[Bool.and_true,decide_eq_true_eq,List.length_map] at B5 ⊢;exact B5)];rw[zrn];rfl
   |true =>
    rw[if_neg xwd];have c1:=zdy (F:=za7) (fa:=dOp gIx (zab 1) (dC (.int 0))) (Z:=[some (.val (toD (.nd true l))),some (.val (.lst ((l.map zaj).map toD)))]) (Z':=[some (.val (toD (.nd true l))),some (.val (.lst ((l.map zaj).map toD)))]) (d:=toD ((l.map zaj).headD (.lf 0))) (by
      show ((gIx (.lst ((l.map zaj).map toD)) (.int 0)).bind _)=_;rw[zno B3];rfl) (by
      have hm:(l.map zaj).headD (.lf 0)∈l.map zaj:=by
       cases e:l.map zaj with
       |nil=>exact absurd e B3
       |cons a q=>simp
      have:=B1 _ hm;exact zfN xwl this.2.1 this.2.2)
    have c2:=zdy (F:=za7) (fa:=dOp gIx (zab 1) (zpg (dC (.int 1)))) (Z:=[some (.val (toD (.nd true l))),some (.val (.lst ((l.map zaj).map toD)))]) (Z':=[some (.val (toD (.nd true l))),some (.val (.lst ((l.map zaj).map toD)))]) (d:=toD ((l.map zaj).getLastD (.lf 0))) (by
      show ((gIx (.lst ((l.map zaj).map toD)) (.int (-1))).bind _)=_;rw[zuU B3];rfl) (by
      have hm:(l.map zaj).getLastD (.lf 0)∈l.map zaj:=by
       rw[List.getLastD_eq_getLast?];cases e:(l.map zaj).getLast? with
       |none=>exact absurd (List.getLast?_eq_none_iff.mp e) B3
       |some a=>exact List.mem_of_getLast? e
      have:=B1 _ hm;exact zfN xwl this.2.1 this.2.2)
    have c3:dTB (dOp gGt (zai za7 (dR (dOp gIx (zab 1) (dC (.int 0))) dR0)) (zai za7 (dR (dOp gIx (zab 1) (zpg (dC (.int 1)))) dR0))) [some (.val (toD (.nd true l))),some (.val (.lst ((l.map zaj).map toD)))]=.ok (decide (mn ((l.map zaj).getLastD (.lf 0))<mn ((l.map zaj).headD (.lf 0))),[some (.val (toD (.nd true l))),some (.val (.lst ((l.map zaj).map toD)))]):=by exact za5 (zar c1 c2 rfl)
    rw[c3];simp only[R.bind_ok];unfold zoK;rw[if_pos rfl];by_cases hgt:mn ((l.map zaj).getLastD (.lf 0))<mn ((l.map zaj).headD (.lf 0))
    ·rw[if_pos (decide_eq_true hgt),if_pos hgt];rw[List.map_reverse];rfl
    ·rw[if_neg (by simpa using hgt),if_neg hgt];rfl
  refine zal (Z':=[some (.val (toD (.nd r l))),some (.val (.lst ((zoK r (l.map zaj)).map toD)))]) rfl ?_ rfl;show zfU (zbD n) [some (.val (toD (.nd r l))),none]=_;unfold zfU za2;rw[e0];simp only[R.bind_ok];rw[e1];simp only[R.bind_ok];rw[e2];simp only[R.bind_ok];rw[zaj,zc4,hD,toD];simp only[zaU];rfl
noncomputable def zgz(a b:Tr):Prop:=∀ x,x∈zaw a ↔ x∈zaw b
theorem zgz.symm{a b:Tr}(h:zgz a b):zgz b a:=λx=>(h x).symm
theorem zhH{F:Tr->Tr->Prop}{p bs:List Tr}(h:p.Perm bs):∀{q:List Tr},Paired F p q->∃ l,Paired F bs l/\q.Perm l:=by
 induction h with
 |nil=>intro q hq;cases hq;exact ⟨[],.nil,.refl _⟩
 |cons x _ ih =>
  intro q hq;cases hq with
  |cons h1 h2=>obtain ⟨l,a,b⟩:=ih h2;exact ⟨_::l,.cons h1 a,b.cons _⟩
 |swap x y l =>
  intro q hq;cases hq with
  |cons h1 h2=>cases h2 with
   |cons h3 h4=>exact ⟨_,.cons h3 (.cons h1 h4),.swap _ _ _⟩
 |trans _ _ ih1 ih2 =>
  intro q hq;obtain ⟨l,a,b⟩:=ih1 hq;obtain ⟨m,c,d⟩:=ih2 a;exact ⟨m,c,b.trans d⟩
theorem zee{F:Tr->Tr->Prop}:∀{a b c d:List Tr},Paired F a b->Paired F c d->Paired F (a++c) (b++d)
 |_,_,_,_,.nil,h=>h
 |_,_,_,_,.cons x y,h=>.cons x (zee y h)
theorem zdb{F:Tr->Tr->Prop}:∀{a b:List Tr},Paired F a b->Paired F a.reverse b.reverse
 |_,_,.nil=>.nil
 |_,_,.cons x y=>by rw[List.reverse_cons,List.reverse_cons];exact zee (zdb y) (.cons x .nil)
theorem zhO{F G:Tr->Tr->Prop}(h:∀ a b,F a b->G b a):∀{p q:List Tr},Paired F p q->Paired G q p
 |_,_,.nil=>.nil
 |_,_,.cons x y=>.cons (h _ _ x) (zhO h y)
theorem zls{x:List Int}:∀{p q:List Tr}{ys:List (List Int)},Paired zgz p q->Paired (λy t=>y∈zaw t) ys p->Paired (λy t=>y∈zaw t) ys q
 |_,_,_,.nil,.nil=>.nil
 |_,_,_,.cons h t,.cons a b=>.cons ((h _).mp a) (zls (x:=x) t b)
theorem half{r:Bool}{l l2:List Tr}{x:List Int}(h:∀ p∈arr r l,∃ q∈arr r l2,Paired zgz p q)(hx:x∈zaw (.nd r l)):x∈zaw (.nd r l2):=by obtain ⟨p,hp,ys,h1,h2⟩:=zbq.mp hx;obtain ⟨q,hq,hpq⟩:=h p hp;exact zbq.mpr ⟨q,hq,ys,zls (x:=x) hpq h1,h2⟩
theorem zrB{bs p:List Tr}:p∈arr false bs ↔ p.Perm bs:=by unfold arr;rw[if_neg xws];exact zdi _ _ _ rfl
theorem znf{bs p:List Tr}:p∈arr true bs ↔ p=bs\/p=bs.reverse:=by unfold arr;rw[if_pos rfl];simp
theorem zfW{n:Nat}(IH:∀ a b,dep a<=n->Tw a b->zgz a b):∀{p q:List Tr},(∀ t∈p,dep t<=n)->Paired Tw p q->Paired zgz p q
 |_,_,_,.nil=>.nil
 |_,_,h,.cons x y=>.cons (IH _ _ (h _ wau) x) (zfW IH (λt ht=>h t (wah _ ht)) y)
theorem zg3{r:Bool}{l l1 l2:List Tr}(hp:Paired zgz l l1)(h:if r then l2=l1\/l2=l1.reverse else l1.Perm l2):∀ p∈arr r l,∃ q∈arr r l2,Paired zgz p q:=λp hpa=>by
 cases r with
 |false =>
  obtain ⟨q,h1,h2⟩:=zhH (zrB.mp hpa).symm hp;exact ⟨q,zrB.mpr (h2.symm.trans h),h1⟩
 |true =>
  rcases znf.mp hpa with rfl|rfl
  ·refine ⟨l1,znf.mpr ?_,hp⟩;rcases h with rfl|rfl
   ·exact .inl rfl
   ·exact .inr (by rw[List.reverse_reverse])
  ·refine ⟨l1.reverse,znf.mpr ?_,zdb hp⟩;rcases h with rfl|rfl
   ·exact .inr rfl
   ·exact .inl rfl
theorem zpo{a b:Tr}(h:zgz a b):zgz b a:=λx=>(h x).symm
theorem zqK{r:Bool}{l l1 l2:List Tr}(hp:Paired zgz l l1)(h:if r then l2=l1\/l2=l1.reverse else l1.Perm l2):zgz (.nd r l) (.nd r l2):=λx =>
 ⟨half (zg3 hp h),half (r:=r) (l:=l2) (λp hpa=>by
  have hb:=zhO (λ_ _=>zpo) hp;cases r with
  |false =>
   obtain ⟨m,h1,h2⟩:=zhH (show l1.Perm l2 from h) hb;exact zg3 (r:=false) h1 h2.symm p hpa
  |true =>
   rcases h with rfl|rfl
   ·exact zg3 (r:=true) hb (.inl rfl) p hpa
   ·exact zg3 (r:=true) (zdb hb) (.inr (by rw[List.reverse_reverse])) p hpa)⟩
theorem zmt:∀(n:Nat)(a b:Tr),dep a<=n->Tw a b->zgz a b
 |n,.lf g,_,_,.lf _=>λ_=>Iff.rfl
 |0,.nd r bs,_,h,_=>by simp[dep] at h
 |n+1,.nd false bs,_,h,.any h1 h2=>zqK (r:=false) (zfW (zmt n) (zaW.mp (by simpa [dep] using h)) h1) h2
 |n+1,.nd true bs,_,h,.row h1 h2=>zqK (r:=true) (zfW (zmt n) (zaW.mp (by simpa [dep] using h)) h1) h2
theorem zn2{x y z:Dt}{bs:List B}:∀{Z:Ev}{k:Nat},ziH [.d x,.d y,.d z] bs k Z = Z
 |[],_=>rfl
 |o::r,k=>by show (match zeU [.d x,.d y,.d z] k with|some j=>bs[j]?|none=>o)::ziH [.d x,.d y,.d z] bs (k+1) r=_;rw[zn2 (Z:=r)];rfl
theorem zpy{F:FD}{fa fb fc:De}{Z Z1 Z2 Z3:Ev}{d e g y:Dt}{l:List B}(h:fa Z=.ok (d,Z1))(h2:fb Z1=.ok (e,Z2))(h3:fc Z2=.ok (g,Z3))(hF:F [.val d,.val e,.val g]=.ok (y,l)):zai F (dR fa (dR fb (dR fc dR0))) Z=.ok (y,Z3):=by unfold zai dR dR0;rw[h];simp only[R.bind_ok,h2,h3,zpc,zbB,if_true,zaE,hF];rw[zn2]
theorem zn7{F:FD}{fa:De}{Z Z':Ev}{d:Dt}{y:List Dt}{l:List B}(h:fa Z=.ok (d,Z'))(hF:F [.val d]=.ok (.lst y,l)):zbm F (dR fa dR0) Z=.ok (y,Z'):=by unfold zbm dR dR0;rw[h];simp only[R.bind_ok,zpc,zbB,if_true,zaE,hF];rw[znL]
theorem zqm:∀(n:Nat)(t:Tr),dep t<=n->okT t=true->dep t<=(zad t).length
 |0,t,h,_=>by cases t <;> simp[dep] at h
 |n+1,.lf g,_,_=>by simp[dep,zad]
 |n+1,.nd r l,h,ho=>by
  simp only[dep] at h ⊢;have hd:=zaW.mp (by omega:zcY l<=n);rw[okT,Bool.and_eq_true,decide_eq_true_eq,zco,List.all_eq_true] at ho;have h2:2<=l.length:=by have:=ho.1;cases r <;> simp at this <;> omega
  show zcY l+1<=(zae l).length;refine Nat.succ_le_of_lt (Nat.lt_of_le_of_lt (zaW.mpr λt ht=>?_:zcY l<=(zae l).length-1) ?_)
  ·have e:=zqm n t (hd t ht) (ho.2 t ht);obtain ⟨A,B,rfl⟩:=List.append_of_mem ht;have:∃ u,u∈A++B:=by
    cases e:A++B with
    |nil=>simp at e;simp[e.1,e.2] at h2
    |cons u q=>exact ⟨u,xws⟩
   obtain ⟨u,hu⟩:=this;have hu':u∈A++t::B:=by rcases wax.mp hu with q|q <;> simp[q]
   have e1:=List.length_pos_iff.mpr (zbG n u (hd u hu') (ho.2 u hu'));have e2:=zcz hu;rw[zbj] at e2 ⊢;simp only[zae,wav] at e2 ⊢;omega
  ·cases l with
   |nil=>simp at h2
   |cons t q =>
    have:=List.length_pos_iff.mpr (zbG n t (hd t xws) (ho.2 t xws));simp only[zae,wav];omega
structure Sm(t:Tr):Prop where
 ok:zdv t
 l:(zad t).length<=6
theorem Sm.d{t:Tr}(h:Sm t):dep t<=6:=waN (zqm _ t (wal _) h.ok.o) h.l
theorem Sm.ne{t:Tr}(h:Sm t):zad t≠[]:=zbR h.ok
variable{p:List Int}
theorem zcx{t:Tr}(S:Sm t):zbs [.val (toD t),.val (tz p)]=.ok (.int (sh p t:Nat),[.val .non,.val .non]):=by
 have hd:=S.d;have hl:=S.l;let G:=zaR (zad t);have hG:G.Perm (zad t):=zaI _;let M:=G.filter λg=>decide (g∈p);let Z0:Ev:=[some (.val (toD t)),some (.val (tz p)),none,none]
 let Z1:Ev:=[some (.val (toD t)),some (.val (tz p)),some (.val (.lst (G.map .int))),none]
 let Z2:Ev:=[some (.val (toD t)),some (.val (tz p)),some (.val (.lst (G.map .int))),some (.val (.int (M.length:Nat)))]
 refine zal (Z':=Z2) rfl ?_ rfl;refine (zag (Z1:=Z1) ?_).trans ((zag (Z1:=Z2) ?_).trans ?_)
 ·exact zaD (Z1:=Z0) (zdy (Z':=Z0) (d:=toD t) rfl (znU xwo xwo)) (show 2<4 by decide)
 ·refine zaD (Z1:=Z1) (zbH (d:=.lst (M.map .int)) (zaN ?_) (by simp[zb5,wag])) (show 3<4 by decide);refine zch (u:=Dt.int) (f:=Dt.int) (p:=λg=>decide (g∈p)) (l:=G) (ds:=G.map .int) rfl rfl rfl (by rw[hG.length_eq];omega) (λg hg=>?_) λg hg _=>rfl;refine za5 (zar (d:=.int g) (e:=tz p) rfl rfl ?_);rw[tz,(zgU rfl zim).1,zgD];rfl
 ·have e0:M.length=0 ↔ sh p t=0:=by rw[zoh,List.length_eq_zero_iff,List.filter_eq_nil_iff];exact ⟨λh g hg=>by simpa using h g (hG.mem_iff.mpr hg),λh g hg=>by simpa using h g (hG.mem_iff.mp hg)⟩
  have e2:M.length=G.length ↔ sh p t=2:=by rw[ztV S.ne,List.length_filter_eq_length_iff];exact ⟨λh g hg=>by simpa using h g (hG.mem_iff.mpr hg),λh g hg=>by simpa using h g (hG.mem_iff.mp hg)⟩
  have t0:dTB (dOp (gEq false) (zab 3) (dC (.int 0))) Z2=.ok (((M.length:Nat):Int) == 0,Z2):=za5 (zar (d:=.int (M.length:Nat)) (e:=.int 0) rfl rfl zra);have t2:dTB (dOp (gEq false) (zab 3) (dFn zb5 (dA (zab 2) dA0))) Z2=.ok (((M.length:Nat):Int) == ((G.length:Nat):Int),Z2):=za5 (zar (d:=.int (M.length:Nat)) (e:=.int (G.length:Nat)) rfl (zbH (d:=.lst (G.map .int)) rfl (by simp[zb5])) zra);rcases zk5 (p:=p) t with e|e|e
  ·rw[e0.mpr e] at t0;refine (zby (Z1:=Z2) (d:=.int 0) ?_).trans (by rw[e];rfl);exact (zdw t0).trans rfl
  ·have n0:(((M.length:Nat):Int) == 0)=false:=by rw[beq_eq_false_iff_ne];intro z;have:=e0.mp xwo;omega
   have n2:(((M.length:Nat):Int) == ((G.length:Nat):Int))=false:=by rw[beq_eq_false_iff_ne];intro z;have:=e2.mp xwo;omega
   rw[n0] at t0;rw[n2] at t2;refine (zag (Z1:=Z2) ((zbN t0).trans rfl)).trans (zaY ?_);unfold zjA;rw[t2,e];rfl
  ·have n0:(((M.length:Nat):Int) == 0)=false:=by rw[beq_eq_false_iff_ne];intro z;have:=e0.mp xwo;omega
   have n2:(((M.length:Nat):Int) == ((G.length:Nat):Int))=true:=by rw[beq_iff_eq];have:=e2.mpr e;omega
   rw[n0] at t0;rw[n2] at t2;refine (zag (Z1:=Z2) ((zbN t0).trans rfl)).trans (zaY ?_);unfold zjA;rw[t2,e];rfl
theorem zk9{l:List Tr}{d:Dt}{k:Nat}(hs:∀ t∈l,Sm t)(hd:zit d=some (l.map toD))(hl:l.length<=1000):zay [.val d,.val (tz p),.val (.int (k:Nat))]=.ok (.lst ((ws p k l).map toD),[.val .non,.val .non,.val .non]):=by
 let Z:Ev:=[some (.val d),some (.val (tz p)),some (.val (.int (k:Nat)))]
 refine zal (Z':=Z) rfl ?_ rfl;refine zaY (zaN ?_);refine (zch (u:=toD) (f:=toD) (p:=λb=>sh p b == k) (l:=l) (ds:=l.map toD) (fi:=dIt (zab 0)) (Z0:=Z) ?_ rfl rfl xwo (λb hb=>?_) λb hb _=>rfl).trans rfl
 ·have e:zab 0 Z=.ok (d,Z):=rfl;unfold dIt;rw[e];simp only[R.bind_ok];cases d <;> simp[zit] at hd
  all_goals rw[hd]
 ·refine za5 (zar (d:=.int (sh p b:Nat)) (e:=.int (k:Nat)) (zcX (d:=toD b) (e:=tz p) rfl rfl (zcx (hs b hb))) rfl ?_);rw[zra];have:(((sh p b:Nat):Int) == ((k:Nat):Int))=(sh p b == k):=by rw[Bool.eq_iff_iff,beq_iff_eq,beq_iff_eq];omega
  rw[if_neg xwd,this]
theorem zhs{l:List Tr}(hl:l.length<=1000):zbI [.val (.lst (l.map toD))]=.ok (.lst ((bun l).map toD),[.val .non]):=by
 let Z:Ev:=[some (.val (.lst (l.map toD)))]
 refine zal (Z':=Z) rfl ?_ rfl;have t0:dTB (dOp gLt (dFn zb5 (dA (zab 0) dA0)) (dC (.int 2))) Z=.ok (decide (((l.length:Nat):Int)<2),Z):=za5 (zar (d:=.int (l.length:Nat)) (e:=.int 2) (zbH (d:=.lst (l.map toD)) rfl (by simp[zb5])) rfl rfl);by_cases h:l.length<2
 ·rw[decide_eq_true xwo] at t0;refine (zby (Z1:=Z) (d:=.lst ((bun l).map toD)) ?_);refine (zdw t0).trans (zer ?_);rw[bun,if_pos h];rfl
 ·rw[decide_eq_false xwo] at t0;refine (zag (Z1:=Z) ((zbN t0).trans rfl)).trans (zer ?_);rw[bun,if_neg h,List.map_cons,List.map_nil,toD,zaU];rfl
variable{p:List Int}
theorem zjE{r:Bool}{bs:List Tr}(S:Sm (.nd r bs)):(∀ b∈bs,Sm b)/\bs.length<=6/\bs≠[]:=by
 obtain ⟨_,hk,hl⟩:=S.ok.kids;have h6:(zae bs).length<=6:=S.l;refine ⟨λb hb=>⟨hk b hb,waN (zcz hb) h6⟩,?_,λz=>by rw[z] at hl;cases r <;> simp at hl⟩;have:∀ l:List Tr,(∀ b∈l,zdv b)->l.length<=(zae l).length:=λl=>by
  induction l with
  |nil=>intro _;simp
  |cons t q ih =>
   intro h;have h1:=List.length_pos_iff.mpr (zbR (h t xws));have h2:=ih λb hb=>h b (by simp[hb]);simp only[zae,wav,wan];omega
 exact waN (this bs hk) h6
noncomputable abbrev lo2:DS:=dIf (dTB (dOp gGt (zai zbs (dR (dOp gIx (zab 2) (dC (.int 0))) (dR (zab 1) dR0))) (zai zbs (dR (dOp gIx (zab 2) (zpg (dC (.int 1)))) (dR (zab 1) dR0))))) (zeP (zqR (zab 2))) dNx
noncomputable abbrev zxO:DS:=za2 (zaX 3 (zai zay (dR (zab 2) (dR (zab 1) (dR (dC (.int 1)) dR0))))) (za2 (zaX 4 (dFz (zbm zbI (dR (zai zay (dR (zab 2) (dR (zab 1) (dR (dC (.int 0)) dR0)))) dR0)))) (zeP (zj1 (dFz (zj1 (zab 4) (zab 3))) (dFz (zbm zbI (dR (zai zay (dR (zab 2) (dR (zab 1) (dR (dC (.int 2)) dR0)))) dR0))))))
theorem zty:zeV=za2 (zaX 2 (dOp gIx (zab 0) (dC (.int 1)))) (za2 (dIf (dTB (dOp (gEq false) (dOp gIx (zab 0) (dC (.int 0))) (dC (.str (Str.ofString "any"))))) zxO dNx) (za2 lo2 (zeP (zdL ziY (dA (zab 2) dA0))))):=rfl
theorem zsj{L:List Tr}(h:L≠[]):gIx (.tup (L.map toD)) (.int 0)=.ok (toD (L.headD (.lf 0))):=by
 cases L with
 |nil=>exact absurd rfl h
 |cons a q =>
  unfold gIx;simp only[List.map_cons,zfx];rfl
theorem zsV{L:List Tr}(h:L≠[]):gIx (.tup (L.map toD)) (.int (-1))=.ok (toD (L.getLastD (.lf 0))):=by
 unfold gIx;have:atI (L.map toD) (-1)=some (toD (L.getLastD (.lf 0))):=by
  rw[zhx (by simpa using h),List.getLast?_map,List.getLastD_eq_getLast?];cases e:L.getLast? with
  |none=>exact absurd (List.getLast?_eq_none_iff.mp e) h
  |some a=>rfl
 simp only[this]
theorem zv0{L:List Tr}(h:L≠[]):L.headD (.lf 0)∈L:=by
 cases L with
 |nil=>exact absurd rfl h
 |cons a q=>simp
theorem zve{L:List Tr}(h:L≠[]):L.getLastD (.lf 0)∈L:=by rw[List.getLastD_eq_getLast?,List.getLast?_eq_some_getLast h];exact List.getLast_mem h
theorem zm6(l:List Tr):(bun l).length<=l.length:=by
 unfold bun;split
 ·exact wal _
 ·simp;omega
theorem zuZ{r:Bool}{bs:List Tr}(S:Sm (.nd r bs)):zdj [.val (toD (.nd r bs)),.val (tz p)]=.ok (.lst ((zb1 p r bs).map toD),[.val .non,.val .non]):=by
 obtain ⟨hk,hl,hne⟩:=zjE S;let T:Option B:=some (.val (toD (.nd r bs)));let P:Option B:=some (.val (tz p));let K:Option B:=some (.val (.tup (bs.map toD)));let Z0:Ev:=[T,P,none,none,none]
 let Z1:Ev:=[T,P,K,none,none]
 have hT:zab 0 Z0=.ok (toD (.nd r bs),Z0):=rfl;have e1:zaX 2 (dOp gIx (zab 0) (dC (.int 1))) Z0=.ok (.nx,Z1):=by have:=ze2 hT;rw[zaU] at this;exact zaD (Z1:=Z0) this (show 2<5 by decide)
 have hT1:zab 0 Z1=.ok (toD (.nd r bs),Z1):=rfl;have t0:=za5 (zkg hT1);have W:∀(k:Nat)(Z:Ev),zab 2 Z=.ok (.tup (bs.map toD),Z)->zab 1 Z=.ok (tz p,Z)->zai zay (dR (zab 2) (dR (zab 1) (dR (dC (.int (k:Nat))) dR0))) Z=.ok (.lst ((ws p k bs).map toD),Z):=λk Z h2 h1=>zpy h2 h1 rfl (zk9 hk rfl xwo);have wl:∀ k,(ws p k bs).length<=6:=λk=>waN (List.length_filter_le _ _) hl;cases r with
 |false =>
  let Z2:Ev:=[T,P,K,some (.val (.lst ((ws p 1 bs).map toD))),none]
  let Z3:Ev:=[T,P,K,some (.val (.lst ((ws p 1 bs).map toD))),some (.val (.lst ((bun (ws p 0 bs)).map toD)))]
  refine zal (Z':=Z3) rfl ?_ rfl;rw[zty];refine (zag e1).trans (zby ((zdw t0).trans ?_));refine (zag (Z1:=Z2) ?_).trans ((zag (Z1:=Z3) ?_).trans (zer ?_))
  ·exact zaD (Z1:=Z1) (W 1 Z1 rfl rfl) (show 3<5 by decide)
  ·exact zaD (Z1:=Z2) (zaN (zn7 (W 0 Z2 rfl rfl) (zhs (waN (wl 0) xwd)))) (show 4<5 by decide)
  ·have b0:=zm6 (ws p 0 bs);have b2:=zm6 (ws p 2 bs);have w0:=wl 0;have w1:=wl 1;have w2:=wl 2;have c1:zj1 (zab 4) (zab 3) Z3=.ok ((bun (ws p 0 bs)).map toD++(ws p 1 bs).map toD,Z3):=zma rfl rfl (by simp only[wag];omega);have:=zma (zaN c1) (zaN (zn7 (W 2 Z3 rfl rfl) (zhs (l:=ws p 2 bs) xwo))) (by simp only[wag,wav];omega);refine this.trans ?_;rw[zb1,if_neg xwd,List.map_append,List.map_append,List.append_assoc]
 |true =>
  refine zal (Z':=Z1) rfl ?_ rfl;rw[zty];refine (zag e1).trans ((zag (Z1:=Z1) ((zbN t0).trans rfl)).trans ?_);have g1:dTB (dOp gGt (zai zbs (dR (dOp gIx (zab 2) (dC (.int 0))) (dR (zab 1) dR0))) (zai zbs (dR (dOp gIx (zab 2) (zpg (dC (.int 1)))) (dR (zab 1) dR0)))) Z1=.ok (decide (((sh p (bs.getLastD (.lf 0)):Nat):Int)<((sh p (bs.headD (.lf 0)):Nat):Int)),Z1):=by refine za5 (zar (Z1:=Z1) (zcX (Z':=Z1) (zar (Z1:=Z1) (d:=.tup (bs.map toD)) (e:=.int 0) rfl rfl (zsj hne)) rfl (zcx (hk _ (zv0 hne)))) (zcX (Z':=Z1) (zar (Z1:=Z1) (d:=.tup (bs.map toD)) (e:=.int (-1)) rfl rfl (zsV hne)) rfl (zcx (hk _ (zve hne)))) ?_);rfl
  by_cases hgt:sh p (bs.headD (.lf 0)) > sh p (bs.getLastD (.lf 0))
  ·rw[decide_eq_true xwo] at g1;refine zby ((zdw g1).trans (zer ?_));have e:zab 2 Z1=.ok (.tup (bs.map toD),Z1):=rfl;unfold zqR;rw[e];simp only[R.bind_ok];rw[if_neg (by rw[List.length_map];exact λz=>hne (List.length_eq_zero_iff.mp z)),zb1,if_pos rfl,if_pos hgt,List.map_reverse]
  ·rw[decide_eq_false xwo] at g1;refine (zag (Z1:=Z1) ((zbN g1).trans rfl)).trans (zer ?_);rw[zb1,if_pos rfl,if_neg hgt];rfl
variable{p:List Int}
section
variable{f:Tr->List Tr}
theorem zmf:∀{dn acc:List Tr}{b:Tr},zbg f p acc (dn++[b])=zbg f p acc dn++(if ((zbg f p acc dn).any λx=>sh p x == 2)=true then (f b).reverse else f b)
 |[],acc,b=>rfl
 |a::dn,acc,b=>by rw[List.cons_append,zbg,zbg];exact zmf
theorem zkn:∀{os acc:List Tr}{x:Tr},x∈zbg f p acc os->x∈acc\/∃ b∈os,x∈f b
 |[],acc,x,h=>.inl h
 |b::os,acc,x,h=>by
  rw[zbg] at h;rcases zkn h with h|⟨c,hc,h⟩
  ·rcases wax.mp h with h|h
   ·exact .inl h
   ·refine .inr ⟨b,wau,?_⟩;split at h
    ·exact List.mem_reverse.mp h
    ·exact h
  ·exact .inr ⟨c,wah _ hc,h⟩
theorem znc{k:Nat}:∀{os acc:List Tr},(∀ b∈os,(f b).length<=k)->(zbg f p acc os).length<=acc.length+os.length * k
 |[],acc,_=>by simp[zbg]
 |b::os,acc,h=>by
  rw[zbg];refine waN (znc λc hc=>h c (wah _ hc)) ?_;have h1:=h b wau;have h2:(if (acc.any λx=>sh p x == 2)=true then (f b).reverse else f b).length=(f b).length:=by split <;> simp
  rw[List.length_append,h2,List.length_cons,Nat.succ_mul];omega
theorem ztv{acc:List Tr}:((acc.any λx=>sh p x == 2)=true) ↔ 0<(ws p 2 acc).length:=by
 rw[List.any_eq_true,List.length_pos_iff,ne_eq,List.filter_eq_nil_iff];constructor
 ·rintro ⟨x,hx,e⟩ h;exact h x hx e
 ·intro h;refine Classical.byContradiction λz=>h λx hx e=>z ⟨x,hx,e⟩
noncomputable abbrev zyf:De:=zsR 2 (zab 1) (dC (.int 2)) zay
noncomputable abbrev zwW(F:FD):DS:=za2 (zaX 4 (zai F (dR (zab 3) (dR (zab 1) dR0)))) (za2 (dIf (dTB (dOp gGt zyf (dC (.int 0)))) (zaX 4 (dFz (zgj (zab 4)))) dNx) (dEx (zhi 2 (zab 4))))
theorem zsb(F:FD):ztI F=za2 (zdC 2 (zc8 dA0)) (za2 (ziF (dIt (zab 0)) (zb0 3) (zwW F)) (zbd (zgC 2))):=rfl
theorem zlm{F:FD}{os:List Tr}{d:Dt}(hd:zit d=some (os.map toD))(hF:∀ b∈os,F [.val (toD b),.val (tz p)]=.ok (.lst ((f b).map toD),[.val .non,.val .non]))(hS:∀ b∈os,∀ x∈f b,Sm x)(hk:∀ b∈os,(f b).length<=6)(hl:os.length<=12) :
  zju F [.val d,.val (tz p)]=.ok (.lst ((zbg f p [] os).map toD),[.val .non,.val .non]):=by
 let D:Option B:=some (.val d);let P:Option B:=some (.val (tz p));let I:List Tr->Ev->Prop:=λdn Z=>∃ o3 o4,Z=[D,P,some (.own ((zbg f p [] dn).map toD)),o3,o4]
 let Z0:Ev:=[D,P,some (.own []),none,none]
 have hi:dIt (zab 0) Z0=.ok (os.map toD,Z0):=by
  have e:zab 0 Z0=.ok (d,Z0):=rfl;unfold dIt;rw[e];simp only[R.bind_ok];cases d <;> simp[zit] at hd
  all_goals rw[hd]
 obtain ⟨Z',⟨o3,o4,rfl⟩,hf⟩:=zc3 (u:=toD) (l:=os) (I:=I) (g:=zb0 3) (body:=zwW F) hi rfl ⟨none,none,rfl⟩ λdn b zbz e Z hI=>by
  obtain ⟨o3,o4,rfl⟩:=hI;have hb:b∈os:=by rw[e];simp
  have hsub:∀ c∈dn,c∈os:=λc hc=>by rw[e];simp[hc]
  have acl:(zbg f p [] dn).length<=72:=by
   have:=znc (p:=p) (acc:=[]) (os:=dn) λc hc=>hk c (hsub c hc);have:dn.length<=os.length:=by rw[e];simp
   simp at *;omega
  have acs:∀ x∈zbg f p [] dn,Sm x:=λx hx=>by
   rcases zkn hx with h|⟨c,hc,h⟩
   ·cases h
   ·exact hS c (hsub c hc) x h
  let A:=zbg f p [] dn;let Z1:Ev:=[D,P,some (.own (A.map toD)),some (.val (toD b)),o4]
  let M:=if (A.any λx=>sh p x == 2)=true then (f b).reverse else f b
  let Z2:Ev:=[D,P,some (.own (A.map toD)),some (.val (toD b)),some (.val (.lst ((f b).map toD)))]
  let Z3:Ev:=[D,P,some (.own (A.map toD)),some (.val (toD b)),some (.val (.lst (M.map toD)))]
  let Z4:Ev:=[D,P,some (.own (A.map toD++M.map toD)),some (.val (toD b)),some (.val (.lst (M.map toD)))]
  have Ml:M.length<=6:=by
   have:=hk b hb;show (if _ then _ else _:List Tr).length<=6;split
   ·rw[List.length_reverse];exact this
   ·exact this
  refine ⟨Z1,Z4,rfl,?_,⟨some (.val (toD b)),some (.val (.lst (M.map toD))),?_⟩⟩
  ·refine (zag (Z1:=Z2) ?_).trans ((zag (Z1:=Z3) ?_).trans ?_)
   ·exact zaD (Z1:=Z1) (zcX (Z':=Z1) (d:=toD b) (e:=tz p) rfl rfl (hF b hb)) (show 4<5 by decide)
   ·have hlen:zyf Z2=.ok (.int ((ws p 2 A).length:Nat),Z2):=by have w:=zk9 (p:=p) (k:=2) (d:=.lst (A.map toD)) acs rfl xwo;show (match zay [.val (.lst (A.map toD)),.val (tz p),.val (.int ((2:Nat):Int))] with|.ok (.lst ds,_)=>R.ok (Dt.int ds.length,Z2)|_=>.no)=_;rw[w];simp only[wag];rfl
    have tg:dTB (dOp gGt zyf (dC (.int 0))) Z2=.ok (decide ((0:Int)<((ws p 2 A).length:Nat)),Z2):=za5 (zar (e:=.int 0) hlen rfl rfl);by_cases ha:(A.any λx=>sh p x == 2)=true
    ·have:=ztv.mp ha;rw[decide_eq_true xwo] at tg;refine (zdw tg).trans ((zaD (Z1:=Z2) (d:=.lst (((f b).map toD).reverse)) rfl (show 4<5 by decide)).trans ?_);have eM:M=(f b).reverse:=if_pos ha;show R.ok (Fl.nx,[D,P,some (.own (A.map toD)),some (.val (toD b)),some (.val (.lst (((f b).map toD).reverse)))])=.ok (.nx,[D,P,some (.own (A.map toD)),some (.val (toD b)),some (.val (.lst (M.map toD)))]);rw[eM,List.map_reverse]
    ·have:¬ 0<(ws p 2 A).length:=λz=>ha (ztv.mpr z);rw[decide_eq_false xwo] at tg;refine (zbN tg).trans ?_;have eM:M=f b:=if_neg ha;show R.ok (Fl.nx,Z2)=.ok (.nx,[D,P,some (.own (A.map toD)),some (.val (toD b)),some (.val (.lst (M.map toD)))]);rw[eM]
   ·exact zhb (zq5 (Z1:=Z3) (l0:=A.map toD) (ds:=A.map toD) (l:=M.map toD) (d:=.lst (M.map toD)) rfl rfl rfl rfl (by have:A.length<=72:=acl;simp only[wag];omega))
  ·show [D,P,some (.own (A.map toD++M.map toD)),some (.val (toD b)),some (.val (.lst (M.map toD)))]=[D,P,some (.own ((zbg f p [] (dn++[b])).map toD)),some (.val (toD b)),some (.val (.lst (M.map toD)))]
   rw[zmf,List.map_append]
 refine zal (Z':=[D,P,some (.val (.lst ((zbg f p [] os).map toD))),o3,o4]) rfl ?_ rfl;rw[zsb];refine (zag (Z1:=Z0) rfl).trans ((zag hf).trans (zaY ?_));rfl
end
variable{p:List Int}
theorem zpT{l:List Tr}(h:∀ x∈l,zdv x)(h6:(zae l).length<=6):(∀ x∈l,Sm x)/\l.length<=6:=by
 refine ⟨λb hb=>⟨h b hb,waN (zcz hb) h6⟩,?_⟩;have:∀ l:List Tr,(∀ b∈l,zdv b)->l.length<=(zae l).length:=λl=>by
  induction l with
  |nil=>intro _;simp
  |cons t q ih =>
   intro h;have h1:=List.length_pos_iff.mpr (zbR (h t xws));have h2:=ih λb hb=>h b (by simp[hb]);simp only[zae,wav,wan];omega
 exact waN (this l h) h6
theorem zgS{n:Nat}{t:Tr}(S:Sm t)(h:sh p t=1->dep t<=n):(∀ x∈zcm n p t,Sm x)/\(zcm n p t).length<=6:=by have L:=zhB n t h S.ok;exact zpT L.ok (by rw[L.lv.length_eq];exact S.l)
theorem znn:∀(n:Nat)(t:Tr),Sm t->(sh p t=1->dep t<=n)->zd3 (n+1) [.val (toD t),.val (tz p)]=.ok (.lst ((zcm n p t).map toD),[.val .non,.val .non]):=by
 have body:∀(F:FD)(t:Tr),Sm t->dTB (dOp (gEq true) (zai zbs (dR (zab 0) (dR (zab 1) dR0))) (dC (.int 1))) [some (.val (toD t)),some (.val (tz p))]=.ok (!(((sh p t:Nat):Int) == 1),[some (.val (toD t)),some (.val (tz p))]):=λF t S=>by refine za5 (zar (Z1:=[some (.val (toD t)),some (.val (tz p))]) (e:=.int 1) (zcX (d:=toD t) (e:=tz p) rfl rfl (zcx S)) rfl ?_);rw[zra];rfl
 have one:∀(F:FD)(t:Tr),Sm t->sh p t≠1->za0 false [false,false] 0 (zkO F) [.val (toD t),.val (tz p)]=.ok (.lst ([t].map toD),[.val .non,.val .non]):=λF t S hs=>by refine zal (Z':=[some (.val (toD t)),some (.val (tz p))]) rfl ?_ rfl;have b:=body F t S;rw[show (((sh p t:Nat):Int) == 1)=false by rw[beq_eq_false_iff_ne];omega] at b;exact zby ((zdw b).trans rfl)
 intro n
 induction n with
 |zero =>
  intro t S h;have hs:sh p t≠1:=λz=>by have:=h z;cases t <;> simp[dep] at this
  rw[zd5 hs];exact one _ t S hs
 |succ n ih =>
  intro t S h;by_cases hs:sh p t=1
  ·cases t with
   |lf g=>exact absurd hs zsZ
   |nd r bs =>
    have hd:=h hs;simp only[dep] at hd;have hd':=zaW.mp (by omega:zcY bs<=n);obtain ⟨_,hk,_⟩:=S.ok.kids;obtain ⟨o1,o2⟩:=zpT (l:=zb1 p r bs) (λx hx=>(zhy hk S.ok.n hx).1) (by rw[(ztJ (p:=p) (r:=r) (bs:=bs)).length_eq];exact S.l);have hx1:∀ x∈zb1 p r bs,sh p x=1->dep x<=n:=λx hx z=>by
     rcases (zhy hk S.ok.n hx).2 with q|q
     ·exact absurd z q
     ·exact hd' x q
    rw[zcm,if_pos hs];show za0 false [false,false] 0 (zkO (zd3 (n+1))) _=.ok (.lst ((zbg (zcm n p) p [] (zb1 p r bs)).map toD),_);let Z:Ev:=[some (.val (toD (.nd r bs))),some (.val (tz p))]
    refine zal (Z':=Z) rfl ?_ rfl;have b:=body (zd3 (n+1)) (.nd r bs) S;rw[show (((sh p (.nd r bs):Nat):Int) == 1)=true by rw[beq_iff_eq];omega] at b;refine (zag (Z1:=Z) ((zbN b).trans rfl)).trans (zaY ?_);refine zcX (l:=[.val .non,.val .non]) (Z':=Z) (d:=.lst ((zb1 p r bs).map toD)) (e:=tz p) (zaN (zj7 (d:=toD (.nd r bs)) (e:=tz p) rfl rfl (zuZ S))) rfl ?_;exact zlm rfl (λx hx=>ih x (o1 x hx) (hx1 x hx)) (λx hx=>(zgS (o1 x hx) (hx1 x hx)).1) (λx hx=>(zgS (o1 x hx) (hx1 x hx)).2) xwo
  ·rw[zd5 hs];exact one _ t S hs
variable{p:List Int}
noncomputable def zg8(p:List Int):Nat->List Tr->List Int
 |_,[]=>[]
 |k,x::l=>if sh p x=2 then (k:Int)::zg8 p (k+1) l else zg8 p (k+1) l
noncomputable def enF:Nat->List Tr->List Dt
 |_,[]=>[]
 |k,x::l=>.tup [.int (k:Nat),toD x]::enF (k+1) l
theorem zw9:∀(l:List Tr)(k:Nat),((List.range' k l.length).zip (l.map toD)).map (λz=>Dt.tup [.int (z.1:Nat),z.2])=enF k l
 |[],_=>rfl
 |x::l,k=>by rw[List.length_cons,List.range'_succ,List.map_cons,List.zip_cons_cons,List.map_cons,zw9 l (k+1)];rfl
theorem zt7:∀(l:List Tr)(k:Nat),(enF k l).length=l.length
 |[],_=>rfl
 |x::l,k=>by rw[enF,List.length_cons,zt7 l,List.length_cons]
theorem zsD(l:List Tr):zoN (l.map toD)=enF 0 l:=by unfold zoN;rw[List.length_map,List.range_eq_range',zw9]
theorem zhw:∀{A:List Tr}{l:List Tr}{k:Nat},(∀ x∈A,sh p x=0)->zg8 p k (A++l)=zg8 p (k+A.length) l
 |[],l,k,_=>rfl
 |a::A,l,k,h=>by rw[List.cons_append,zg8,if_neg (by rw[h a List.mem_cons_self];decide),zhw λx hx=>h x (wah _ hx),wan];congr 1;omega
theorem zrf:∀{A l:List Tr}{k:Nat},zg8 p k (A++l)=zg8 p k A++zg8 p (k+A.length) l
 |[],l,k=>rfl
 |a::A,l,k=>by rw[List.cons_append,zg8,zg8,zrf,List.length_cons,show k+1+A.length=k+(A.length+1) by omega];split <;> rfl
theorem zmv:∀{A:List Tr}{k:Nat},(zg8 p k A).length=(ws p 2 A).length
 |[],_=>rfl
 |a::A,k=>by
  rw[zg8,zfF];split
  ·rw[List.length_cons,zmv];simp
  ·rw[zmv];rfl
theorem zpU{pc:List Tr}(hp:∀ x∈pc,sh p x=0\/sh p x=2)(hn:¬ ∀ x∈pc,sh p x=0) :
  zg8 p 0 pc≠[]/\(NAN p pc ↔ (zg8 p 0 pc).getLastD 0-(zg8 p 0 pc).headD 0=((zg8 p 0 pc).length:Int)-1):=by
 obtain ⟨A,b,B,rfl,hA,hb⟩:=zcO hn;have hb2:sh p b=2:=by
  rcases hp b xws with e|e
  ·exact absurd e hb
  ·exact e
 rw[zhw hA,Nat.zero_add];have hpre:NAN p (A++b::B) ↔ NAN p (b::B):=zj5 zxj hA λz=>hb (z b xws);rw[hpre];by_cases hB:∀ x∈B,sh p x=0
 ·have e:zg8 p A.length (b::B)=[(A.length:Int)]:=by rw[zg8,if_pos hb2];have:=zhw (l:=[]) (k:=A.length+1) hB;rw[List.append_nil] at this;rw[this];rfl
  rw[e];refine ⟨xws,⟨λ_=>by simp,λ_=>⟨[],[b],B,xws,xws,λx hx=>by rw[List.mem_singleton.mp hx];exact hb2,hB⟩⟩⟩
 ·obtain ⟨M,c,Zq,rfl,hZ,hc⟩:=znB hB;have hc2:sh p c=2:=by
   rcases hp c xws with e|e
   ·exact absurd e hc
   ·exact e
  have e:zg8 p A.length (b::(M++c::Zq))=(A.length:Int)::(zg8 p (A.length+1) M++[((A.length+1+M.length:Nat):Int)]):=by rw[zg8,if_pos hb2,zrf,zg8,if_pos hc2];have:=zhw (l:=[]) (k:=A.length+1+M.length+1) hZ;rw[List.append_nil] at this;rw[this];rfl
  rw[e];have hlast:((A.length:Int)::(zg8 p (A.length+1) M++[((A.length+1+M.length:Nat):Int)])).getLastD 0=((A.length+1+M.length:Nat):Int):=by rw[List.getLastD_eq_getLast?,<- List.cons_append,List.getLast?_append];rfl
  rw[hlast];refine ⟨xws,?_⟩;have hM:NAN p (b::(M++c::Zq)) ↔ ∀ x∈M,sh p x=2:=by rw[show b::(M++c::Zq)=[b]++(M++c::Zq) from rfl,NAN,zko (λz=>hb (z b xws)) (λz=>hc (z c xws)),show (M++c::Zq).reverse=Zq.reverse++([c]++M.reverse) by simp,zjH zxj (zbO.mpr hZ) (λz=>hc (z c xws)),zbO];exact ⟨λh=>h.2.2,λh=>⟨zqu λx hx=>by rw[List.mem_singleton.mp hx];exact hb2,zqu λx hx=>by rw[List.mem_singleton.mp hx];exact hc2,h⟩⟩
  rw[hM];simp only[List.headD_cons,wan,wav,List.length_nil,zmv];have hle:(ws p 2 M).length<=M.length:=List.length_filter_le _ _;constructor
  ·intro h;rw[zgw h];omega
  ·intro h;have e2:ws p 2 M=M:=List.filter_sublist.eq_of_length (show (ws p 2 M).length=M.length by omega);intro x hx;rw[<- e2] at hx;exact (zcK.mp hx).2
theorem znX{a b c d:Option B}{ft:DT}:∀{l:List Tr}{k:Nat}{o o2:Option B},(∀ x∈l,∀ o,ft [a,b,c,d,o,some (.val (toD x))]=.ok (decide (sh p x=2),[a,b,c,d,o,some (.val (toD x))])) ->
  ∃ o' o2',zbS (zhD 4 5) ft (zab 4) (enF k l) [a,b,c,d,o,o2]=.ok ((zg8 p k l).map .int,[a,b,c,d,o',o2'])
 |[],k,o,o2,_=>⟨o,o2,rfl⟩
 |x::l,k,o,o2,h=>by
  obtain ⟨o',o2',e⟩:=znX (l:=l) (k:=k+1) (o:=some (.val (.int (k:Nat)))) (o2:=some (.val (toD x))) λy hy=>h y (wah _ hy);refine ⟨o',o2',?_⟩;have hx:=h x wau (some (.val (.int (k:Nat))));rw[enF,zbS];have hg:zhD 4 5 (.tup [.int (k:Nat),toD x]) [a,b,c,d,o,o2]=.ok [a,b,c,d,some (.val (.int (k:Nat))),some (.val (toD x))]:=rfl;rw[hg];simp only[R.bind_ok,hx];by_cases q:sh p x=2
  ·have hv:zab 4 [a,b,c,d,some (.val (.int (k:Nat))),some (.val (toD x))]=.ok (.int (k:Nat),[a,b,c,d,some (.val (.int (k:Nat))),some (.val (toD x))]):=rfl;simp only[q,decide_true,if_true,hv,R.bind_ok,e];rw[zg8,if_pos q];rfl
  ·simp only[q,decide_false,Bool.false_eq_true,if_false,e];rw[zg8,if_neg q]
variable{p:List Int}
noncomputable abbrev pcs(p:List Int)(os:List Tr):List Tr:=zbg (zcm 7 p) p [] os
theorem zwH{os:List Tr}(hs:∀ x∈os,Sm x):∀ x∈pcs p os,Sm x:=λx hx=>by
 rcases zkn hx with h|⟨b,hb,h⟩
 ·cases h
 ·exact (zgS (hs b hb) λ_=>waN (hs b hb).d xwd).1 x h
theorem zqC{os:List Tr}(hs:∀ x∈os,Sm x)(hl:os.length<=12):(pcs p os).length<=72:=by have:=znc (p:=p) (f:=zcm 7 p) (k:=6) (acc:=[]) (os:=os) λb hb=>(zgS (hs b hb) λ_=>waN (hs b hb).d xwd).2;show (zbg (zcm 7 p) p [] os).length<=72;simp at this;omega
noncomputable abbrev zyx:DN:=zbl (zoX (zab 2)) (zhD 4 5) (dTB (dOp (gEq false) (zai zbs (dR (zab 5) (dR (zab 1) dR0))) (dC (.int 2)))) (zab 4) 2
noncomputable abbrev zsE:DT:=dTB (dOp (gEq false) (dOp zjG (dOp gIx (zab 3) (zpg (dC (.int 1)))) (dOp gIx (zab 3) (dC (.int 0)))) (dOp zjG (dFn zb5 (dA (zab 3) dA0)) (dC (.int 1))))
theorem zvq:zj2=za2 (zaX 2 (zai (zju (zd3 8)) (dR (zab 0) (dR (zab 1) dR0)))) (za2 (zaX 3 (dFz zyx)) (zbd (zjA zsE (zab 2) (dC .non)))):=rfl
open Classical in
theorem zn5{os:List Tr}{d:Dt}(hd:zit d=some (os.map toD))(hs:∀ x∈os,Sm x)(hl:os.length<=12)(hp:∀ x∈pcs p os,sh p x=0\/sh p x=2)(hn:¬ ∀ x∈pcs p os,sh p x=0) :
  zdc [.val d,.val (tz p)]=.ok (if NAN p (pcs p os) then .lst ((pcs p os).map toD) else .non,[.val .non,.val .non]):=by
 have hsm:=zwH (p:=p) hs;have hlen:=zqC (p:=p) hs hl;obtain ⟨hne,hiff⟩:=zpU hp hn;have e1:zju (zd3 8) [.val d,.val (tz p)]=.ok (.lst ((pcs p os).map toD),[.val .non,.val .non]):=zlm hd (λb hb=>znn 7 b (hs b hb) λ_=>waN (hs b hb).d xwd) (λb hb=>(zgS (hs b hb) λ_=>waN (hs b hb).d xwd).1) (λb hb=>(zgS (hs b hb) λ_=>waN (hs b hb).d xwd).2) hl;generalize pcs p os=pc at *;let D:Option B:=some (.val d);let P:Option B:=some (.val (tz p));let C:Option B:=some (.val (.lst (pc.map toD)));let L:=zg8 p 0 pc;let Z0:Ev:=[D,P,none,none]
 let Z1:Ev:=[D,P,C,none]
 let Z2:Ev:=[D,P,C,some (.val (.lst (L.map .int)))]
 refine zal (Z':=Z2) rfl ?_ rfl;rw[zvq];refine (zag (Z1:=Z1) ?_).trans ((zag (Z1:=Z2) ?_).trans (zaY ?_))
 ·exact zaD (Z1:=Z0) (zcX (Z':=Z0) (d:=d) (e:=tz p) rfl rfl e1) (show 2<4 by decide)
 ·have hc:zyx Z1=.ok (L.map .int,Z1):=by
   have he:zoX (zab 2) Z1=.ok (enF 0 pc,Z1):=by have e:zab 2 Z1=.ok (.lst (pc.map toD),Z1):=rfl;unfold zoX;rw[e];simp only[R.bind_ok];rw[zsD]
   obtain ⟨o',o2',e⟩:=znX (p:=p) (a:=D) (b:=P) (c:=C) (d:=none) (ft:=dTB (dOp (gEq false) (zai zbs (dR (zab 5) (dR (zab 1) dR0))) (dC (.int 2)))) (l:=pc) (k:=0) (o:=none) (o2:=none) λx hx o=>by
    refine za5 (zar (d:=.int (sh p x:Nat)) (e:=.int 2) (zcX (d:=toD x) (e:=tz p) rfl rfl (zcx (hsm x hx))) rfl ?_);rw[zra];have:((((sh p x:Nat):Int) == 2):Bool)=decide (sh p x=2):=by rw[Bool.eq_iff_iff,beq_iff_eq,decide_eq_true_eq];omega
    rw[if_neg xwd,this]
   unfold zyx zbl;rw[he];simp only[R.bind_ok];rw[if_pos (by unfold zhg;rw[decide_eq_true_eq,zt7];omega)];show (match zbS _ _ _ _ [D,P,C,none,none,none] with|.ok z=>R.ok (z.1,z.2.take 4)|_=>.no)=_;rw[e];rfl
  exact zaD (Z1:=Z1) (zaN hc) (show 3<4 by decide)
 ·have ht:zsE Z2=.ok (L.getLastD 0-L.headD 0 == (L.length:Int)-1,Z2):=by refine za5 (zar (Z1:=Z2) (d:=.int (L.getLastD 0-L.headD 0)) (e:=.int ((L.length:Int)-1)) (zar (Z1:=Z2) (d:=.int (L.getLastD 0)) (e:=.int (L.headD 0)) (zar (Z1:=Z2) (d:=.lst (L.map .int)) (e:=.int (-1)) rfl rfl (znx hne)) (zar (Z1:=Z2) (d:=.lst (L.map .int)) (e:=.int 0) rfl rfl (znF hne)) rfl) (zar (Z1:=Z2) (d:=.int (L.length:Nat)) (e:=.int 1) (zbH (d:=.lst (L.map .int)) rfl (by simp[zb5])) rfl rfl) zra)
  unfold zjA;rw[ht];simp only[R.bind_ok];by_cases h:NAN p pc
  ·rw[if_pos h,if_pos (beq_iff_eq.mpr (hiff.mp h))];rfl
  ·rw[if_neg h,if_neg (λz=>h (hiff.mpr (beq_iff_eq.mp z)))];rfl
variable{p:List Int}
noncomputable def toO:Option Tr->Dt
 |none=>.non
 |some t=>toD t
theorem zok{os pc:List Tr}(T:zgG p os pc)(hn:¬ ∀ x∈os,sh p x=0):¬ ∀ x∈pc,sh p x=0:=by refine zhu (t:=.nd true os) T.lv λz=>hn λx hx=>?_;rw[zoh] at z ⊢;intro g hg;exact z g (zaQ.mpr ⟨x,hx,hg⟩)
theorem zyi{os:List Tr}(h:(ws p 0 os).length+1<=os.length):¬ ∀ x∈os,sh p x=0:=λz=>by rw[zgw z] at h;omega
open Classical in
theorem zrc{bs:List Tr}(S:Sm (.nd true bs))(h2:(ws p 0 bs).length+2<=bs.length) :
  zcW [.val (.tup (bs.map toD)),.val (tz p)]=.ok (toO (if NAN p (pcs p bs) then some (.nd true (pcs p bs)) else none),[.val .non,.val .non]):=by
 obtain ⟨hk,hl,hne⟩:=zjE S;have L:LOK p (zcm 7 p) bs:=⟨λx hx=>zhB 7 x (λ_=>waN (hk x hx).d xwd) (hk x hx).ok,λx _ q=>zd5 q,λx hx=>(hk x hx).ok⟩
 have T:=zkp L h2;have E:=zn5 (p:=p) (os:=bs) (d:=.tup (bs.map toD)) rfl hk xwo T.pure (zok T (zyi xwo));let K:Option B:=some (.val (.tup (bs.map toD)));let P:Option B:=some (.val (tz p));let x:Dt:=if NAN p (pcs p bs) then .lst ((pcs p bs).map toD) else .non
 let Z1:Ev:=[K,P,some (.val x)]
 refine zal (Z':=Z1) rfl ?_ rfl;refine (zag (Z1:=Z1) (zaD (Z1:=[K,P,none]) (zcX (Z':=[K,P,none]) (d:=.tup (bs.map toD)) (e:=tz p) rfl rfl E) (show 2<3 by decide))).trans (zaY ?_);by_cases h:NAN p (pcs p bs)
 ·have hx:x=.lst ((pcs p bs).map toD):=if_pos h;have e1:Z1=[K,P,some (.val (.lst ((pcs p bs).map toD)))]:=by rw[<- hx]
  rw[e1,if_pos h];show R.ok (Dt.tup [.str (Str.ofString "row"),.tup ((pcs p bs).map toD)],_)=_;rw[toO,toD,zaU];rfl
 ·have hx:x=.non:=if_neg h;have e1:Z1=[K,P,some (.val .non)]:=by rw[<- hx]
  rw[e1,if_neg h];rfl
variable{p:List Int}
theorem zwd{bs:List Tr}:(zae (zeE p bs)).length<=(zae bs).length:=by
 rw[zeE,zbj,zbj,zic,<- zbj,<- zbj];have h:((ws p 1 bs).take 1++(ws p 2 bs++(ws p 1 bs).drop 1)).Perm (ws p 1 bs++ws p 2 bs):=by refine (List.Perm.append_left _ List.perm_append_comm).trans ?_;rw[<- List.append_assoc,List.take_append_drop]
 rw[(zbv h).length_eq];have:=(zbv (zcJ (p:=p) bs)).length_eq;rw[zbj,List.length_append] at this;omega
theorem zyu{l:List Tr}:ziE (l.map toD) none (some 1)=(l.take 1).map toD:=by have:=zti (l.map toD) 1;rw[List.map_take];exact this
theorem zyg{l:List Tr}:ziE (l.map toD) (some 1) none=(l.drop 1).map toD:=by have:=zjU (l.map toD) 1;rw[List.map_drop];exact this
noncomputable abbrev wsC(k:Int):De:=zai zay (dR (zab 0) (dR (zab 1) (dR (dC (.int k)) dR0)))
noncomputable abbrev zpq:De:=dFz (zj1 (dFz (zj1 (dFz (zlM (zab 2) dO0 (dO1 (dC (.int 1))))) (zab 3))) (dFz (zlM (zab 2) (dO1 (dC (.int 1))) dO0)))
noncomputable abbrev zvS:De:=zjA (dTB (dOp (gEq false) (dFn zb5 (dA (zab 4) dA0)) (dC (.int 1)))) (dOp gIx (zab 4) (dC (.int 0))) (zdO (dA (dC (.str (Str.ofString "row"))) (dA (dFn zbW (dA (zab 4) dA0)) dA0)))
noncomputable abbrev zwj:De:=dOp gIx (dFz (zbm zbI (dR (dFz (zj1 (wsC 0) (dFz (zc8 (dA (zab 5) dA0))))) dR0))) (dC (.int 0))
theorem zn1:zgr=za2 (zaX 2 (wsC 1)) (za2 (zaX 3 (dFz (zbm zbI (dR (wsC 2) dR0)))) (za2 (zaX 4 (zai zdc (dR zpq (dR (zab 1) dR0)))) (za2 (dIf (zoV true (zab 4)) (zbd (dC .non)) dNx) (za2 (zaX 5 zvS) (zbd zwj))))):=rfl
open Classical in
theorem zrj{bs:List Tr}(S:Sm (.nd false bs))(h2:(ws p 0 bs).length+2<=bs.length) :
  zda [.val (.tup (bs.map toD)),.val (tz p)]=.ok (toO (if NAN p (pcs p (zeE p bs)) then some ((bun (ws p 0 bs++[zjm (pcs p (zeE p bs))])).headD (.lf 0)) else none),[.val .non,.val .non]):=by
 obtain ⟨hk,hl,hne⟩:=zjE S;have h6:(zae bs).length<=6:=S.l;obtain ⟨T,_⟩:=zmb (p:=p) (n:=7) S.ok (λb hb=>waN (hk b hb).d xwd) h2;obtain ⟨o1,o2⟩:=zpT (l:=zeE p bs) (λx hx=>(zna (λb hb=>(hk b hb).ok) S.ok.n hx).1) (waN zwd h6);have hnn:¬ ∀ x∈pcs p (zeE p bs),sh p x=0:=by
  refine zok T λz=>?_;have hp:=zcJ (p:=p) bs;have hlen:=hp.length_eq;rw[List.length_append,List.length_append] at hlen;have q1:∀ x∈ws p 1 bs,x∈zeE p bs:=λx hx=>by
   rw[<- List.take_append_drop 1 (ws p 1 bs)] at hx;unfold zeE;rcases wax.mp hx with h|h
   ·exact waR _ h
   ·exact waz _ (waz _ h)
  have e1:ws p 1 bs=[]:=by
   cases e:ws p 1 bs with
   |nil=>rfl
   |cons a q =>
    have ha:a∈ws p 1 bs:=by rw[e];simp
    have:=z a (q1 a ha);rw[(zcK.mp ha).2] at this;cases this
  rw[e1,List.length_nil] at hlen;have hb2:=znV (p:=p) (l:=ws p 2 bs) (ziz λb hb=>(hk b hb).ok) (.inr rfl) λy hy=>(zcK.mp hy).2;cases e:bun (ws p 2 bs) with
  |nil =>
   unfold bun at e;split at e
   ·rw[e,List.length_nil] at hlen;omega
   ·cases e
  |cons a q =>
   have ha:a∈bun (ws p 2 bs):=by rw[e];simp
   have:=z a (by unfold zeE;exact waz _ (waR _ ha));rw[hb2 a ha] at this;cases this
 have E:=zn5 (p:=p) (os:=zeE p bs) (d:=.lst ((zeE p bs).map toD)) rfl o1 xwo T.pure hnn;let K:Option B:=some (.val (.tup (bs.map toD)));let P:Option B:=some (.val (tz p));let T1:Option B:=some (.val (.lst ((ws p 1 bs).map toD)));let C:Option B:=some (.val (.lst ((bun (ws p 2 bs)).map toD)));let x:Dt:=if NAN p (pcs p (zeE p bs)) then .lst ((pcs p (zeE p bs)).map toD) else .non
 let Z0:Ev:=[K,P,none,none,none,none]
 let Z1:Ev:=[K,P,T1,none,none,none]
 let Z2:Ev:=[K,P,T1,C,none,none]
 let Z3:Ev:=[K,P,T1,C,some (.val x),none]
 have W:∀(k:Nat)(Z:Ev),zab 0 Z=.ok (.tup (bs.map toD),Z)->zab 1 Z=.ok (tz p,Z)->zai zay (dR (zab 0) (dR (zab 1) (dR (dC (.int (k:Nat))) dR0))) Z=.ok (.lst ((ws p k bs).map toD),Z):=λk Z h2 h1=>zpy h2 h1 rfl (zk9 hk rfl xwo);have wl:∀ k,(ws p k bs).length<=6:=λk=>waN (List.length_filter_le _ _) hl;have w0:=wl 0;have w1:=wl 1;have w2:=wl 2;have b2:=zm6 (ws p 2 bs);have hcat:zpq Z2=.ok (.lst ((zeE p bs).map toD),Z2):=by
  have c1:zlM (zab 2) dO0 (dO1 (dC (.int 1))) Z2=.ok (((ws p 1 bs).take 1).map toD,Z2):=by rw[<- zyu];exact zms (x:=(ws p 1 bs).map toD) rfl rfl rfl
  have c2:zlM (zab 2) (dO1 (dC (.int 1))) dO0 Z2=.ok (((ws p 1 bs).drop 1).map toD,Z2):=by rw[<- zyg];exact zms (x:=(ws p 1 bs).map toD) rfl rfl rfl
  have c3:=zma (zaN c1) (show zab 3 Z2=.ok (.lst ((bun (ws p 2 bs)).map toD),Z2) from rfl) (by simp only[wag,List.length_take];omega);have c4:=zma (zaN c3) (zaN c2) (by simp only[wag,wav,List.length_take,List.length_drop];omega);refine (zaN c4).trans ?_;rw[zeE,List.map_append,List.map_append,List.append_assoc]
 have s1:zaX 2 (wsC 1) Z0=.ok (.nx,Z1):=zaD (Z1:=Z0) (W 1 Z0 rfl rfl) (show 2<6 by decide);have s2:zaX 3 (dFz (zbm zbI (dR (wsC 2) dR0))) Z1=.ok (.nx,Z2):=zaD (Z1:=Z1) (zaN (zn7 (W 2 Z1 rfl rfl) (zhs xwo))) (show 3<6 by decide);have s3:zaX 4 (zai zdc (dR zpq (dR (zab 1) dR0))) Z2=.ok (.nx,Z3):=zaD (Z1:=Z2) (zcX hcat (e:=tz p) rfl E) (show 4<6 by decide);by_cases h:NAN p (pcs p (zeE p bs))
 ·have hx:x=.lst ((pcs p (zeE p bs)).map toD):=if_pos h;have e1:Z3=[K,P,T1,C,some (.val (.lst ((pcs p (zeE p bs)).map toD))),none]:=by rw[<- hx]
  rw[if_pos h];have hpl:=zqC (p:=p) o1 xwo;generalize pcs p (zeE p bs)=pc at *;let Z4:Ev:=[K,P,T1,C,some (.val (.lst (pc.map toD))),some (.val (toD (zjm pc)))]
  refine zal (Z':=Z4) rfl ?_ rfl;rw[zn1];refine (zag s1).trans ((zag s2).trans ((zag s3).trans ?_));rw[e1];refine (zag (Z1:=[K,P,T1,C,some (.val (.lst (pc.map toD))),none]) rfl).trans ((zag (Z1:=Z4) ?_).trans (zaY ?_))
  ·refine zaD (Z1:=[K,P,T1,C,some (.val (.lst (pc.map toD))),none]) (d:=toD (zjm pc)) ?_ (show 5<6 by decide);have t1:dTB (dOp (gEq false) (dFn zb5 (dA (zab 4) dA0)) (dC (.int 1))) [K,P,T1,C,some (.val (.lst (pc.map toD))),none]=.ok (((pc.length:Nat):Int) == 1,[K,P,T1,C,some (.val (.lst (pc.map toD))),none]):=za5 (zar (d:=.int (pc.length:Nat)) (e:=.int 1) (zbH (d:=.lst (pc.map toD)) rfl (by simp[zb5])) rfl zra);unfold zvS zjA;rw[t1];simp only[R.bind_ok];by_cases h1:pc.length=1
   ·rw[if_pos (by rw[beq_iff_eq];omega),zjm,if_pos h1];exact zar (d:=.lst (pc.map toD)) (e:=.int 0) rfl rfl (zno (by intro z;rw[z] at h1;cases h1))
   ·rw[if_neg (by rw[beq_iff_eq];omega),zjm,if_neg h1,toD,zaU];rfl
  ·have c0:=zma (Z1:=Z4) (W 0 Z4 rfl rfl) (show dFz (zc8 (dA (zab 5) dA0)) Z4=.ok (.lst [toD (zjm pc)],Z4) from rfl) (by simp only[wag,wan,List.length_nil];omega);have e2:(ws p 0 bs).map toD++[toD (zjm pc)]=(ws p 0 bs++[zjm pc]).map toD:=by rw[List.map_append];rfl
   rw[e2] at c0;exact zar (Z1:=Z4) (e:=.int 0) (zaN (zn7 (zaN c0) (zhs (by simp only[wav,wan,List.length_nil];omega)))) rfl (zno (by
    unfold bun;split
    ·simp
    ·simp))
 ·have hx:x=.non:=if_neg h;have e1:Z3=[K,P,T1,C,some (.val .non),none]:=by rw[<- hx]
  rw[if_neg h];refine zal (Z':=[K,P,T1,C,some (.val .non),none]) rfl ?_ rfl;rw[zn1];refine (zag s1).trans ((zag s2).trans ((zag s3).trans ?_));rw[e1];rfl
variable{p:List Int}
theorem zxa:∀ o:Option Tr,eqD (toO o) .non=o.isNone
 |none=>by rw[toO,eqD];rfl
 |some (.lf g)=>by rw[toO,toD];simp[eqD]
 |some (.nd r l)=>by rw[toO,toD];simp[eqD]
theorem zwt(l:List (Option Tr)):inD .non (l.map toO)=l.any Option.isNone:=by unfold inD;rw[List.any_map];congr 1;funext o;exact zxa o
theorem znJ:∀{l:List (Option Tr)},l.any Option.isNone=true->zmn l=none
 |none::l,_=>rfl
 |some a::l,h=>by have:=znJ (l:=l) (by simpa using h);show (zmn l).map _=none;rw[this];rfl
theorem zrq:∀{l:List (Option Tr)},l.any Option.isNone=false->∃ ts:List Tr,zmn l=some ts/\l=ts.map some
 |[],_=>⟨[],rfl,rfl⟩
 |none::l,h=>by simp at h
 |some a::l,h=>by obtain ⟨ts,h1,h2⟩:=zrq (l:=l) (by simpa using h);refine ⟨a::ts,?_,by rw[h2];rfl⟩;show (zmn l).map _=_;rw[h1];rfl
noncomputable abbrev zu8(F:FD):DS:=dIf (dTB (dOp (gEq false) (zai zbs (dR (zab 3) (dR (zab 1) dR0))) (dC (.int 0)))) (dEx (zeK 2 (zab 3))) (dEx (zeK 2 (zai F (dR (zab 3) (dR (zab 1) dR0)))))
noncomputable abbrev zxD:De:=zjA (dTB (zpm false 2 (dC .non))) (dC .non) (zdO (dA (dOp gIx (zab 0) (dC (.int 0))) (dA (dFn zbW (dA (zgC 2) dA0)) dA0)))
theorem ztY(F:FD):zcT F=za2 (zdC 2 (zc8 dA0)) (za2 (ziF (dIt (dOp gIx (zab 0) (dC (.int 1)))) (zb0 3) (zu8 F)) (zbd zxD)):=rfl
theorem zsh{F:FD}{f:Tr->Option Tr}{r:Bool}{bs:List Tr}(S:Sm (.nd r bs))(hF:∀ b∈bs,sh p b≠0->F [.val (toD b),.val (tz p)]=.ok (toO (f b),[.val .non,.val .non]))(hok:∀ b∈bs,sh p b≠0->okN 60 (toO (f b))=true) :
  zcb F [.val (toD (.nd r bs)),.val (tz p)]=.ok (toO ((zmn (zhr f p bs)).map (.nd r)),[.val .non,.val .non]):=by
 obtain ⟨hk,hl,hne⟩:=zjE S;let T:Option B:=some (.val (toD (.nd r bs)));let P:Option B:=some (.val (tz p));let I:List Tr->Ev->Prop:=λdn Z=>∃ o3,Z=[T,P,some (.own ((zhr f p dn).map toO)),o3]
 let Z0:Ev:=[T,P,some (.own []),none]
 obtain ⟨Z',⟨o3,rfl⟩,hf⟩:=zc3 (u:=toD) (l:=bs) (I:=I) (g:=zb0 3) (body:=zu8 F) (zqW (Z:=Z0) rfl) rfl ⟨none,rfl⟩ λdn b zbz e Z hI=>by
  obtain ⟨o3,rfl⟩:=hI;have hb:b∈bs:=by rw[e];simp
  have hdl:dn.length<=6:=by rw[e] at hl;simp at hl;omega
  let A:=(zhr f p dn).map toO;have hA:A.length<=6:=by show ((zhr f p dn).map toO).length<=6;rw[List.length_map,zhr,List.length_map];exact hdl
  let Z1:Ev:=[T,P,some (.own A),some (.val (toD b))]
  have t0:dTB (dOp (gEq false) (zai zbs (dR (zab 3) (dR (zab 1) dR0))) (dC (.int 0))) Z1=.ok (((sh p b:Nat):Int) == 0,Z1):=za5 (zar (d:=.int (sh p b:Nat)) (e:=.int 0) (zcX (d:=toD b) (e:=tz p) rfl rfl (zcx (hk b hb))) rfl zra);have key:zu8 F Z1=.ok (.nx,[T,P,some (.own (A++[toO (if sh p b=0 then some b else f b)])),some (.val (toD b))]):=by
   by_cases h:sh p b=0
   ·rw[show (((sh p b:Nat):Int) == 0)=true by rw[beq_iff_eq];omega] at t0;refine (zdw t0).trans ?_;rw[if_pos h];exact zhb (zqQ (Z1:=Z1) (l0:=A) (ds:=A) (d:=toD b) rfl rfl rfl xwo)
   ·rw[show (((sh p b:Nat):Int) == 0)=false by rw[beq_eq_false_iff_ne];omega] at t0;refine (zbN t0).trans ?_;rw[if_neg h];exact zhb (zqQ (Z1:=Z1) (l0:=A) (ds:=A) (d:=toO (f b)) rfl (zcX (d:=toD b) (e:=tz p) rfl rfl (hF b hb h)) rfl xwo)
  refine ⟨Z1,_,rfl,key,⟨some (.val (toD b)),?_⟩⟩;show _=[T,P,some (.own ((zhr f p (dn++[b])).map toO)),some (.val (toD b))]
  rw[zhr,List.map_append,List.map_append];rfl
 have hin:dTB (zpm false 2 (dC .non)) [T,P,some (.own ((zhr f p bs).map toO)),o3]=.ok ((zhr f p bs).any Option.isNone,[T,P,some (.own ((zhr f p bs).map toO)),o3]):=by
  refine za5 ?_;have g:=(zgU (neg:=false) (x:=.non) (ds:=(zhr f p bs).map toO) rfl λd hd=>by
   obtain ⟨o,ho,rfl⟩:=List.mem_map.mp hd;obtain ⟨b,hb,rfl⟩:=List.mem_map.mp ho;by_cases h:sh p b=0
   ·rw[if_pos h];exact zlz (zxA (waN (hk b hb).d xwd)) xwd
   ·rw[if_neg h];exact hok b hb h).2
  show ((gIn false .non (.lst ((zhr f p bs).map toO))).bind λz=>R.ok (z,_))=_;rw[g,zwt];rfl
 have head:∀{Z':Ev}{d:Dt},zxD [T,P,some (.own ((zhr f p bs).map toO)),o3]=.ok (d,Z')->zcT F [T,P,none,none]=.ok (.rt d,Z'):=λh=>by rw[ztY];exact (zag (Z1:=Z0) rfl).trans ((zag hf).trans (zaY h))
 cases hany:(zhr f p bs).any Option.isNone with
 |true =>
  rw[znJ hany];refine zal (Z':=[T,P,some (.own ((zhr f p bs).map toO)),o3]) rfl (head ?_) rfl;unfold zxD zjA;rw[hin,hany];rfl
 |false =>
  obtain ⟨ts,h1,h2⟩:=zrq hany;rw[h1];refine zal (Z':=[T,P,some (.val (.lst ((zhr f p bs).map toO))),o3]) rfl (head ?_) rfl;unfold zxD zjA;rw[hin,hany];simp only[R.bind_ok,Bool.false_eq_true,if_false];have e:Dt.tup [.str (wd r),.tup ((zhr f p bs).map toO)]=toO ((some ts).map (.nd r)):=by rw[h2,Option.map_some,toO,toD,zaU,List.map_map];rfl
  exact congrArg (λd=>(R.ok (d,[T,P,some (.val (.lst ((zhr f p bs).map toO))),o3]):R (Dt×Ev))) e
variable{p:List Int}
theorem zou{n:Nat}{t t':Tr}(S:Sm t)(h8:n<=8)(hd:dep t<=n)(h0:sh p t≠0)(e:zbZ n p t=some t'):Sm t':=by obtain ⟨h1,h2,_⟩:=(zhp n t h8 hd S.ok h0).yes t' e;exact ⟨h1,by rw[h2.length_eq];exact S.l⟩
noncomputable abbrev kid:De:=dOp gIx (zab 0) (dC (.int 1))
noncomputable abbrev tiIf:DT:=dTB (dOp (gEq false) (dFn zb5 (dA (zab 2) dA0)) (dOp zjG (dFn zb5 (dA kid dA0)) (dC (.int 1))))
theorem ztl(F:FD):zi6 F=za2 (dIf (dTB (dOp (gEq false) (zai zbs (dR (zab 0) (dR (zab 1) dR0))) (dC (.int 2)))) (zbd (zab 0)) dNx) (za2 (zaX 2 (zai zay (dR kid (dR (zab 1) (dR (dC (.int 0)) dR0))))) (za2 (dIf tiIf (zbd (zai (zcb F) (dR (zab 0) (dR (zab 1) dR0)))) dNx) (za2 (dIf (dTB (dOp (gEq false) (dOp gIx (zab 0) (dC (.int 0))) (dC (.str (Str.ofString "any"))))) (zbd (zai zda (dR kid (dR (zab 1) dR0)))) dNx) (zbd (zai zcW (dR kid (dR (zab 1) dR0))))))):=rfl
theorem zqN:∀(n:Nat)(t:Tr),n<=8->Sm t->dep t<=n->sh p t≠0->zfk n [.val (toD t),.val (tz p)]=.ok (toO (zbZ n p t),[.val .non,.val .non])
 |0,t,_,_,h,_=>by cases t <;> simp[dep] at h
 |n+1,t,h8,S,h,h0=>by
  let P:Option B:=some (.val (tz p));let Z0:Ev:=[some (.val (toD t)),P,none]
  have t2:dTB (dOp (gEq false) (zai zbs (dR (zab 0) (dR (zab 1) dR0))) (dC (.int 2))) Z0=.ok (((sh p t:Nat):Int) == 2,Z0):=za5 (zar (d:=.int (sh p t:Nat)) (e:=.int 2) (zcX (d:=toD t) (e:=tz p) rfl rfl (zcx S)) rfl zra);show za0 false [false,false] 1 (zi6 (zfk n)) _=_;by_cases hs:sh p t=2
  ·rw[show (((sh p t:Nat):Int) == 2)=true by rw[beq_iff_eq];omega] at t2;rw[zbZ,if_pos hs];refine zal (Z':=Z0) rfl ?_ rfl;rw[ztl];exact zby ((zdw t2).trans rfl)
  ·rw[show (((sh p t:Nat):Int) == 2)=false by rw[beq_eq_false_iff_ne];omega] at t2;rw[zbZ,if_neg hs];have h1:sh p t=1:=by
    rcases zk5 (p:=p) t with e|e|e
    ·exact absurd e h0
    ·exact e
    ·exact absurd e hs
   cases t with
   |lf g=>exact absurd h1 zsZ
   |nd r bs =>
    simp only[dep] at h;have hd:=zaW.mp (by omega:zcY bs<=n);obtain ⟨hk,hl,hne⟩:=zjE S;have hnn:¬ ∀ x∈bs,sh p x=0:=zhu (t:=.nd r bs) (.refl _) h0;let Z1:Ev:=[some (.val (toD (.nd r bs))),P,some (.val (.lst ((ws p 0 bs).map toD)))]
    have k0:kid Z0=.ok (.tup (bs.map toD),Z0):=by have:=ze2 (r:=r) (bs:=bs) (Z:=Z0) rfl;rw[zaU] at this;exact this
    have k1:kid Z1=.ok (.tup (bs.map toD),Z1):=by have:=ze2 (r:=r) (bs:=bs) (Z:=Z1) rfl;rw[zaU] at this;exact this
    have s1:zaX 2 (zai zay (dR kid (dR (zab 1) (dR (dC (.int 0)) dR0)))) Z0=.ok (.nx,Z1):=zaD (Z1:=Z0) (zpy (e:=tz p) (g:=.int ((0:Nat):Int)) k0 rfl rfl (zk9 hk rfl xwo)) (show 2<3 by decide);have t3:tiIf Z1=.ok ((((ws p 0 bs).length:Nat):Int) == (bs.length:Nat)-1,Z1):=za5 (zar (Z1:=Z1) (d:=.int ((ws p 0 bs).length:Nat)) (e:=.int ((bs.length:Nat)-1)) (zbH (d:=.lst ((ws p 0 bs).map toD)) rfl (by simp[zb5])) (zar (Z1:=Z1) (d:=.int (bs.length:Nat)) (e:=.int 1) (zbH k1 (by simp[zb5])) rfl rfl) zra);have t4:=za5 (zkg (r:=r) (bs:=bs) (Z:=Z1) rfl);show _=R.ok (toO (zvR (zbZ n p) p r bs),_);refine zal (Z':=Z1) rfl ?_ rfl;rw[ztl];refine (zag (Z1:=Z0) ((zbN t2).trans rfl)).trans ((zag s1).trans ?_);unfold zvR;by_cases hw:(ws p 0 bs).length+1=bs.length
    ·rw[if_pos hw];rw[show ((((ws p 0 bs).length:Nat):Int) == (bs.length:Nat)-1)=true by rw[beq_iff_eq];omega] at t3;refine zby ((zdw t3).trans (zaY ?_));refine zcX (l:=[.val .non,.val .non]) (d:=toD (.nd r bs)) (e:=tz p) rfl rfl (zsh S (λb hb hb0=>zqN n b xwo (hk b hb) (hd b hb) hb0) λb hb hb0=>?_);cases e:zbZ n p b with
     |none=>rfl
     |some t'=>exact zlz (zxA (waN (zou (hk b hb) xwo (hd b hb) hb0 e).d xwd)) xwd
    ·rw[if_neg hw];have h2:(ws p 0 bs).length+2<=bs.length:=by
      have hle:(ws p 0 bs).length<=bs.length:=List.length_filter_le _ _;have:(ws p 0 bs).length≠bs.length:=λz=>hnn λx hx=>by have e2:ws p 0 bs=bs:=List.filter_sublist.eq_of_length z;rw[<- e2] at hx;exact (zcK.mp hx).2
      omega
     rw[show ((((ws p 0 bs).length:Nat):Int) == (bs.length:Nat)-1)=false by rw[beq_eq_false_iff_ne];omega] at t3;refine (zag (Z1:=Z1) ((zbN t3).trans rfl)).trans ?_;cases r with
     |true =>
      rw[if_pos rfl];exact (zag (Z1:=Z1) ((zbN t4).trans rfl)).trans (zaY (zcX (l:=[.val .non,.val .non]) k1 (e:=tz p) rfl (zrc S h2)))
     |false =>
      rw[if_neg xwd];exact zby ((zdw t4).trans (zaY (zcX (l:=[.val .non,.val .non]) k1 (e:=tz p) rfl (zrj S h2))))
theorem ziV{n:Nat}{t:Tr}(h1:1<=n)(h7:n<=7)(S:Sm t)(h0:sh p t≠0):zdk [.val (.int (n:Nat)),.val (toD t),.val (tz p)]=.ok (toO ((zbZ 8 p t).map zaj),[.val .non,.val .non,.val .non]):=by
 have hd8:dep t<=8:=waN S.d xwd;let Z0:Ev:=[some (.val (.int (n:Nat))),some (.val (toD t)),some (.val (tz p)),none]
 let Z1:Ev:=[some (.val (.int (n:Nat))),some (.val (toD t)),some (.val (tz p)),some (.val (toO (zbZ 8 p t)))]
 refine zal (Z':=Z1) rfl ?_ rfl;refine (zag (Z1:=Z0) (zhb (zdy (d:=.int (n:Nat)) rfl (zrZ xwo xwo)))).trans ((zag (Z1:=Z1) (zaD (Z1:=Z0) (zcX (d:=toD t) (e:=tz p) rfl rfl (zqN 8 t (wal _) S hd8 h0)) (show 3<4 by decide))).trans (zaY ?_));cases e:zbZ 8 p t with
 |none =>
  have e1:Z1=[some (.val (.int (n:Nat))),some (.val (toD t)),some (.val (tz p)),some (.val .non)]:=by show ([some (.val (.int (n:Nat))),some (.val (toD t)),some (.val (tz p)),some (.val (toO (zbZ 8 p t)))]:Ev)=_;rw[e];rfl
  rw[e1];rfl
 |some t' =>
  have S':=zou S (wal _) hd8 h0 e;have e1:Z1=[some (.val (.int (n:Nat))),some (.val (toD t)),some (.val (tz p)),some (.val (toD t'))]:=by show ([some (.val (.int (n:Nat))),some (.val (toD t)),some (.val (tz p)),some (.val (toO (zbZ 8 p t)))]:Ev)=_;rw[e];rfl
  rw[e1];have hn:zsF (toD t')=false:=by cases t' <;> rfl
  unfold zjA zoV;show ((R.ok ((true == zsF (toD t')),_):R (Bool×Ev)).bind _)=_;rw[hn];exact zdy (F:=zbD 8) (fa:=zab 3) (Z:=[some (.val (.int (n:Nat))),some (.val (toD t)),some (.val (tz p)),some (.val (toD t'))]) (Z':=[some (.val (.int (n:Nat))),some (.val (toD t)),some (.val (tz p)),some (.val (toD t'))]) (d:=toD t') rfl (zoo 8 t' (wal _) (waN S'.d xwd) S'.ok.o S'.ok.n (by have:=S'.l;omega))
end LQ
end
section
namespace Lw
open PySem PySem.Spec L2 PV
theorem zpE{α:Type}{l:List α}{f m:Nat}(h:f<=l.length):ziE l (some (f:Int)) (some ((f:Int)+m))=(l.drop f).take m:=by
 unfold ziE;rw[show (f:Int)+m=((f+m:Nat):Int) from rfl,HT.sIx_nat,HT.sIx_nat,Nat.min_eq_left h];by_cases z:f+m<=l.length
 ·rw[Nat.min_eq_left z,show f+m-f=m by omega]
 ·rw[Nat.min_eq_right xwo,List.take_of_length_le xws,List.take_of_length_le (by simp;omega)]
theorem zj4:∀ a b:List Bool,zgf (a.map .bl) (b.map .bl)=(a == b)
 |[],[]=>by rw[List.map_nil,zgf];rfl
 |[],b::r=>by rw[List.map_nil,List.map_cons,zgf];rfl;all_goals (intros;simp at *)
 |a::r,[]=>by rw[List.map_nil,List.map_cons,zgf];rfl;all_goals (intros;simp at *)
 |a::r,b::q=>by rw[List.map_cons,List.map_cons,zgf,eqD,zj4 r q];rfl
theorem zlD(l:List Bool)(n:Nat):okN (n+1) (.lst (l.map .bl))=true:=by simp[okN]
noncomputable def zuS(x:List Dt)(k:Int)(Z:Ev):R (List Dt×Ev):=if zf2 k=true/\x.length * k.toNat<=16777216 then .ok ((List.replicate k.toNat x).flatten,Z) else .no
theorem zxb{fa fb:De}{Z Z1 Z2:Ev}{x:List Dt}{k:Int}(h0:fa Z=.ok (.lst x,Z1))(h:fb Z1=.ok (.int k,Z2)):zwl fa fb Z=zuS x k Z2:=by unfold zwl zuS;rw[h0];simp only[R.bind_ok];rw[h];rfl
theorem zsO{x:List Dt}{k:Int}{Z:Ev}(hc:zf2 k=true/\x.length * k.toNat<=16777216):zuS x k Z=.ok ((List.replicate k.toNat x).flatten,Z):=if_pos hc
theorem zlj{m:Nat}(hm:m<=1000):zf2 (m:Int)=true:=by unfold zf2;rw[Bool.and_eq_true,decide_eq_true_eq,decide_eq_true_eq];omega
noncomputable def Pty(n:Nat)(p:List Int):Prop:=p≠[]/\p.Pairwise (· < ·)/\∀ x∈p,0<=x/\x<n
theorem zn8{ft:DT}{zbz:Ev}:∀{l:List Dt}{st:List Dt}{o:Option B},(∀ d∈l,∀ st,St st->∃ b st',St st'/\ft (some (.own st)::(zbz++[some (.val d)]))=.ok (b,some (.own st')::(zbz++[some (.val d)])))->St st ->
  ∃ ys st' o',St st'/\ys.Sublist l/\zbS (zb0 (zbz.length+1)) ft (zab (zbz.length+1)) l (some (.own st)::(zbz++[o]))=.ok (ys,some (.own st')::(zbz++[o']))
 |[],st,o,_,hs=>⟨[],st,o,hs,.slnil,rfl⟩
 |d::l,st,o,h,hs=>by
  obtain ⟨b,st1,hs1,e1⟩:=h d xws st hs;obtain ⟨ys,st',o',hs',hp,e⟩:=zn8 (l:=l) (st:=st1) (o:=some (.val d)) (λb hb=>h b (wah _ hb)) hs1;have hv:zab (zbz.length+1) (some (.own st1)::(zbz++[some (.val d)]))=.ok (d,some (.own st1)::(zbz++[some (.val d)])):=by simp[zab]
  cases b with
  |true =>
   refine ⟨d::ys,st',o',hs',hp.cons_cons d,?_⟩;rw[zbS,zjZ];simp only[R.bind_ok];rw[e1];simp only[R.bind_ok,if_true];rw[hv];simp only[R.bind_ok];rw[e];rfl
  |false =>
   refine ⟨ys,st',o',hs',hp.cons d,?_⟩;rw[zbS,zjZ];simp only[R.bind_ok];rw[e1];simp only[R.bind_ok,Bool.false_eq_true,if_false];exact e
theorem zlr(n:Nat):(zaK n).Pairwise (· < ·):=by unfold zaK;rw[List.pairwise_map];refine List.Pairwise.imp (R:=λa b=>a<b) (λ{a b} h=>by omega) List.pairwise_lt_range
theorem zsr{zbz:Ev}{st:List Dt}{fb:De}{m:Int}{v:Int}{st':List Dt}(e:zak [.own st,.val (.int m)]=.ok (.int v,[.own st',.val .non]))(h:fb (some (.own st)::zbz)=.ok (.int m,some (.own st)::zbz)):zai zak (dRO 0 (dR fb dR0)) (some (.own st)::zbz)=.ok (.int v,some (.own st')::zbz) :=
 zg7 (Z:=some (.own st)::zbz) rfl h e
theorem zvc{α:Type}{l:List α}(h:l.length<=1000):zhg l=true:=by unfold zhg;rw[decide_eq_true_eq];omega
theorem zuu{fa:De}{Z Z1:Ev}{j:Nat}(h:fa Z=.ok (.int j,Z1))(hj:j<=1000):zdS fa Z=.ok (zca 0 j,Z1):=by rw[zqp h,zmY (zlj hj),Int.toNat_natCast]
theorem zjs{n:Nat}{st:List Dt}(h1:1<=n)(h7:n<=7)(hs:St st):∃ p st',St st'/\Pty n p/\zbx [.own st,.val (.int n)]=.ok (tz p,[.own st',.val .non]):=by
 obtain ⟨ys,st1,o',hs1,hsub,e⟩:=zn8 (ft:=dTB (dOp (gEq false) (zai zak (dRO 0 (dR (dC (.int 2)) dR0))) (dC (.int 1)))) (zbz:=[some (.val (.int n)),none]) (l:=zca 0 n) (st:=st) (o:=none) (λd _ st hs=>by obtain ⟨v,st',e,hs',v0,v1⟩:=zbX (m:=2) hs xwd xwd;exact ⟨v == 1,st',hs',za5 (zar (zsr e rfl) rfl (by rw[zra];rfl))⟩) hs
 rw[zh3] at hsub;obtain ⟨zs,hz,rfl⟩:=List.sublist_map_iff.mp hsub;let Z0:Ev:=[some (.own st),some (.val (.int n)),none]
 have hc:zbl (zdS (zab 1)) (zb0 3) (dTB (dOp (gEq false) (zai zak (dRO 0 (dR (dC (.int 2)) dR0))) (dC (.int 1)))) (zab 3) 1 Z0=.ok (zs.map .int,[some (.own st1),some (.val (.int n)),none]):=by unfold zbl;rw[show zdS (zab 1) Z0=.ok (zca 0 n,Z0) from zuu (j:=n) rfl xwo];simp only[R.bind_ok];rw[if_pos (zvc (by unfold zca;rw[List.length_map,List.length_range];omega))];show (match zbS (zb0 3) _ (zab 3) (zca 0 n) [some (.own st),some (.val (.int n)),none,none] with|.ok z=>R.ok (z.1,z.2.take 3)|_=>.no)=_;have e':zbS (zb0 3) (dTB (dOp (gEq false) (zai zak (dRO 0 (dR (dC (.int 2)) dR0))) (dC (.int 1)))) (zab 3) (zca 0 n) [some (.own st),some (.val (.int n)),none,none]=_:=e;rw[e'];rfl
 have e1:zaX 2 (dFn zbW (dA (dFz (zbl (zdS (zab 1)) (zb0 3) (dTB (dOp (gEq false) (zai zak (dRO 0 (dR (dC (.int 2)) dR0))) (dC (.int 1)))) (zab 3) 1)) dA0)) Z0=.ok (.nx,[some (.own st1),some (.val (.int n)),some (.val (tz zs))]) :=
  zaD (i:=2) (zbH (zaN hc) rfl) xws
 have hpw:zs.Pairwise (· < ·):=(zlr n).sublist hz;have hin:∀ x∈zs,0<=x/\x<n:=λx hx=>zbM.mp (hz.subset hx);cases zs with
 |nil =>
  obtain ⟨v,st2,e2,hs2,v0,v1⟩:=zbX (m:=(n:Nat)) hs1 xwo xwo;refine ⟨[v],st2,hs2,⟨xws,xws,λx hx=>(by have:x=v:=(by simpa using hx);omega)⟩,zal (Z':=[some (.own st2),some (.val (.int n)),some (.val (tz []))]) rfl ?_ rfl⟩;show zcL Z0=_;unfold zcL;rw[zag e1];refine zby ?_;have hc:dTB (dOp (gEq false) (zab 2) (zdO dA0)) [some (.own st1),some (.val (.int n)),some (.val (tz []))]=.ok (true,[some (.own st1),some (.val (.int n)),some (.val (tz []))]):=by refine za5 (zar (d:=tz []) (e:=.tup []) (Z1:=[some (.own st1),some (.val (.int n)),some (.val (tz []))]) rfl rfl ?_);rw[zbp rfl rfl];show R.ok (Dt.bl (eqD (.tup []) (.tup [])))=_;rw[eqD,zgf]
  rw[zdw hc];exact zaY (zpz (zlF (zsr e2 rfl) rfl) xws)
 |cons a r =>
  refine ⟨a::r,st1,hs1,⟨xws,hpw,hin⟩,zal (Z':=[some (.own st1),some (.val (.int n)),some (.val (tz (a::r)))]) rfl ?_ rfl⟩;show zcL Z0=_;unfold zcL;rw[zag e1];have hc:dTB (dOp (gEq false) (zab 2) (zdO dA0)) [some (.own st1),some (.val (.int n)),some (.val (tz (a::r)))]=.ok (false,[some (.own st1),some (.val (.int n)),some (.val (tz (a::r)))]):=by
   refine za5 (zar (d:=tz (a::r)) (e:=.tup []) (Z1:=[some (.own st1),some (.val (.int n)),some (.val (tz (a::r)))]) rfl rfl ?_);rw[zbp (by show okN 60 (.tup ((a::r).map .int))=true;simp[okN]) rfl];show R.ok (Dt.bl (eqD (.tup ((a::r).map .int)) (.tup [])))=_;rw[eqD,List.map_cons,zgf]
   all_goals (intros;simp at *)
  rw[zag (Z1:=[some (.own st1),some (.val (.int n)),some (.val (tz (a::r)))]) (by rw[zbN hc];rfl)];rfl
end Lw
end
section
namespace LQ
open PySem PySem.Spec L2 PV Lw
theorem zuP{l:List Int}(h:l≠[]):zpn l=(zaR l).headD 0:=(ztR (zoq h) λa ha=>zu5 ha).symm
theorem zpp{α:Type}(z:List (Int×α)):(zgM z).map (·.1)=zaR (z.map (·.1)) :=
 W.lks_uniq (((zbL z).map _).trans (zaI _).symm) (List.pairwise_map.mpr (zeO z)) (zcn _)
theorem zk3:∀{ks:List Int}{k:Int},k∈ks->∃ j,zns (.int k) (ks.map .int)=some j/\ks[j]? = some k
 |[],_,h=>by cases h
 |a::r,k,h=>by
  rw[List.map_cons,zns,eqI];by_cases e:a=k
  ·subst e;exact ⟨0,xws,xws⟩
  ·rcases wap.mp h with rfl|h
   ·exact absurd rfl e
   ·obtain ⟨j,h1,h2⟩:=zk3 h;refine ⟨j+1,?_,by simpa using h2⟩;rw[if_neg (by simpa using e),h1];rfl
noncomputable def zwh(ks:List Int)(L:List Dt)(k:Int):Dt:=match zns (.int k) (ks.map .int) with
 |some j=>(L[j]?).getD .non
 |none=>.non
theorem zgA{α:Type}{l:List α}{j:Nat}(h:j<l.length):atI l (j:Nat)=l[j]? := by unfold atI;rw[zkH xwo xwo];simp
theorem zrP{ks:List Int}{L:List Dt}(hl:ks.length=L.length)(hn:ks.Nodup):(zaR ks).map (zwh ks L)=byK ks L:=by
 have e1:(ks.zip L).map (·.1)=ks:=by rw[List.map_fst_zip];omega
 have e2:=zpp (ks.zip L);rw[e1] at e2;rw[<- e2,List.map_map];unfold byK;refine List.map_congr_left λp hp=>?_;have hm:=(zbL _).mem_iff.mp hp;obtain ⟨j,hj⟩:=List.mem_iff_getElem?.mp hm;obtain ⟨q1,q2⟩:=List.getElem?_zip_eq_some.mp hj;obtain ⟨j',h1,h2⟩:=zk3 (waH q1);have:j'=j:=by obtain ⟨g1,g2⟩:=wam.mp h2;obtain ⟨g3,g4⟩:=wam.mp q1;exact (List.getElem_inj hn).mp (g2.trans g4.symm)
 subst this;show zwh ks L p.1=p.2;unfold zwh;rw[h1];simp only[q2,Option.getD_some]
theorem zug(ks:List Int):(ks.map Dt.int).all (okN 60)=true:=by rw[List.all_eq_true];intro d hd;obtain ⟨k,_,rfl⟩:=List.mem_map.mp hd;rfl
theorem zio:∀(n:Nat)(t:Tr),n<=8->dep t<=n->okT t=true->(zad t).Nodup->(zad t).length<64->zbw n [.val (toD t)]=.ok (toD (zaj t),[.val .non])
 |0,t,_,h,_,_,_=>by cases t <;> simp[dep] at h
 |n+1,.lf i,h8,h,ho,hn,hl=>by refine zal (Z':=[some (.val (.int i)),none,none]) rfl ?_ rfl;rw[toD,zaj];rfl
 |n+1,.nd r l,h8,h,ho,hn,hl=>by
  simp only[dep] at h;simp only[zad] at hl hn;have hd:zcY l<=n:=by omega
  obtain ⟨B1,B2,B3,B4,B5⟩:=znC hd ho hn hl;have ho2:∀ t∈l,okT t=true:=by simp only[okT,wae] at ho;have:=ho.2;rw[zco,List.all_eq_true] at this;exact this
  have hn2:∀ t∈l,(zad t).Nodup:=λt ht=>zh6 ht hn;have hD:toD (.nd r l)=.tup [.str (wd r),.tup (zjL l)]:=by rw[toD]
  have hll:l.length<=1000:=by simp only[wag] at B5;omega
  have hks:(l.map zaj).map mn≠[]:=by simpa using B3
  have e1:zaX 1 (dFz (zbl (dIt (dOp gIx (zab 0) (dC (.int 1)))) (zb0 3) dTT (zai (zbw n) (dR (zab 3) dR0)) 1)) [some (.val (toD (.nd r l))),none,none]=.ok (.nx,[some (.val (toD (.nd r l))),some (.val (.lst ((l.map zaj).map toD))),none]):=by
   have:=zeb (Z0:=[some (.val (toD (.nd r l))),none,none]) (fi:=dIt (dOp gIx (zab 0) (dC (.int 1)))) (fe:=zai (zbw n) (dR (zab 3) dR0)) (l:=l) (u:=toD) (f:=λt=>toD (zaj t)) (ds:=zjL l) (j:=3) (by rw[hD];rfl) (zaU l) hll
    (λt ht=>zdy (Z':=[some (.val (toD (.nd r l))),none,none]++[some (.val (toD t))]) rfl (zio n t xwo (zaW.mp hd t ht) (ho2 t ht) (hn2 t ht) (by have:=zcz ht;omega))) rfl
   rw[show l.map (λt=>toD (zaj t))=(l.map zaj).map toD by rw[List.map_map];rfl] at this;exact zaD (zaN this) xws
  have e2:zaX 2 (dFz (zbl (dIt (zab 1)) (zb0 3) dTT (dFn zkI (dA (zai (za8 8) (dR (zab 3) dR0)) dA0)) 1)) [some (.val (toD (.nd r l))),some (.val (.lst ((l.map zaj).map toD))),none]=.ok (.nx,[some (.val (toD (.nd r l))),some (.val (.lst ((l.map zaj).map toD))),some (.val (.lst (((l.map zaj).map mn).map .int)))]):=by
   have:=zeb (Z0:=[some (.val (toD (.nd r l))),some (.val (.lst ((l.map zaj).map toD))),none]) (fi:=dIt (zab 1)) (fe:=dFn zkI (dA (zai (za8 8) (dR (zab 3) dR0)) dA0)) (l:=l.map zaj) (u:=toD) (f:=λt=>.int (mn t)) (ds:=(l.map zaj).map toD) (j:=3) rfl rfl xwo
    (λt ht=>zbH (zdy (Z':=[some (.val (toD (.nd r l))),some (.val (.lst ((l.map zaj).map toD))),none]++[some (.val (toD t))]) rfl (zel 8 t (by have:=B1 t ht;omega) (by have:=B1 t ht;omega))) (by
     unfold zkI;simp only[zrz];have hne:=(B1 t ht).2.2;have hz:=zuP hne;show _=R.ok (Dt.int ((zaR (zad t)).headD 0));rw[<- hz];cases hq:zad t with
     |nil=>exact absurd hq hne
     |cons a q=>rfl)) rfl
   rw[show (l.map zaj).map (λt=>Dt.int (mn t))=((l.map zaj).map mn).map .int by rw[List.map_map (f:=mn)];rfl] at this;exact zaD (zaN this) xws
  refine zal (Z':=[some (.val (toD (.nd r l))),some (.val (.lst ((l.map zaj).map toD))),some (.val (.lst (((l.map zaj).map mn).map .int)))]) rfl ?_ rfl;show zfc (zbw n) [some (.val (toD (.nd r l))),none,none]=_;unfold zfc;rw[zag (Z1:=[some (.val (toD (.nd r l))),none,none]) (by rw[hD];rfl),zag e1,zag e2];have er:=zwR (r:=r) (x:=.tup (zjL l)) (Z:=[some (.val (toD (.nd r l))),some (.val (.lst ((l.map zaj).map toD))),some (.val (.lst (((l.map zaj).map mn).map .int)))]) (i:=0) (by rw[hD];rfl);have eh:dOp gIx (zab 2) (dC (.int 0)) [some (.val (toD (.nd r l))),some (.val (.lst ((l.map zaj).map toD))),some (.val (.lst (((l.map zaj).map mn).map .int)))]=.ok (.int (((l.map zaj).map mn).headD 0),[some (.val (toD (.nd r l))),some (.val (.lst ((l.map zaj).map toD))),some (.val (.lst (((l.map zaj).map mn).map .int)))]):=zar rfl rfl (znF hks);have el:dOp gIx (zab 2) (zpg (dC (.int 1))) [some (.val (toD (.nd r l))),some (.val (.lst ((l.map zaj).map toD))),some (.val (.lst (((l.map zaj).map mn).map .int)))]=.ok (.int (((l.map zaj).map mn).getLastD 0),[some (.val (toD (.nd r l))),some (.val (.lst ((l.map zaj).map toD))),some (.val (.lst (((l.map zaj).map mn).map .int)))]):=zar rfl rfl (znx hks);have mh:((l.map zaj).map mn).headD 0=mn ((l.map zaj).headD (.lf 0)):=by
   cases e:l.map zaj with
   |nil=>exact absurd e B3
   |cons a q=>rfl
  have ml:((l.map zaj).map mn).getLastD 0=mn ((l.map zaj).getLastD (.lf 0)):=by
   rw[List.getLastD_eq_getLast?,List.getLastD_eq_getLast?,List.getLast?_map];cases e:(l.map zaj).getLast? with
   |none=>exact absurd (List.getLast?_eq_none_iff.mp e) B3
   |some a=>rfl
  have ne:=zqt B4 B2;cases r with
  |true =>
   refine zby ?_;rw[zdw er];have e5:zjA (dTB (dOp gLt (dOp gIx (zab 2) (dC (.int 0))) (dOp gIx (zab 2) (zpg (dC (.int 1)))))) (zab 1) (dFz (zgj (zab 1))) [some (.val (toD (.nd true l))),some (.val (.lst ((l.map zaj).map toD))),some (.val (.lst (((l.map zaj).map mn).map .int)))]=.ok (.lst ((zoK true (l.map zaj)).map toD),[some (.val (toD (.nd true l))),some (.val (.lst ((l.map zaj).map toD))),some (.val (.lst (((l.map zaj).map mn).map .int)))]):=by
    unfold zjA;rw[za5 (zar eh el rfl)];simp only[R.bind_ok,mh,ml];unfold zoK;rw[if_pos rfl];by_cases hgt:mn ((l.map zaj).headD (.lf 0))<mn ((l.map zaj).getLastD (.lf 0))
    ·rw[if_pos (decide_eq_true hgt),if_neg xwo];rfl
    ·rw[if_neg (by simpa using hgt),if_pos xwo,List.map_reverse];rfl
   refine zaY ?_;have e6:=zbH (g:=zbW) (z:=.tup ((zoK true (l.map zaj)).map toD)) e5 rfl;unfold zdO;rw[dA];simp only[dC,R.bind_ok];rw[dA,e6];simp only[R.bind_ok,dA0];rw[zaj,zc4];simp only[toD,zaU];rfl
  |false =>
   rw[zag (Z1:=[some (.val (toD (.nd false l))),some (.val (.lst ((l.map zaj).map toD))),some (.val (.lst (((l.map zaj).map mn).map .int)))]) (by rw[zbN er];rfl)];refine zaY ?_;have hks2:((l.map zaj).map mn).length=((l.map zaj).map toD).length:=by simp
   have e4:dFz (zbl (dIt (dFz (zdL zbh (dA (zab 2) dA0)))) (zb0 3) dTT (dOp gIx (zab 1) (zuW (zab 2) (zab 3))) 1) [some (.val (toD (.nd false l))),some (.val (.lst ((l.map zaj).map toD))),some (.val (.lst (((l.map zaj).map mn).map .int)))]=.ok (.lst ((zoK false (l.map zaj)).map toD),[some (.val (toD (.nd false l))),some (.val (.lst ((l.map zaj).map toD))),some (.val (.lst (((l.map zaj).map mn).map .int)))]):=by
    have:=zeb (Z0:=[some (.val (toD (.nd false l))),some (.val (.lst ((l.map zaj).map toD))),some (.val (.lst (((l.map zaj).map mn).map .int)))]) (fi:=dIt (dFz (zdL zbh (dA (zab 2) dA0)))) (fe:=dOp gIx (zab 1) (zuW (zab 2) (zab 3))) (l:=zaR ((l.map zaj).map mn)) (u:=Dt.int) (f:=zwh ((l.map zaj).map mn) ((l.map zaj).map toD)) (ds:=(zaR ((l.map zaj).map mn)).map .int) (j:=3) (by
      have eS:zdL zbh (dA (zab 2) dA0) [some (.val (toD (.nd false l))),some (.val (.lst ((l.map zaj).map toD))),some (.val (.lst (((l.map zaj).map mn).map .int)))]=.ok ((zaR ((l.map zaj).map mn)).map .int,[some (.val (toD (.nd false l))),some (.val (.lst ((l.map zaj).map toD))),some (.val (.lst (((l.map zaj).map mn).map .int)))]):=by show ((zbh [.lst (((l.map zaj).map mn).map .int)]).bind _)=_;unfold zbh;simp only[zrz];rw[if_pos (by rw[List.length_map];exact B5)];rfl
      unfold dIt;rw[zaN eS];rfl) rfl (by rw[(zaI _).length_eq];simp only[wag] at B5 ⊢;omega)
     (λk hk=>by
      have hk':=(zaI _).mem_iff.mp hk;obtain ⟨j,h1,h2⟩:=zk3 hk';have hj:j<((l.map zaj).map toD).length:=by have:=(wam.mp h2).1;omega
      refine zar (d:=.lst ((l.map zaj).map toD)) (e:=.int j) rfl ?_ ?_ (Z1:=[some (.val (toD (.nd false l))),some (.val (.lst ((l.map zaj).map toD))),some (.val (.lst (((l.map zaj).map mn).map .int)))]++[some (.val (.int k))])
      ·show ((if (okN 60 (.int k) && ((((l.map zaj).map mn).map Dt.int).all (okN 60)))=true then match zns (.int k) (((l.map zaj).map mn).map .int) with|some j=>R.ok (Dt.int j,[some (.val (toD (.nd false l))),some (.val (.lst ((l.map zaj).map toD))),some (.val (.lst (((l.map zaj).map mn).map .int)))]++[some (.val (.int k))])|none=>.no else .no):R (Dt×Ev))=_;rw[zug,if_pos (show (okN 60 (Dt.int k) && true)=true from rfl),h1]
      ·obtain ⟨y,hy⟩ : ∃ y,((l.map zaj).map toD)[j]? = some y:=⟨_,wac hj⟩
       have hat:atI ((l.map zaj).map toD) (j:Nat)=some y:=by rw[zgA hj];exact hy
       unfold gIx zwh;simp only[hat,h1,hy,Option.getD_some]) rfl
    rw[zrP hks2 B2,zrn] at this;exact zaN this
   have e6:=zbH (g:=zbW) (z:=.tup ((zoK false (l.map zaj)).map toD)) e4 rfl;unfold zdO;rw[dA];simp only[dC,R.bind_ok];rw[dA,e6];simp only[R.bind_ok,dA0];rw[zaj,zc4];simp only[toD,zaU];rfl
end LQ
end
section
namespace Lw
open PySem PySem.Spec L2 PV
theorem zpO{n:Nat}{st:List Dt}{row:List Int}(h1:1<=n)(h7:n<=7)(hr:row.Perm (zaK n))(hs:St st):∃ p st',St st'/\Pty n p/\zdn [.own st,.val (tz row)]=.ok (tz p,[.own st',.val .non]):=by
 have hlen:row.length=n:=by rw[hr.length_eq,zbk]
 obtain ⟨v,st1,e1,hs1,v0,v1⟩:=zbX (m:=(n:Nat)) hs xwo xwo;obtain ⟨f,hf⟩ : ∃ f:Nat,v=f:=⟨v.toNat,xwo⟩
 subst hf;obtain ⟨w,st2,e2,hs2,w0,w1⟩:=zbX (m:=(n:Nat)-(f:Nat)) hs1 xwo xwo;obtain ⟨m,hm⟩ : ∃ m:Nat,w=m:=⟨w.toNat,xwo⟩
 subst hm;let q:=(row.drop f).take (1+m);have hqs:q.Sublist row:=(List.take_sublist _ _).trans (List.drop_sublist _ _);have hqne:q≠[]:=by
  intro z;have:q.length=0:=by rw[z];rfl
  simp only[q,List.length_take,List.length_drop] at this;omega
 have hql:q.length<=7:=by have:=hqs.length_le;omega
 have hnd:q.Nodup:=(hr.nodup_iff.mpr (zcI n)).sublist hqs;have hsp:=zaI q;have hlt:(zaR q).Pairwise (· < ·):=by have h1:=zcn q;have h2:(zaR q).Nodup:=hsp.nodup_iff.mpr hnd;exact List.Pairwise.imp₂ (λa b hab hne=>by omega) h1 h2
 refine ⟨zaR q,st2,hs2,⟨λz=>hqne (by rw[z] at hsp;exact hsp.symm.eq_nil),hlt,λx hx=>zbM.mp (hr.mem_iff.mp (hqs.subset (hsp.mem_iff.mp hx)))⟩,?_⟩;let L:Option B:=some (.val (tz row));have x1:zaX 2 (zai zak (dRO 0 (dR (dFn zb5 (dA (zab 1) dA0)) dR0))) [some (.own st),L,none]=.ok (.nx,[some (.own st1),L,some (.val (.int f))]):=by refine zaD (i:=2) (Z1:=[some (.own st1),L,none]) (zsr e1 ?_) xws;refine zbH (d:=tz row) rfl ?_;rw[tz,zb5,List.length_map,hlen]
 refine zal (Z':=[some (.own st2),L,some (.val (.int f))]) rfl ?_ rfl;show zfS [some (.own st),L,none]=_;unfold zfS;rw[zag x1];have hi:dOp zdu (dOp zdu (zab 2) (dC (.int 1))) (zai zak (dRO 0 (dR (dOp zjG (dFn zb5 (dA (zab 1) dA0)) (zab 2)) dR0))) [some (.own st1),L,some (.val (.int f))]=.ok (.int ((f:Int)+((1+m:Nat):Int)),[some (.own st2),L,some (.val (.int f))]):=by
  refine zar (d:=.int ((f:Int)+1)) (Z1:=[some (.own st1),L,some (.val (.int f))]) rfl (zsr e2 ?_) (e:=.int m) ?_
  ·refine zar (d:=.int n) (e:=.int f) (Z1:=[some (.own st1),L,some (.val (.int f))]) (zbH (d:=tz row) rfl ?_) rfl rfl;rw[tz,zb5,List.length_map,hlen]
  ·show R.ok (Dt.int ((f:Int)+1+m))=_;congr 2;omega
 have ecut:zfG (zab 1) (dO1 (zab 2)) (dO1 (dOp zdu (dOp zdu (zab 2) (dC (.int 1))) (zai zak (dRO 0 (dR (dOp zjG (dFn zb5 (dA (zab 1) dA0)) (zab 2)) dR0))))) [some (.own st1),L,some (.val (.int f))]=.ok (tz q,[some (.own st2),L,some (.val (.int f))]):=by refine (zkv (x:=row.map .int) (lo:=some (f:Int)) rfl rfl (zr7 hi)).trans ?_;rw[zpE (by simp;omega),tz,List.map_take,List.map_drop]
 exact zaY (zbH (zaN (zgK ecut (znQ xwo))) rfl)
end Lw
end
section
namespace LQ
open PySem PySem.Spec L2 PV Lw
variable{p:List Int}
theorem ztO:∀{row:List Int},(∃ g∈row,g∈p)->∃ A g B,row=A++g::B/\No p A/\g∈p
 |[],h=>by obtain ⟨g,hg,_⟩:=h;cases hg
 |x::r,h=>by
  by_cases hx:x∈p
  ·exact ⟨[],x,r,rfl,(λy hy=>by cases hy),hx⟩
  ·obtain ⟨A,g,B,rfl,h1,h2⟩:=ztO (row:=r) (by
    obtain ⟨g,hg,hp⟩:=h;rcases wap.mp hg with rfl|hg
    ·exact absurd hp hx
    ·exact ⟨g,hg,hp⟩)
   exact ⟨x::A,g,B,rfl,λy hy=>by
    rcases wap.mp hy with rfl|hy
    ·exact hx
    ·exact h1 y hy,h2⟩
theorem zuK{A B:List Int}{g:Int}(hr:(A++g::B).Nodup)(hpn:p.Nodup)(hp:∀ x∈p,x∈A++g::B)(hA:No p A)(hg:g∈p) :
  ((g::B).take p.length).map (λx=>decide (x∈p))=List.replicate p.length true ↔ Ct p (A++g::B):=by
 have hn:=(List.nodup_append.mp hr).2.1;have hpB:∀ x∈p,x∈g::B:=λx hx=>by
  rcases wax.mp (hp x hx) with h|h
  ·exact absurd hx (hA x h)
  ·exact h
 rw[Ct,zj5 ztK hA λz=>z g xws hg];constructor
 ·intro h;have hlen:((g::B).take p.length).length=p.length:=by have:=congrArg List.length h;simpa using this
  have hall:∀ x∈(g::B).take p.length,x∈p:=λx hx=>by
   have:decide (x∈p)∈List.replicate p.length true:=by rw[<- h];exact List.mem_map.mpr ⟨x,hx,rfl⟩
   simpa using (List.mem_replicate.mp this).2
  have hn1:((g::B).take p.length).Nodup:=hn.sublist (List.take_sublist _ _);have hperm:=zfs _ p hn1 hall xwo;refine ⟨[],(g::B).take p.length,(g::B).drop p.length,xws,xws,hall,λx hx hxp=>?_⟩;have h1:x∈(g::B).take p.length:=hperm.mem_iff.mpr hxp;rw[<- List.take_append_drop p.length (g::B)] at hn;exact (List.nodup_append.mp hn).2.2 x h1 x hx rfl
 ·rintro ⟨u,v,w,e,hu,hv,hw⟩;have hu0:u=[]:=by
   cases u with
   |nil=>rfl
   |cons a u =>
    have:a=g:=by simp at e;exact e.1.symm
    exact absurd hg (this ▸ hu a xws)
  subst hu0;rw[List.nil_append] at e;have hvn:v.Nodup:=by rw[e] at hn;exact (List.nodup_append.mp hn).1
  have hpv:∀ x∈p,x∈v:=λx hx=>by
   have:=hpB x hx;rw[e] at this;rcases wax.mp this with h|h
   ·exact h
   ·exact absurd hx (hw x h)
  have hl:v.length=p.length:=by have h1:=zhI hvn hv;have h2:=zhI hpn hpv;omega
  rw[e,<- hl,List.take_left];refine List.eq_replicate_iff.mpr ⟨xws,λb hb=>?_⟩;obtain ⟨x,hx,rfl⟩:=List.mem_map.mp hb;exact wat (hv x hx)
theorem zlB:∀{A B:List Bool},(∀ b∈A,b=false)->zns (.bl true) ((A++true::B).map .bl)=some A.length
 |[],B,_=>by rw[List.nil_append,List.map_cons,zns,eqD];rfl
 |a::A,B,h=>by have:a=false:=h a xws;subst this;rw[List.cons_append,List.map_cons,zns,eqD,if_neg xws,zlB λb hb=>h b (by simp[hb])];rfl
theorem zsP{fa:De}{Z Z2:Ev}{m:Nat}(h:fa Z=.ok (.int m,Z2))(hm:m<=1000):zwl (dFz (zc8 (dA (dC (.bl true)) dA0))) fa Z=.ok ((List.replicate m true).map .bl,Z2):=by
 have this:∀ k:Nat,(List.replicate k [Dt.bl true]).flatten=(List.replicate k true).map .bl:=by
  intro k
  induction k with
  |zero=>rfl
  |succ k ih=>rw[List.replicate_succ,List.flatten_cons,ih,List.replicate_succ];rfl
 have hc:[Dt.bl true].length * (m:Int).toNat<=16777216:=by rw[Int.toNat_natCast];simp only[wan,List.length_nil];omega
 rw[zxb (Z1:=Z) rfl h,zsO ⟨zlj hm,hc⟩,Int.toNat_natCast,this]
open Classical in
theorem zpb{row:List Int}(hr:row.Nodup)(hpn:p.Nodup)(hp:∀ x∈p,x∈row)(hne:p≠[])(hl:p.length<=1000)(hl2:row.length<=1000):zeg [.val (tz row),.val (tz p)]=.ok (.bl (decide (Ct p row)),[.val .non,.val .non]):=by
 obtain ⟨A,g,B,e,hA,hg⟩:=ztO (p:=p) (row:=row) (by
  cases p with
  |nil=>exact absurd rfl hne
  |cons a q=>exact ⟨a,hp a xws,xws⟩)
 let ms:List Bool:=row.map λx=>decide (x∈p);have hms:ms=(A.map λx=>decide (x∈p))++true::(B.map λx=>decide (x∈p)):=by show row.map _=_;rw[e,List.map_append,List.map_cons,decide_eq_true hg]
 let Z0:Ev:=[some (.val (tz row)),some (.val (tz p)),none,none]
 let Z1:Ev:=[some (.val (tz row)),some (.val (tz p)),some (.val (.lst (ms.map .bl))),none]
 let Z2:Ev:=[some (.val (tz row)),some (.val (tz p)),some (.val (.lst (ms.map .bl))),some (.val (.int (A.length:Nat)))]
 have hc:zbl (dIt (zab 0)) (zb0 4) dTT (dOp (gIn false) (zab 4) (zab 1)) 1 Z0=.ok (ms.map .bl,Z0):=by
  refine (zeb (Z0:=Z0) (fi:=dIt (zab 0)) (l:=row) (u:=Dt.int) (f:=λg=>.bl (decide (g∈p))) (ds:=row.map .int) rfl rfl hl2 (λg hg=>?_) rfl).trans ?_
  ·refine zar (d:=.int g) (e:=tz p) rfl rfl ?_;rw[tz,(zgU rfl zim).1,zgD];rfl
  ·show R.ok (_,Z0)=R.ok ((row.map λx=>decide (x∈p)).map Dt.bl,Z0);rw[List.map_map];rfl
 have e2:zaX 3 (zuW (zab 2) (dC (.bl true))) Z1=.ok (.nx,Z2):=by
  refine zaD (i:=3) (Z1:=Z1) ?_ (show 3<4 by decide);have i:=zlB (A:=A.map λx=>decide (x∈p)) (B:=B.map λx=>decide (x∈p)) λb hb=>by obtain ⟨x,hx,rfl⟩:=List.mem_map.mp hb;exact waw (hA x hx)
  rw[<- hms,List.length_map] at i;unfold zuW;simp only[zab,Z1,List.getElem?_cons_succ,List.getElem?_cons_zero,R.bind_ok,dC];rw[if_pos (by simp[okN]),i]
 refine zal (Z':=Z2) rfl ?_ rfl;refine (zag (Z1:=Z1) (zaD (Z1:=Z0) (zaN hc) (show 2<4 by decide))).trans ((zag e2).trans ?_);have elen:dFn zb5 (dA (zab 1) dA0) Z2=.ok (.int (p.length:Nat),Z2):=zbH (d:=tz p) rfl (by simp[tz,zb5]);have hAl:A.length<=ms.length:=by rw[hms];simp
 have ecut:zlM (zab 2) (dO1 (zab 3)) (dO1 (dOp zdu (zab 3) (dFn zb5 (dA (zab 1) dA0)))) Z2=.ok (((ms.drop A.length).take p.length).map .bl,Z2):=by refine (zms (x:=ms.map .bl) (lo:=some (A.length:Int)) rfl rfl (zr7 (zar (d:=.int (A.length:Nat)) (e:=.int (p.length:Nat)) rfl elen rfl))).trans ?_;rw[zpE (by simpa using hAl),List.map_take,List.map_drop]
 refine zaY (zar (zaN ecut) (zaN (zsP elen hl)) ?_);rw[zbp (zlD _ _) (zlD _ _),eqD,zj4];simp only[Bool.false_eq_true,if_false];have hd:ms.drop A.length=(g::B).map λx=>decide (x∈p):=by show (row.map _).drop A.length=_;rw[e,<- List.map_drop,List.drop_left]
 have S:=zuK (p:=p) (A:=A) (g:=g) (B:=B) (e ▸ hr) hpn (e ▸ hp) hA hg;rw[<- e] at S;rw[hd,<- List.map_take];congr 2;rw[Bool.eq_iff_iff,beq_iff_eq,decide_eq_true_eq];exact S
variable{p:List Int}
open Classical in
theorem zqY{rows:List (List Int)}(hpn:p.Nodup)(hne:p≠[])(hl:p.length<=1000)(hrs:rows.length<=1000)(hr:∀ row∈rows,row.Nodup/\row.length<=1000/\∀ x∈p,x∈row) :
  zdm [.val (.lst (lp rows)),.val (.lst [tz p])]=.ok (.lst (lp (rows.filter λrow=>decide (Ct p row))),[.val .non,.val .non]):=by
 let Z:Ev:=[some (.val (.lst (lp rows))),some (.val (.lst [tz p]))]
 refine zal (Z':=Z) rfl ?_ rfl;refine zer ?_;refine (zch (u:=tz) (f:=tz) (p:=λrow=>decide (Ct p row)) (l:=rows) (ds:=lp rows) (fi:=dIt (zab 0)) (Z0:=Z) rfl rfl rfl xwo (λrow hrow=>?_) λrow hrow _=>rfl).trans rfl;obtain ⟨h1,h2,h3⟩:=hr row hrow;let Z1:Ev:=Z++[some (.val (tz row))]
 have inner:zbl (dIt (zab 1)) (zb0 3) (zdx (dTB (zai zeg (dR (zab 2) (dR (zab 3) dR0))))) (zab 3) 1 Z1=.ok (([p].filter λq=>!decide (Ct q row)).map tz,Z1) :=
  zch (u:=tz) (f:=tz) (p:=λq=>!decide (Ct q row)) (l:=[p]) (ds:=[tz p]) (fi:=dIt (zab 1)) (Z0:=Z1) rfl rfl rfl (show 1<=16777216 by decide) (λq hq=>by rw[List.mem_singleton.mp hq];exact zfr (za5 (zcX (d:=tz row) (e:=tz p) rfl rfl (zpb h1 hpn h3 hne hl h2)))) λq hq _=>rfl
 refine za5 (zar (Z1:=Z1) (e:=.lst []) (zaN inner) rfl ?_);by_cases h:Ct p row
 ·have:[p].filter (λq=>!decide (Ct q row))=[]:=by simp[h]
  rw[this,decide_eq_true h];rw[zbp rfl rfl];simp only[Bool.false_eq_true,if_false,List.map_nil,ze4]
 ·have:[p].filter (λq=>!decide (Ct q row))=[p]:=by simp[h]
  rw[this,decide_eq_false h];have ho:okN 60 (.lst [tz p])=true:=by have:=zlz (m:=59) (zog p 0) xwd;simp[okN,tz]
  show gEq false (.lst [tz p]) (.lst [])=_;rw[zbp ho rfl];simp only[Bool.false_eq_true,if_false,zeN]
noncomputable abbrev nI1:DT:=zhl (zdx (dTB (zfw "tuple" (zab 0)))) (zhl (dTB (dOp (gEq true) (dFn zb5 (dA (zab 0) dA0)) (dC (.int 2)))) (zdx (dTB (zfw "tuple" (dOp gIx (zab 0) (dC (.int 1)))))))
noncomputable abbrev nI2:DT:=zhl (zdx (dTB (zfw "str" (dOp gIx (zab 0) (dC (.int 0)))))) (zhl (dTB (dOp (gIn true) (dOp gIx (zab 0) (dC (.int 0))) (zdO (dA (dC (.str (Str.ofString "any"))) (dA (dC (.str (Str.ofString "row"))) dA0))))) (dTB (dOp gLt (dFn zb5 (dA kid dA0)) (dC (.int 2)))))
noncomputable abbrev nI3:DT:=zke (dTB (dOp (gEq false) (dOp gIx (zab 0) (dC (.int 0))) (dC (.str (Str.ofString "row"))))) (dTB (dOp gLt (dFn zb5 (dA kid dA0)) (dC (.int 3))))
theorem ztb(F:FD):zdB F=za2 (dIf (dTB (zfw "int" (zab 0))) (zbd (zai zeQ (dR (zab 0) dR0))) dNx) (za2 (dIf nI1 (zbd (dC (.bl false))) dNx) (za2 (dIf nI2 (zbd (dC (.bl false))) dNx) (za2 (dIf nI3 (zbd (dC (.bl false))) dNx) (zbd (dOp (gEq false) (dFz (zbl (dIt kid) (zb0 1) (zdx (dTB (zai F (dR (zab 1) dR0)))) (zab 1) 1)) (dFz (zc8 dA0))))))):=rfl
theorem zli:∀(n:Nat)(t:Tr),dep t<=n->Sm t->zbe n [.val (toD t)]=.ok (.bl true,[.val .non])
 |0,t,h,_=>by cases t <;> simp[dep] at h
 |n+1,.lf g,_,_=>rfl
 |n+1,.nd r bs,h,S=>by
  simp only[dep] at h;have hd:=zaW.mp (by omega:zcY bs<=n);obtain ⟨hk,hl,hne⟩:=zjE S;obtain ⟨_,_,h3⟩:=S.ok.kids;let Z:Ev:=[some (.val (toD (.nd r bs)))]
  have k0:kid Z=.ok (.tup (bs.map toD),Z):=by have:=ze2 (r:=r) (bs:=bs) (Z:=Z) rfl;rw[zaU] at this;exact this
  have kl:dFn zb5 (dA kid dA0) Z=.ok (.int (bs.length:Nat),Z):=zbH k0 (by simp[zb5]);have w0:=zp0 (r:=r) (bs:=bs) (Z:=Z) rfl;show za0 false [false] 0 (zdB (zbe n)) _=_;refine zal (Z':=Z) rfl ?_ rfl;rw[ztb];have i1:nI1 Z=.ok (false,Z):=rfl;have i2:nI2 Z=.ok (false,Z):=by
   refine (zjv (Z1:=Z) rfl).trans ((zjv (Z1:=Z) ?_).trans ?_)
   ·refine za5 (zar (e:=.tup [.str (Str.ofString "any"),.str (Str.ofString "row")]) w0 rfl ?_);rw[(zgU (by rw[okN];exact zeu r) λd hd=>by
     rcases wap.mp hd with rfl|hd
     ·rw[okN];exact zi0
     ·rw[List.mem_singleton.mp hd,okN];exact zi7).1]
    have:inD (.str (wd r)) [.str (Str.ofString "any"),.str (Str.ofString "row")]=true:=by unfold inD;simp only[List.any_cons,List.any_nil,eqS];cases r <;> decide +kernel
    rw[this];rfl
   ·refine (za5 (zar (e:=.int 2) kl rfl (z:=.bl (decide (((bs.length:Nat):Int)<2))) rfl)).trans ?_;rw[decide_eq_false (by cases r <;> simp at h3 <;> omega)]
  have i3:nI3 Z=.ok (false,Z):=by
   have ir:=zu0 (r:=r) (bs:=bs) (Z:=Z) rfl;cases r with
   |false=>exact zrA ir
   |true =>
    refine (zmx ir).trans ((za5 (zar (e:=.int 3) kl rfl (z:=.bl (decide (((bs.length:Nat):Int)<3))) rfl)).trans ?_);rw[decide_eq_false (by simp at h3;omega)]
  refine (zag (Z1:=Z) rfl).trans ((zag (Z1:=Z) ((zbN i1).trans rfl)).trans ((zag (Z1:=Z) ((zbN i2).trans rfl)).trans ((zag (Z1:=Z) ((zbN i3).trans rfl)).trans (zaY ?_))));have hi:dIt kid Z=.ok (bs.map toD,Z):=zqW rfl;have c:zbl (dIt kid) (zb0 1) (zdx (dTB (zai (zbe n) (dR (zab 1) dR0)))) (zab 1) 1 Z=.ok ((bs.filter λ_=>false).map toD,Z) :=
   zch (u:=toD) (f:=toD) (p:=λ_=>false) (l:=bs) (ds:=bs.map toD) (Z0:=Z) hi rfl rfl xwo (λb hb=>zfr (b:=true) (za5 (zdy (d:=toD b) rfl (zli n b (hd b hb) (hk b hb))))) λb hb z=>by cases z
  have e0:(bs.filter λ_=>false)=[]:=List.filter_eq_nil_iff.mpr λ_ _ z=>by cases z
  rw[e0] at c;exact zar (e:=.lst []) (zaN c) rfl (by rw[zbp rfl rfl];simp only[Bool.false_eq_true,if_false,List.map_nil,ze4])
theorem zql{fa:De}{Z Z1:Ev}{n:Nat}(h:fa Z=.ok (.int n,Z1))(hn:n<=1000):zjh fa Z=.ok ((zaK n).map .int,Z1):=by
 have hc:(0:Int)<=n/\(n:Int)<=16777216:=by lia
 unfold zjh;rw[h];show (if 0<=(n:Int)/\(n:Int)<=16777216 then R.ok (zca 0 (n:Int).toNat,Z1) else .no)=_;rw[if_pos hc,Int.toNat_natCast,zh3]
theorem zmJ{n:Nat}{t:Tr}(h7:n<=7)(S:Sm t)(hp:(zad t).Perm (zaK n)):zcC [.val (.int (n:Nat)),.val (toD t)]=.ok (.bl true,[.val .non,.val .non]):=by
 have hl:=S.l;let Z:Ev:=[some (.val (.int (n:Nat))),some (.val (toD t))]
 refine zal (Z':=Z) rfl ?_ rfl;refine zaY ?_;have e1:zai (zbe 8) (dR (zab 1) dR0) Z=.ok (.bl true,Z):=zdy (d:=toD t) rfl (zli 8 t (waN S.d xwd) S);have hs:zaR (zad t)=zaK n:=zj9.mpr ⟨S.ok.n,λx hx=>zbM.mp (hp.mem_iff.mp hx),by rw[hp.length_eq,zbk]⟩;have e2:dOp (gEq false) (dFz (zdL zbh (dA (zai (za8 8) (dR (zab 1) dR0)) dA0))) (dFz (zjh (zab 0))) Z=.ok (.bl true,Z):=by refine zar (Z1:=Z) (zaN (zgK (zdy (d:=toD t) rfl (zel 8 t (waN S.d xwd) xwo)) (zho xwo))) (zaN (zql (n:=n) rfl xwo)) ?_;rw[zbp (zig _) (zig _),zrX,hs];simp
 show zrU (zai (zbe 8) (dR (zab 1) dR0)) (dOp (gEq false) (dFz (zdL zbh (dA (zai (za8 8) (dR (zab 1) dR0)) dA0))) (dFz (zjh (zab 0)))) Z=_;unfold zrU;rw[e1];exact e2
variable{p:List Int}{n:Nat}{t:Tr}
theorem znM:∀ l:List Tr,(∀ t∈l,eqD (toD t) (toD t)=true)->zgf (l.map toD) (l.map toD)=true
 |[],_=>by simp[zgf]
 |a::l,h=>by rw[List.map_cons,zgf,h a xws,znM l λt ht=>h t (by simp[ht])];rfl
theorem ztn:∀(n:Nat)(a:Tr),dep a<=n->eqD (toD a) (toD a)=true
 |_,.lf i,_=>by simp[toD,eqD]
 |0,.nd r l,h=>by simp[dep] at h
 |n+1,.nd r l,h=>by have ih:=znM l λt ht=>ztn n t (zaW.mp (by simpa [dep] using h) t ht);simp only[toD,zaU,eqD,zgf,Bool.and_true,wae];exact ⟨xws,ih⟩
theorem zrw:∀ l:List (List Int),zgf (lp l) (lp l)=true
 |[]=>by simp[lp,zgf]
 |a::l=>by have:=zrw l;unfold lp at this ⊢;rw[List.map_cons,zgf,zvw,this];simp
theorem zqU(l:List (List Int)):okN 60 (.lst (lp l))=true:=by rw[okN,List.all_eq_true];intro d hd;obtain ⟨q,_,rfl⟩:=List.mem_map.mp hd;unfold tz;rw[okN,List.all_eq_true];intro d hd;obtain ⟨i,_,rfl⟩:=List.mem_map.mp hd;rfl
structure Dr(n:Nat)(t:Tr):Prop where
 n1:1<=n
 n6:n<=6
 s:Sm t
 l:(zad t).Perm (zaK n)
theorem zlX(h:Pty n p):p.Nodup:=h.2.1.imp λq=>Int.ne_of_lt q
theorem zv3(D:Dr n t)(h:Pty n p):p.length<=1000:=by have:p.length<=(zaK n).length:=(zlX h).length_le_of_subset λx hx=>zbM.mpr (h.2.2 x hx);rw[zbk] at this;have:=D.n6;omega
theorem zpX(D:Dr n t)(h:Pty n p):sh p t≠0:=λz=>by obtain ⟨h1,h2,h3⟩:=h;obtain ⟨x,q,rfl⟩:=waI h1;exact (zoh.mp z) x (D.l.mem_iff.mpr (zbM.mpr (h3 x xws))) xws
theorem zta{u:Tr}(D:Dr n t)(O:zdv u)(hl:(zad u).Perm (zad t)):Dr n (zaj u)/\zaj (zaj u)=zaj u/\∀ x,x∈zaw (zaj u) ↔ x∈zaw u:=by have w:=zg2 _ u (wal _);obtain ⟨f1,f2,f3⟩:=zhz _ u _ (wal _) w;refine ⟨⟨D.n1,D.n6,⟨⟨by rw[f1];exact O.o,f2.nodup_iff.mpr O.n⟩,?_⟩,f2.trans (hl.trans D.l)⟩,zqZ _ u _ (wal _) w O.o O.n,λx=>(zmt _ u _ (wal _) w x).symm⟩;rw[f2.length_eq,hl.length_eq];exact D.s.l
noncomputable def rws(n:Nat)(t:Tr):List (List Int):=(zcl n n).filter λr=>decide (r∈zaw t)
theorem zgc(D:Dr n t){r:List Int}:r∈rws n t ↔ r∈zaw t:=by unfold rws;rw[List.mem_filter,decide_eq_true_eq,ziA];exact ⟨λh=>h.2,λh=>⟨(zb3 h).trans D.l,h⟩⟩
theorem ztA(D:Dr n t):rws n t≠[]:=λz=>by have:=znW _ t (wal _);obtain ⟨r,hr⟩:=List.exists_mem_of_length_pos (by omega:0<(zaw t).length);have:=(zgc D).mpr hr;rw[z] at this;cases this
theorem zmq(D:Dr n t):(rws n t).length<=1000:=by have h1:(rws n t).length<=(zcl n n).length:=List.length_filter_le _ _;have:=zkt n D.n6 n (wal _);omega
theorem zny(D:Dr n t):zaP [.val (toD t),.val (.lst (lp (zcl n n)))]=.ok (.lst (lp (rws n t)),[.val .non,.val .non]) :=
 zpI (waN D.s.d xwd) D.s.ok.o D.s.ok.n D.s.l (by have:=zkt n D.n6 n (wal _);omega) λr hr=>(ziA.mp hr).trans D.l.symm
open Classical in
noncomputable def zmo(p:List Int)(n:Nat)(t:Tr):List (List Int):=(rws n t).filter λr=>decide (Ct p r)
open Classical in
theorem zpJ(D:Dr n t){r:List Int}:r∈zmo p n t ↔ r∈zaw t/\Ct p r:=by unfold zmo;rw[List.mem_filter,decide_eq_true_eq,zgc D]
theorem zo6(D:Dr n t)(h:Pty n p):zdm [.val (.lst (lp (rws n t))),.val (.lst [tz p])]=.ok (.lst (lp (zmo p n t)),[.val .non,.val .non]) :=
 zqY (zlX h) h.1 (zv3 D h) (zmq D) λrow hr=>by have hp:=(zb3 ((zgc D).mp hr)).trans D.l;refine ⟨hp.nodup_iff.mpr (zcI n),?_,λx hx=>hp.mem_iff.mpr (zbM.mpr (h.2.2 x hx))⟩;rw[hp.length_eq,zbk];have:=D.n6;omega
theorem zoQ(D:Dr n t)(h:Pty n p)(e:zbZ 8 p t=none):zmo p n t=[]:=by have T:=zhp 8 t (wal _) (waN D.s.d xwd) D.s.ok (zpX D h);refine List.eq_nil_iff_forall_not_mem.mpr λr hr=>?_;obtain ⟨h1,h2⟩:=(zpJ D).mp hr;exact T.no e r h1 h2
open Classical in
theorem zo5(D:Dr n t)(h:Pty n p){u:Tr}(e:zbZ 8 p t=some u):zmo p n t≠[]/\Dr n (zaj u)/\zaj (zaj u)=zaj u/\(rws n t).filter (λr=>decide (r∈zaw (zaj u)))=zmo p n t/\rws n (zaj u)=zmo p n t:=by
 have T:=zhp 8 t (wal _) (waN D.s.d xwd) D.s.ok (zpX D h);obtain ⟨O,hl,hr⟩:=T.yes u e;obtain ⟨D',h2,h3⟩:=zta D O hl;have key:∀ r,r∈zaw (zaj u) ↔ r∈zaw t/\Ct p r:=λr=>(h3 r).trans (hr r);have e2:(rws n t).filter (λr=>decide (r∈zaw (zaj u)))=zmo p n t:=by refine List.filter_congr λr hr'=>?_;rw[Bool.eq_iff_iff,decide_eq_true_eq,decide_eq_true_eq,key];exact ⟨λq=>q.2,λq=>⟨(zgc D).mp hr',q⟩⟩
 refine ⟨λz=>?_,D',h2,e2,?_⟩
 ·obtain ⟨r,q⟩:=List.exists_mem_of_ne_nil _ (ztA D');have:=(zpJ (p:=p) D).mpr ((key r).mp ((zgc D').mp q));rw[z] at this;cases this
 ·rw[<- e2];unfold rws;rw[List.filter_filter];refine List.filter_congr λr _=>?_;rw[Bool.eq_iff_iff,Bool.and_eq_true,decide_eq_true_eq,decide_eq_true_eq];exact ⟨λq=>⟨q,((key r).mp q).1⟩,λq=>q.1⟩
theorem zrH{k:Nat}:zaS (k+1) [.val .non,.val .non]=.ok (.bl true,[.val .non,.val .non]):=zal rfl (zhQ rfl rfl (by rw[eqD])) rfl
noncomputable abbrev cT:De:=zai zdk (dR (zab 3) (dR (zab 4) (dR (zab 7) dR0)))
noncomputable abbrev b1:DS:=zaX 8 (dFz (zbm zdm (dR (zab 5) (dR (dFz (zc8 (dA (zab 7) dA0))) dR0))))
noncomputable abbrev b2:DS:=zaX 9 cT
noncomputable abbrev q1:DT:=zdx (dTB (zai zcC (dR (zab 3) (dR (zab 9) dR0))))
noncomputable abbrev q2:DT:=dTB (dOp (gEq true) (zai (zbw 8) (dR (zab 9) dR0)) (zab 9))
noncomputable abbrev q3:DT:=dTB (dOp (gEq true) (dFz (zbm zaP (dR (zab 9) (dR (zab 5) dR0)))) (zab 8))
noncomputable abbrev q4:DT:=dTB (dOp (gEq true) (dFn zb5 (dA (dFz (zbm zaP (dR (zab 9) (dR (zai zbC (dR (zab 3) dR0)) dR0)))) dA0)) (dFn zb5 (dA (zab 8) dA0)))
noncomputable abbrev b3:DS:=dIf (dTB (dOp (gEq false) (zab 8) (dFz (zc8 dA0)))) (dIf (zoV false (zab 9)) (zbd (dC (.bl false))) dNx) (dIf (zhl q1 (zhl q2 q3)) (zbd (dC (.bl false))) (dIf q4 (zbd (dC (.bl false))) dNx))
noncomputable abbrev b4:DS:=dIf (zdx (dTB (zai (zaS 16) (dR cT (dR (zab 9) dR0))))) (zbd (dC (.bl false))) dNx
noncomputable abbrev tB:DS:=za2 b1 (za2 b2 (za2 b3 b4))
noncomputable abbrev zxC:DA:=dA (zai zdn (dRO 2 (dR (zab 6) dR0))) (dA (zai zbx (dRO 2 (dR (zab 3) dR0))) (dA (zai zbx (dRO 2 (dR (zab 3) dR0))) (dA (zmu (zab 3)) (dA (zdO (dA (dC (.int 0)) dA0)) dA0))))
noncomputable abbrev outer:DS:=za2 (zdC 2 (zbm zcN (dR (zab 0) (dR (zab 1) dR0)))) (za2 (zaX 3 (dOp zdu (dC (.int 1)) (zai zak (dRO 2 (dR (dC (.int 6)) dR0))))) (za2 (zaX 4 (zai (zaZ 8) (dRO 2 (dR (dFz (zjh (zab 3))) dR0)))) (za2 (zaX 5 (dFz (zbm zaP (dR (zab 4) (dR (zai zbC (dR (zab 3) dR0)) dR0))))) (za2 (zaX 6 (dOp gIx (zab 5) (zai zak (dRO 2 (dR (dFn zb5 (dA (zab 5) dA0)) dR0))))) (ziF (dIt (dFz (zc8 zxC))) (zb0 7) tB)))))
theorem zvo:zuF=za2 (ziF (zdS (dFn zjV (dA (dC (.int 1)) (dA (dFn zki (dA (dFn zb5 (dA (zab 0) dA0)) (dA (dC (.int 4)) dA0))) dA0)))) (zb0 1) outer) (zbd (dC (.bl true))):=rfl
section
variable{p:List Int}{n:Nat}{t:Tr}{S K ST R6 o8 o9:Option B}
theorem zvB(D:Dr n t)(h:Pty n p)(Z:Ev)(e:Z=[S,K,ST,some (.val (.int n)),some (.val (toD t)),some (.val (.lst (lp (rws n t)))),R6,some (.val (tz p)),o8,o9]):∃ b8 b9,tB Z=.ok (.nx,[S,K,ST,some (.val (.int n)),some (.val (toD t)),some (.val (.lst (lp (rws n t)))),R6,some (.val (tz p)),b8,b9]):=by
 subst e;let NV:Option B:=some (.val (.int n));let TV:Option B:=some (.val (toD t));let RV:Option B:=some (.val (.lst (lp (rws n t))));let PV:Option B:=some (.val (tz p));let DV:Option B:=some (.val (.lst (lp (zmo p n t))));let x:Dt:=toO ((zbZ 8 p t).map zaj);let Z0:Ev:=[S,K,ST,NV,TV,RV,R6,PV,o8,o9]
 let Z1:Ev:=[S,K,ST,NV,TV,RV,R6,PV,DV,o9]
 let Z2:Ev:=[S,K,ST,NV,TV,RV,R6,PV,DV,some (.val x)]
 have TE:=ziV (p:=p) D.n1 (waN D.n6 xwd) D.s (zpX D h);have x1:b1 Z0=.ok (.nx,Z1):=zaD (Z1:=Z0) (zaN (zj7 (Z':=Z0) (Z'':=Z0) (d:=.lst (lp (rws n t))) (e:=.lst [tz p]) rfl rfl (zo6 D h))) (show 8<10 by decide);have x2:b2 Z1=.ok (.nx,Z2):=zaD (Z1:=Z1) (zpy (Z1:=Z1) (Z2:=Z1) (Z3:=Z1) (d:=.int n) (e:=toD t) (g:=tz p) rfl rfl rfl TE) (show 9<10 by decide);have c2:cT Z2=.ok (x,Z2):=zpy (Z1:=Z2) (Z2:=Z2) (Z3:=Z2) (d:=.int n) (e:=toD t) (g:=tz p) rfl rfl rfl TE;have a3:zab 3 Z2=.ok (.int n,Z2):=rfl;have a5:zab 5 Z2=.ok (.lst (lp (rws n t)),Z2):=rfl;have a8:zab 8 Z2=.ok (.lst (lp (zmo p n t)),Z2):=rfl;have a9:zab 9 Z2=.ok (x,Z2):=rfl;have ze:dFz (zc8 dA0) Z2=.ok (.lst [],Z2):=rfl;have t8a:dTB (dOp (gEq false) (zab 8) (dFz (zc8 dA0))) Z2=.ok (eqD (.lst (lp (zmo p n t))) (.lst []),Z2):=za5 (zar a8 ze (by rw[zbp (zqU _) rfl];rfl));have both:b3 Z2=.ok (.nx,Z2)/\zaS 16 [.val x,.val x]=.ok (.bl true,[.val .non,.val .non]):=by
  cases et:zbZ 8 p t with
  |none =>
   have ex:x=.non:=by show toO ((zbZ 8 p t).map zaj)=_;rw[et];rfl
   rw[ex] at a9 ⊢;rw[zoQ D h et] at t8a;refine ⟨?_,zrH⟩;have t9:zoV false (zab 9) Z2=.ok (false,Z2):=by unfold zoV;rw[a9];rfl
   rw[show b3 Z2=_ from zdw (by rw[t8a];show R.ok (eqD (.lst []) (.lst []),Z2)=_;rw[ze4])];exact (zbN t9).trans rfl
  |some u =>
   have ex:x=toD (zaj u):=by show toO ((zbZ 8 p t).map zaj)=_;rw[et];rfl
   obtain ⟨dn,D',li,f1,f2⟩:=zo5 D h et;have hd6:=D'.s.d;have hl6:=D'.s.l;rw[ex] at a9 ⊢;have t8b:dTB (dOp (gEq false) (zab 8) (dFz (zc8 dA0))) Z2=.ok (false,Z2):=by rw[t8a];obtain ⟨r,q,e⟩:=waI dn;rw[e];show R.ok (eqD (.lst (tz r::lp q)) (.lst []),Z2)=_;rw[zeN]
   have z1:q1 Z2=.ok (false,Z2):=zfr (za5 (zcX a3 a9 (zmJ (waN D.n6 xwd) D'.s D'.l)));have o60:okN 60 (toD (zaj u))=true:=zlz (zxA (waN hd6 xwd)) xwd;have z2:q2 Z2=.ok (false,Z2):=by have l1:=zio 8 (zaj u) (wal _) (waN hd6 xwd) D'.s.ok.o D'.s.ok.n xwo;rw[li] at l1;refine za5 (zar (zdy a9 l1) a9 ?_);rw[zbp o60 o60,ztn 6 _ hd6];rfl
   have z3:q3 Z2=.ok (false,Z2):=by have l1:=zpI (rs:=rws n t) (waN hd6 xwd) D'.s.ok.o D'.s.ok.n hl6 (zmq D) λr hr=>(zb3 ((zgc D).mp hr)).trans (D.l.trans D'.l.symm);rw[show (rws n t).filter (λr=>decide (r∈zaw (zaj u)))=zmo p n t from f1] at l1;refine za5 (zar (zaN (zj7 a9 a5 l1)) a8 ?_);rw[zbp (zqU _) (zqU _),eqD,zrw];rfl
   have z4:q4 Z2=.ok (false,Z2):=by have l1:=zny D';rw[f2] at l1;refine za5 (zar (zbH (zaN (zj7 a9 (zdy a3 (zjr D.n6)) l1)) (show zb5 [.lst (lp (zmo p n t))]=.ok (.int ((lp (zmo p n t)).length:Nat)) from rfl)) (zbH a8 (show zb5 [.lst (lp (zmo p n t))]=.ok (.int ((lp (zmo p n t)).length:Nat)) from rfl)) ?_);rw[zbp rfl rfl,eqD];simp
   refine ⟨?_,zpZ (waN hd6 xwd) D'.s.ok.o xwo⟩;rw[show b3 Z2=_ from zbN t8b,zbN (by rw[zjv z1,zjv z2];exact z3),zbN z4];rfl
 have x4:b4 Z2=.ok (.nx,Z2):=(zbN (zfr (za5 (zcX c2 a9 both.2)))).trans rfl;refine ⟨DV,some (.val x),?_⟩;show tB Z0=_;unfold tB;rw[zag x1,zag x2,zag both.1];exact x4
end
theorem zub{fa:De}{Z Z1:Ev}{n:Nat}(h:fa Z=.ok (.int n,Z1))(hn:n<=1000):zmu fa Z=.ok (tz (zaK n),Z1):=by
 have hc:(0:Int)<=n/\(n:Int)<=16777216:=by omega
 unfold zmu;rw[h];show (if 0<=(n:Int)/\(n:Int)<=16777216 then R.ok (Dt.tup (zca 0 (n:Int).toNat),Z1) else .no)=_;rw[if_pos hc,Int.toNat_natCast,zh3];rfl
theorem zvF{n:Nat}(h:1<=n):Pty n (zaK n):=⟨λz=>by have:=zbk n;rw[z] at this;simp at this;omega,zlr n,λx hx=>zbM.mp hx⟩
theorem zyq{n:Nat}(h:1<=n):Pty n [0]:=⟨xws,xws,λx hx=>by rw[List.mem_singleton.mp hx];omega⟩
theorem zrk{n:Nat}{st:List Dt}{row:List Int}{S K T5 R5 o7 o8 o9:Option B}(h1:1<=n)(h6:n<=6)(hs:St st)(hr:row.Perm (zaK n)):∃(st':List Dt)(ps:List (List Int)),(∀ p∈ps,Pty n p)/\dIt (dFz (zc8 zxC)) [S,K,some (.own st),some (.val (.int n)),T5,R5,some (.val (tz row)),o7,o8,o9]=.ok (ps.map tz,[S,K,some (.own st'),some (.val (.int n)),T5,R5,some (.val (tz row)),o7,o8,o9]):=by
 let NV:Option B:=some (.val (.int n));let R6:Option B:=some (.val (tz row));obtain ⟨p1,st1,hs1,hp1,e1⟩:=zpO h1 xwo hr hs;obtain ⟨p2,st2,hs2,hp2,e2⟩:=zjs h1 xwo hs1;obtain ⟨p3,st3,hs3,hp3,e3⟩:=zjs h1 xwo hs2;refine ⟨st3,[p1,p2,p3,zaK n,[0]],λp hp=>?_,?_⟩
 ·simp only[wap,wak,or_false] at hp;rcases hp with rfl|rfl|rfl|rfl|rfl
  ·exact hp1
  ·exact hp2
  ·exact hp3
  ·exact zvF h1
  ·exact zyq h1
 ·have y1:zai zdn (dRO 2 (dR (zab 6) dR0)) [S,K,some (.own st),NV,T5,R5,R6,o7,o8,o9]=.ok (tz p1,[S,K,some (.own st1),NV,T5,R5,R6,o7,o8,o9]):=zg7 (Z:=[S,K,some (.own st),NV,T5,R5,R6,o7,o8,o9]) rfl rfl e1;have y2:zai zbx (dRO 2 (dR (zab 3) dR0)) [S,K,some (.own st1),NV,T5,R5,R6,o7,o8,o9]=.ok (tz p2,[S,K,some (.own st2),NV,T5,R5,R6,o7,o8,o9]):=zg7 (Z:=[S,K,some (.own st1),NV,T5,R5,R6,o7,o8,o9]) rfl rfl e2;have y3:zai zbx (dRO 2 (dR (zab 3) dR0)) [S,K,some (.own st2),NV,T5,R5,R6,o7,o8,o9]=.ok (tz p3,[S,K,some (.own st3),NV,T5,R5,R6,o7,o8,o9]):=zg7 (Z:=[S,K,some (.own st2),NV,T5,R5,R6,o7,o8,o9]) rfl rfl e3;have y4:zmu (zab 3) [S,K,some (.own st3),NV,T5,R5,R6,o7,o8,o9]=.ok (tz (zaK n),[S,K,some (.own st3),NV,T5,R5,R6,o7,o8,o9]):=zub rfl xwo;let Z3:Ev:=[S,K,some (.own st3),NV,T5,R5,R6,o7,o8,o9]
  have y5:zdO (dA (dC (.int 0)) dA0) Z3=.ok (tz [0],Z3):=rfl;have y6:dA0 Z3=.ok ([],Z3):=rfl;have ya:zxC [S,K,some (.own st),NV,T5,R5,R6,o7,o8,o9]=.ok ([tz p1,tz p2,tz p3,tz (zaK n),tz [0]],Z3):=zlF y1 (zlF y2 (zlF y3 (zlF y4 (zlF y5 y6))));have yy:=zaN (zuA ya (show 5<=16777216 by decide));unfold dIt;rw[yy];rfl
theorem zoF{ns:List Int}{k:Nat}{o2 o3 o4 o5 o6 o7 o8 o9:Option B}:∃ b2 b3 b4 b5 b6 b7 b8 b9,outer [some (.val (.scr ns)),some (.val (.int k)),o2,o3,o4,o5,o6,o7,o8,o9]=.ok (.nx,[some (.val (.scr ns)),some (.val (.int k)),b2,b3,b4,b5,b6,b7,b8,b9]):=by
 let S:Option B:=some (.val (.scr ns));let K:Option B:=some (.val (.int k));obtain ⟨st,hs,e1⟩:=zoD (ns:=ns) (k:=k);have x1:zdC 2 (zbm zcN (dR (zab 0) (dR (zab 1) dR0))) [S,K,o2,o3,o4,o5,o6,o7,o8,o9]=.ok (.nx,[S,K,some (.own st),o3,o4,o5,o6,o7,o8,o9]) :=
  ztc (zj7 (Z':=[S,K,o2,o3,o4,o5,o6,o7,o8,o9]) (Z'':=[S,K,o2,o3,o4,o5,o6,o7,o8,o9]) rfl rfl e1) xws
 obtain ⟨v,st1,e2,hs1,v0,v1⟩:=zbX (m:=6) hs xwd xwd;obtain ⟨N,hN⟩ : ∃ N:Nat,(N:Int)=1+v:=⟨(1+v).toNat,xwl⟩
 have n1:1<=N:=by lia
 have n6:N<=6:=by lia
 let NV:Option B:=some (.val (.int N));have x2:zaX 3 (dOp zdu (dC (.int 1)) (zai zak (dRO 2 (dR (dC (.int 6)) dR0)))) [S,K,some (.own st),o3,o4,o5,o6,o7,o8,o9]=.ok (.nx,[S,K,some (.own st1),NV,o4,o5,o6,o7,o8,o9]):=by refine zaD (zar rfl (zg7 (Z:=[S,K,some (.own st),o3,o4,o5,o6,o7,o8,o9]) rfl rfl e2) (z:=.int N) ?_) xws;rw[hN];rfl
 have hgl:(zaK N).length=N:=zbk N;obtain ⟨t,st3,hs3,⟨ho,hpm,hd⟩,e4⟩:=zlQ 8 (zaK N) st1 xwl xwd xwl xwl hs1;have D:Dr N t:=⟨n1,n6,⟨⟨ho,hpm.nodup_iff.mpr (zcI N)⟩,by rw[hpm.length_eq];lia⟩,hpm⟩
 let TV:Option B:=some (.val (toD t));let RV:Option B:=some (.val (.lst (lp (rws N t))));have x3:zaX 4 (zai (zaZ 8) (dRO 2 (dR (dFz (zjh (zab 3))) dR0))) [S,K,some (.own st1),NV,o4,o5,o6,o7,o8,o9]=.ok (.nx,[S,K,some (.own st3),NV,TV,o5,o6,o7,o8,o9]) :=
  zaD (zg7 (Z:=[S,K,some (.own st1),NV,o4,o5,o6,o7,o8,o9]) rfl (zaN (zql rfl xwl)) e4) xws
 let Z4:Ev:=[S,K,some (.own st3),NV,TV,o5,o6,o7,o8,o9]
 let Z5:Ev:=[S,K,some (.own st3),NV,TV,RV,o6,o7,o8,o9]
 have x4:zaX 5 (dFz (zbm zaP (dR (zab 4) (dR (zai zbC (dR (zab 3) dR0)) dR0)))) Z4=.ok (.nx,Z5) :=
  zaD (Z1:=Z4) (zaN (zj7 (Z':=Z4) (Z'':=Z4) (d:=toD t) rfl (zdy (Z':=Z4) (d:=.int N) rfl (zjr n6)) (zny D))) (show 5<10 by decide)
 have l1:1<=(rws N t).length:=List.length_pos_iff.mpr (ztA D);have l2:=zmq D;obtain ⟨w,st6,e6,hs6,w0,w1⟩:=zbX (m:=((rws N t).length:Nat)) hs3 xwl xwl;obtain ⟨j,rfl⟩ : ∃ j:Nat,w=j:=⟨w.toNat,xwl⟩
 have hj:j<(rws N t).length:=by lia
 obtain ⟨s,es⟩ : ∃ s,(rws N t)[j]? = some s:=⟨_,wac hj⟩
 have hsm:s∈rws N t:=waH es;have hsp:s.Perm (zaK N):=(zb3 ((zgc D).mp hsm)).trans D.l;let R6:Option B:=some (.val (tz s));let Z6:Ev:=[S,K,some (.own st6),NV,TV,RV,R6,o7,o8,o9]
 have x6:zaX 6 (dOp gIx (zab 5) (zai zak (dRO 2 (dR (dFn zb5 (dA (zab 5) dA0)) dR0)))) Z5=.ok (.nx,Z6):=by have a5:zab 5 Z5=.ok (.lst (lp (rws N t)),Z5):=rfl;have l5:dFn zb5 (dA (zab 5) dA0) Z5=.ok (.int ((rws N t).length:Nat),Z5):=zbH a5 (by show R.ok (Dt.int ((lp (rws N t)).length:Nat))=_;rw[zn3]);exact zaD (zar a5 (zg7 (Z:=Z5) rfl l5 e6) (zuI xwl (by rw[zn3];lia) (by rw[Int.toNat_natCast];unfold lp;rw[List.getElem?_map,es];rfl))) (by simp[Z5])
 obtain ⟨st7,ps,hps,e7⟩:=zrk (S:=S) (K:=K) (T5:=TV) (R5:=RV) (o7:=o7) (o8:=o8) (o9:=o9) n1 n6 hs6 hsp;let Z7:Ev:=[S,K,some (.own st7),NV,TV,RV,R6,o7,o8,o9]
 obtain ⟨Z8,⟨b7,b8,b9,rfl⟩,x7⟩:=zc3 (u:=tz) (l:=ps) (g:=zb0 7) (body:=tB) (fi:=dIt (dFz (zc8 zxC))) (Z:=Z6) (I:=λdn Z=>∃ b7 b8 b9,Z=[S,K,some (.own st7),NV,TV,RV,R6,b7,b8,b9]) e7 rfl ⟨o7,o8,o9,rfl⟩
  (λdn c zbz e Z ⟨b7,b8,b9,hρ⟩=>by subst hρ;obtain ⟨d8,d9,e2⟩:=zvB (S:=S) (K:=K) (ST:=some (.own st7)) (R6:=R6) (o8:=b8) (o9:=b9) D (hps c (by rw[e];simp)) _ rfl;exact ⟨_,_,rfl,e2,_,d8,d9,rfl⟩)
 refine ⟨some (.own st7),NV,TV,RV,R6,b7,b8,b9,?_⟩;unfold outer;rw[zag x1,zag x2,zag x3,zag x4,zag x6];exact x7
theorem law_true(ns:List Int):zo7 [.val (.scr ns)]=.ok (.bl true,[.val .non]):=by
 let Z0:Ev:=[some (.val (.scr ns)),none,none,none,none,none,none,none,none,none]
 obtain ⟨j,hj,ej⟩ : ∃ j:Nat,j<=1000/\dFn zjV (dA (dC (.int 1)) (dA (dFn zki (dA (dFn zb5 (dA (zab 0) dA0)) (dA (dC (.int 4)) dA0))) dA0)) Z0=.ok (.int (j:Nat),Z0):=by
  have h0:dFn zjV (dA (dC (.int 1)) (dA (dFn zki (dA (dFn zb5 (dA (zab 0) dA0)) (dA (dC (.int 4)) dA0))) dA0)) Z0=.ok (.int (if (if (4:Int)<ns.length then (4:Int) else ns.length) > 1 then (if (4:Int)<ns.length then (4:Int) else ns.length) else 1),Z0):=rfl;obtain ⟨j,h1,h2⟩ : ∃ j:Nat,(j:Int)=(if (if (4:Int)<ns.length then (4:Int) else ns.length) > 1 then (if (4:Int)<ns.length then (4:Int) else ns.length) else 1)/\j<=1000:=by refine ⟨(if (if (4:Int)<ns.length then (4:Int) else ns.length) > 1 then (if (4:Int)<ns.length then (4:Int) else ns.length) else 1).toNat,?_,?_⟩ <;> split <;> split <;> lia
  refine ⟨j,h2,?_⟩;rw[h0,h1]
 obtain ⟨Z',⟨a1,a2,a3,a4,a5,a6,a7,a8,a9,rfl⟩,e⟩:=zc3 (u:=λi:Nat=>Dt.int i) (l:=List.range j) (g:=zb0 1) (body:=outer) (Z:=Z0)
  (I:=λ_ Z=>∃ a1 a2 a3 a4 a5 a6 a7 a8 a9,Z=[some (.val (.scr ns)),a1,a2,a3,a4,a5,a6,a7,a8,a9]) (zqf ej hj) rfl ⟨none,none,none,none,none,none,none,none,none,rfl⟩
  (λdn k zbz _ Z ⟨a1,a2,a3,a4,a5,a6,a7,a8,a9,hρ⟩=>by subst hρ;obtain ⟨b2,b3,b4,b5,b6,b7,b8,b9,e⟩:=zoF (ns:=ns) (k:=k) (o2:=a2) (o3:=a3) (o4:=a4) (o5:=a5) (o6:=a6) (o7:=a7) (o8:=a8) (o9:=a9);exact ⟨[some (.val (.scr ns)),some (.val (.int k)),a2,a3,a4,a5,a6,a7,a8,a9],_,rfl,e,_,_,_,_,_,_,_,_,_,rfl⟩)
 refine zal (Z':=[some (.val (.scr ns)),a1,a2,a3,a4,a5,a6,a7,a8,a9]) rfl ?_ rfl;show zuF Z0=_;rw[zvo,zag e];rfl
end LQ
end
section
namespace Lw
open PySem PySem.Spec L2 PV
section
variable{K:W.Frag}{h:Heap}{mg:Str->Option Value}(X:K.In h)(G:h.Ns mainGlobals mg)
include X G in
theorem fe{x:String}{i:Nat}{f:Addr}{od an:Option Addr}{sl:Array (Option Value)}{oc kV dc pm cd ct:Value}(a:W.nsIn K mainGlobals (Str.ofString x)=some (some (.ref f)))(l:K.lookup f=some ⟨oc,od,.func (W.fnOf (Str.ofString x) (Str.ofString x) (zfH (top i)) (zem (top i)) (zan (top i)) .none kV dc pm an cd ct),sl⟩)(c:W.codeIn K cd (Str.ofString x)=true)(k:W.keepIn K (.ref f)=true):Uf K mg x i:=⟨_,_,ztB (st:=top i) l c k,W.mg_of X G a⟩
include X G in
theorem ct{x:Str}{i:Int}{t:Tok}(m:W.nsIn K mainGlobals x=some (some (.int i t))):∃ t,mg x=some (.int i t):=⟨_,W.mg_of X G m⟩
include X G in
theorem fin{l:W.OpenLaw}{w:World}{fa g:Addr}(hfa:mg "law"=some (.ref fa)){oe ao:Option Addr}{sm:Array (Option Value)}{o2 k2 d2 p2 cM c2:Value}(T:Tx K mg)
  (b:W.nsIn K mainGlobals (Str.ofString "law")=some (some (.ref g))) (lb:K.lookup g=some ⟨o2,oe,.func (W.fnOf (Str.ofString "law") (Str.ofString "law") (zfH (top 48)) (zem (top 48)) (zan (top 48)) .none k2 d2 p2 ao cM c2),sm⟩) (cb:W.codeIn K cM (Str.ofString "law")=true) (kb:W.keepIn K (.ref g)=true) :
  ∃ fd:FuncData,(∀(s:Shared)(v:Value),BindsTo s fd ⟨[v],[]⟩ [("script",v)])/\∀ base:Heap,K.In base->base.Ns mainGlobals mg->zgu l.prog w K mg base CX0 108 fa fd ["script"] (zqn false K (λ_=>.none) [false] zo7):=by
 have e:=hfa.symm.trans (W.mg_of X G b);cases e;exact ⟨W.fnOf "law" "law" (zfH (top 48)) (zem (top 48)) (zan (top 48)) .none k2 d2 p2 ao cM c2,λs v=>.of_eq rfl,λbase _ _=>zxX T (ztB (st:=top 48) lb cb kb)⟩
end
theorem zvH{K:W.Frag}{H:Hp}{a:Addr}{ns:List Int}(hS:SqL K H a (ns.map V.int)):zqn false K (λ_=>.none) [false] zo7 [.ref a] H (λv _=>v=.bl true) λ_ _ _=>False:=by
 refine ⟨H,λ_=>none,[.val (.scr ns)],rfl,rfl,⟨zdN.refl _,λb e=>absurd rfl e,λb e=>absurd rfl e,rfl,λj b v e1 e2=>?_⟩,?_⟩
 ·cases j with
  |zero=>simp at e1 e2;subst e1;subst e2;show Rep K H (.scr ns) (.ref a);unfold Rep;exact ⟨a,rfl,hS⟩
  |succ j=>simp at e1
 ·rw[LQ.law_true ns];intro v G1 H1 w1 _ _ q;exact zfg (K:=K) (G:=G1) q
theorem walk{l:W.OpenLaw}{q:Program}{loose:List Str}{XP:(Str->Option Value)->Heap->Prop}{YP:World->Heap->Prop}{d:DefRec}{K:Params->W.Frag}(hn:l.most=some 63)(hdf:d.params.defaults=[])
  (hY:∀(w:World)(h:Heap),YP w h->(K w.params).In h)
  (F:∀(w:World)(mg:Str->Option Value)(fa:Addr)(h:Heap),(K w.params).In h->h.Ns mainGlobals mg->mg d.name=some (.ref fa) ->
   ∃ fd:FuncData,(∀(s:Shared)(u:Value),BindsTo s fd ⟨[u],[]⟩ [("script",u)])/\∀ base:Heap,(K w.params).In base->base.Ns mainGlobals mg->zgu l.prog w (K w.params) mg base CX0 108 fa fd ["script"] (zqn false (K w.params) (λ_=>.none) [false] zo7)) :
  W.WalkO q loose XP YP l.row.toRowW d [] (λf vs=>PySem.call f vs) :=
 L2.walk_of (n:=63) (k:=108) (x:="script") (CX:=λ_=>CX0) (sp:=λw=>zqn false (K w.params) (λ_=>.none) [false] zo7) hn xwd hdf ⟨rfl,xwd,xwd⟩ hY F (λ_ _ _ _ _ _ hS=>zvH hS) λ_ _ _ _ _ z=>z
end Lw
def PySem.W.Fast.tw6857358281628662639:=0
def PySem.W.Fast.tw1475988309949172193:=0
def PySem.W.Fast.tw4120690736590443242:=0
def PySem.W.Fast.tw8015216524036231368:=0
def PySem.W.Fast.tw9260586715765468733:=0
def PySem.W.Fast.tw17230066841420887644:=0
def PySem.W.Fast.tw14766240256231215330:=0
def PySem.W.Fast.tw13696435098533186586:=0
def PySem.W.Fast.tw12522253098028473684:=0
def PySem.W.Fast.tw12901471376026331178:=0
def PySem.W.Fast.tw2054923128834713675:=0
def PySem.W.Fast.tw9697429789353456756:=0
def PySem.W.Fast.tw2110890964288698585:=0
def PySem.W.Fast.tw10400756997014204835:=0
def PySem.W.Fast.tw11313570277303262064:=0
def PySem.W.Fast.tw7331045493280428123:=0
def PySem.W.Fast.tw6488199783702542888:=0
def PySem.W.Fast.tw3116500271697047507:=0
def PySem.W.Fast.tw11556475568602393597:=0
def PySem.W.Fast.tw1237554715720900287:=0
def PySem.W.Fast.tw6789807377003506522:=0
def PySem.W.Fast.tw15595604511655123930:=0
def PySem.W.Fast.tw16138165768711970694:=0
def PySem.W.Fast.tw9536933814596235842:=0
def PySem.W.Fast.tw2096752376315749119:=0
def PySem.W.Fast.tw1651815440966244074:=0
def PySem.W.Fast.tw17741788571149511644:=0
def PySem.W.Fast.tw9126994971299740933:=0
def PySem.W.Fast.tw17869668407572083284:=0
def PySem.W.Fast.tw2837393590007273991:=0
def PySem.W.Fast.tw1452968141409986108:=0
def PySem.W.Fast.tw11525763030621521986:=0
def PySem.W.Fast.tw16080477197778350845:=0
def PySem.W.Fast.tw5620859651956521166:=0
def PySem.W.Fast.tw2188816911519243431:=0
def PySem.W.Fast.tw5456469547810534997:=0
def PySem.W.Fast.tw9537377056189960070:=0
def PySem.W.Fast.tw18251558943632768092:=0
def PySem.W.Fast.tw12867653184525122335:=0
def PySem.W.Fast.tw2117575500685749897:=0
def PySem.W.Fast.tw2537710993799353998:=0
def PySem.W.Fast.tw5020087985012892538:=0
def PySem.W.Fast.tw16341580418965256281:=0
def PySem.W.Fast.tw16372072381593706228:=0
def PySem.W.Fast.tw15532213051632912603:=0
def PySem.W.Fast.tw13908273538879280442:=0
def PySem.W.Fast.tw797373377472979871:=0
def PySem.W.Fast.tw16173213705857027044:=0
def PySem.W.Fast.tw17765276795603936256:=0
def PySem.W.Fast.tw3634086357847690200:=0
def PySem.W.Fast.tw15277733211894905329:=0
open PySem PySem.W PyProof.Rows
set_option maxRecDepth 100000 in
set_option maxHeartbeats 0 in
theorem PySem.Challenge.cw_standtogether_k08_trees_tightened_holds : PySem.Challenge.rw_standtogether_k08_trees_tightened.Holds := by
  w_on; o_law; k_head; (case hw => w_witness2)
  k_fill
  refine Lw.walk (l := PySem.Challenge.rw_standtogether_k08_trees_tightened) rfl rfl (fun w h Y => PySem.W.kIn_of Y) ?F
  case F =>
    intro w mg fa h KX G hmg
    refine' Lw.fin KX G hmg ⟨Lw.fe KX G ?_ ?_ ?_ ?_,Lw.fe KX G ?_ ?_ ?_ ?_,Lw.fe KX G ?_ ?_ ?_ ?_,Lw.fe KX G ?_ ?_ ?_ ?_,Lw.fe KX G ?_ ?_ ?_ ?_,Lw.fe KX G ?_ ?_ ?_ ?_,Lw.fe KX G ?_ ?_ ?_ ?_,Lw.fe KX G ?_ ?_ ?_ ?_,
     Lw.fe KX G ?_ ?_ ?_ ?_,Lw.fe KX G ?_ ?_ ?_ ?_,Lw.fe KX G ?_ ?_ ?_ ?_,Lw.fe KX G ?_ ?_ ?_ ?_,Lw.fe KX G ?_ ?_ ?_ ?_,Lw.fe KX G ?_ ?_ ?_ ?_,Lw.fe KX G ?_ ?_ ?_ ?_,Lw.fe KX G ?_ ?_ ?_ ?_,
     Lw.fe KX G ?_ ?_ ?_ ?_,Lw.fe KX G ?_ ?_ ?_ ?_,Lw.fe KX G ?_ ?_ ?_ ?_,Lw.fe KX G ?_ ?_ ?_ ?_,Lw.fe KX G ?_ ?_ ?_ ?_,Lw.fe KX G ?_ ?_ ?_ ?_,Lw.fe KX G ?_ ?_ ?_ ?_,Lw.fe KX G ?_ ?_ ?_ ?_,
     Lw.fe KX G ?_ ?_ ?_ ?_,Lw.fe KX G ?_ ?_ ?_ ?_,Lw.fe KX G ?_ ?_ ?_ ?_,Lw.fe KX G ?_ ?_ ?_ ?_,Lw.fe KX G ?_ ?_ ?_ ?_,Lw.fe KX G ?_ ?_ ?_ ?_,Lw.fe KX G ?_ ?_ ?_ ?_,Lw.fe KX G ?_ ?_ ?_ ?_,
     Lw.fe KX G ?_ ?_ ?_ ?_,Lw.fe KX G ?_ ?_ ?_ ?_,Lw.fe KX G ?_ ?_ ?_ ?_,Lw.fe KX G ?_ ?_ ?_ ?_,Lw.fe KX G ?_ ?_ ?_ ?_,Lw.fe KX G ?_ ?_ ?_ ?_,PySem.W.mg_none_of KX G ?_,PySem.W.mg_none_of KX G ?_,
     PySem.W.mg_none_of KX G ?_,PySem.W.mg_none_of KX G ?_,PySem.W.mg_none_of KX G ?_,PySem.W.mg_none_of KX G ?_,PySem.W.mg_none_of KX G ?_,PySem.W.mg_none_of KX G ?_,PySem.W.mg_none_of KX G ?_,PySem.W.mg_none_of KX G ?_,
     PySem.W.mg_none_of KX G ?_,PySem.W.mg_none_of KX G ?_,PySem.W.mg_none_of KX G ?_,PySem.W.mg_none_of KX G ?_,PySem.W.mg_none_of KX G ?_,Lw.ct KX G ?_,Lw.ct KX G ?_,Lw.ct KX G ?_,
     Lw.ct KX G ?_⟩ ?_ ?_ ?_ ?_
    all_goals try first | k_is | kernel_rfl
end
