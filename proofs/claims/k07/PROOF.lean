import PyProof.Rows.All
import Wide.All
import OpenK.AllK
import Wide.FinOn
import Lean
import PyProof.EqAt
import PyProof.EqKinds
import PyProof.TupleCall
import PySem.Challenge.RW_standtogether_k07_whole_trees_tell_rows
set_option Elab.async false
set_option linter.all false
set_option maxRecDepth 100000
set_option maxHeartbeats 4000000
section
open PySem PySem.Spec PyProof.Rows
theorem xwo{p:Prop}(h:p:=by omega):p:=h
theorem xwl{p:Prop}(h:p:=by lia):p:=h
theorem xws{p:Prop}(h:p:=by simp):p:=h
theorem xwk{p:Prop}(h:p:=by kernel_rfl):p:=h
theorem xwd{p:Prop}(h:p:=by decide):p:=h
theorem xwD{p:Prop}(h:p:=by decide +kernel):p:=h
theorem xwO{p:Prop}(h:p:=by first|exact Or.inl rfl|exact Or.inr rfl):p:=h
theorem xwV{p:Prop}(h:p:=by first|exact Or.inl rfl|exact Or.inr (Or.inl rfl)|exact Or.inr (Or.inr rfl)):p:=h
theorem xwA{p:Prop}(h:p:=by first|exact .inl rfl|exact .inr rfl|assumption):p:=h
theorem xwN{i:Nat}{l:List Nat}(h:l.contains i=false):i∉l:=λm=>by rw[List.contains_iff_mem.mpr m] at h;cases h
def waa:=@Heap.get?_push_of_some
def wab:=@wpAny_bind
def wac:=@List.getElem?_eq_getElem
def wad:=@wpAny_pure
def wae:=@Bool.and_eq_true
def waf:=@List.size_toArray
def wag:=@List.length_map
def wah:=@List.mem_cons_of_mem
def wai:=@Heap.lt_size
def waj:=@Heap.get?_push_size
def wak:=@List.not_mem_nil
def wal:=@Nat.le_refl
def wam:=@List.getElem?_eq_some_iff
def wan:=@List.length_cons
def wap:=@List.mem_cons
def war:=@decide_eq_true_eq
def was:=@Nat.lt_of_lt_of_le
def wat:=@decide_eq_true
def wau:=@List.mem_cons_self
def wav:=@List.length_append
def waw:=@decide_eq_false
def wax:=@List.mem_append
def way:=@List.getElem?_set_self
def waz:=@List.mem_append_right
def waA:=@Option.some.inj
def waC:=@wpS_bind
def waD:=@wpS_pure
def waH:=@List.mem_of_getElem?
def waI:=@List.exists_cons_of_ne_nil
def waL:=@Nat.lt_irrefl
def waM:=@Nat.ne_of_lt
def waN:=@Nat.le_trans
def waO:=@False.elim
def waQ:=@List.of_mem_zip
def waR:=@List.mem_append_left
def waT:=@Nat.le_add_right
end
section
namespace L2
open PySem PySem.Spec PyProof.Rows
abbrev Key:=Sum Int Str
def zmW:Key->Value->Bool
 |.inl k,v=>Value.isInt k v
 |.inr x,v=>Value.isStrOf x v
def keyH(w:World):Key->Int
 |.inl k=>hashInt k
 |.inr x=>hashStr w x
theorem zaY:∀{k:Key}{v:Value},zmW k v=true->(∃ i t,k=Sum.inl i/\v=Value.int i t)\/(∃ x t,k=Sum.inr x/\v=Value.str x t)
 |.inl i,v,h=>by obtain ⟨t,e⟩:=Value.isInt_shape (k:=i) (v:=v) h;exact .inl ⟨i,t,rfl,e⟩
 |.inr x,v,h=>by obtain ⟨t,e⟩:=Value.isStrOf_shape (x:=x) (v:=v) h;exact .inr ⟨x,t,rfl,e⟩
theorem zn7(i:Int)(t:Tok):zmW (.inl i) (.int i t)=true:=by simp[zmW,Value.isInt]
theorem zoT(x:Str)(t:Tok):zmW (.inr x) (.str x t)=true:=by simp[zmW,Value.isStrOf]
theorem zvg(a b:Int):decide ((Sum.inl a:Key)=Sum.inl b)=(a == b):=by
 by_cases e:a=b
 ·subst e;simp
 ·have h:¬ (Sum.inl a:Key)=Sum.inl b:=λq=>e (Sum.inl.inj q);rw[decide_eq_false h];exact (beq_eq_false_iff_ne.mpr e).symm
theorem zvj(a b:Str):decide ((Sum.inr a:Key)=Sum.inr b)=decide (a=b):=by
 by_cases e:a=b
 ·subst e;simp
 ·have h:¬ (Sum.inr a:Key)=Sum.inr b:=λq=>e (Sum.inr.inj q);rw[decide_eq_false h,decide_eq_false e]
theorem zwd(a:Int)(b:Str):decide ((Sum.inl a:Key)=Sum.inr b)=false:=waw (λq=>nomatch q)
theorem zvi(a:Str)(b:Int):decide ((Sum.inr a:Key)=Sum.inl b)=false:=waw (λq=>nomatch q)
def zf1(prog:Program)(w:World):PySem.KeyKind prog w Key where
 is:=zmW
 hash:=keyH w
 inj:=λv a b ha hb=>by
  rcases zaY ha with ⟨i,t,rfl,rfl⟩|⟨x,t,rfl,rfl⟩
  ·rcases zaY hb with ⟨j,u,rfl,e⟩|⟨y,u,rfl,e⟩
   ·injection e with e1 _;rw[e1]
   ·exact nomatch e
  ·rcases zaY hb with ⟨j,u,rfl,e⟩|⟨y,u,rfl,e⟩
   ·exact nomatch e
   ·injection e with e1 _;rw[e1]
 byValue:=λk v h=>by rcases zaY h with ⟨i,t,rfl,rfl⟩|⟨x,t,rfl,rfl⟩ <;> rfl
 pyHash:=λhv h=>by
  rcases zaY hv with ⟨i,t,rfl,rfl⟩|⟨x,t,rfl,rfl⟩
  ·exact wpAny_pyHash_int h
  ·exact wpAny_pyHash_str h
 eqBool:=λhu hv h=>by
  rcases zaY hu with ⟨i,t,rfl,rfl⟩|⟨x,t,rfl,rfl⟩
  ·rcases zaY hv with ⟨j,u,rfl,rfl⟩|⟨y,u,rfl,rfl⟩
   ·rw[zvg] at h;exact wpAny_eqBool_int h
   ·rw[zwd] at h;exact SeqAt.EqAt.int_str i t y u _ _ _ _ h
  ·rcases zaY hv with ⟨j,u,rfl,rfl⟩|⟨y,u,rfl,rfl⟩
   ·rw[zvi] at h;exact SeqAt.EqAt.str_int x t j u _ _ _ _ h
   ·rw[zvj] at h;exact wpAny_eqBool_str h
 «strs» := λk x t v h=>by
  rcases zaY h with ⟨i,u,rfl,e⟩|⟨y,u,rfl,e⟩
  ·exact nomatch e
  ·injection e with e1 _;subst e1;cases v <;> rfl
theorem zkG(prog:Program)(w:World)(i:Int)(t:Tok):(zf1 prog w).is (.inl i) (.int i t)=true:=zn7 i t
theorem zli(prog:Program)(w:World)(x:Str)(t:Tok):(zf1 prog w).is (.inr x) (.str x t)=true:=zoT x t
end L2
namespace L2
open PySem PySem.Spec PyProof.Rows
inductive V where
 |non|bl (b:Bool)|int (i:Int)|str (x:Str)|byt (b:Array UInt8)|flt (b:UInt64)|ref (a:Addr)|ty (n:String)
 deriving DecidableEq
def zby:V->Value->Prop
 |.non,u=>u=Value.none
 |.bl b,u=>u=Value.bool b
 |.int i,u=>∃ t,u=Value.int i t
 |.str x,u=>∃ t,u=Value.str x t
 |.byt b,u=>∃ t,u=Value.bytes b t
 |.flt b,u=>∃ t,u=Value.float b t
 |.ref a,u=>u=Value.ref a
 |.ty n,u=>u=Value.type n
abbrev zaR:List V->List Value->Prop:=Paired zby
theorem zaR.length{xs:List V}{us:List Value}(r:zaR xs us):xs.length=us.length:=Paired.length r
theorem zaR.get:∀{xs:List V}{us:List Value}{i:Nat}{x:V},zaR xs us->xs[i]? = some x->∃ u,us[i]? = some u/\zby x u
 |_,_,_,_,.nil,e=>by simp at e
 |_,_,0,_,.cons r _,e=>by simp at e;subst e;exact ⟨_,rfl,r⟩
 |_,_,i+1,x,.cons _ t,e=>by obtain ⟨u,h1,h2⟩:=zaR.get (i:=i) (x:=x) t (by simpa using e);exact ⟨u,by simpa using h1,h2⟩
theorem zaR.set{x:V}{u:Value}(r:zby x u):∀{xs:List V}{us:List Value}(i:Nat),zaR xs us->zaR (xs.set i x) (us.set i u)
 |_,_,_,.nil=>.nil
 |_,_,0,.cons _ t=>.cons r t
 |_,_,i+1,.cons q t=>.cons q (zaR.set r i t)
theorem zaR.append:∀{xs ys:List V}{us ws:List Value},zaR xs us->zaR ys ws->zaR (xs++ys) (us++ws)
 |_,_,_,_,.nil,s=>s
 |_,_,_,_,.cons r t,s=>.cons r (zaR.append t s)
theorem zaR.take:∀{xs:List V}{us:List Value}(n:Nat),zaR xs us->zaR (xs.take n) (us.take n)
 |_,_,0,_=>.nil
 |_,_,_+1,.nil=>.nil
 |_,_,n+1,.cons r t=>.cons r (zaR.take n t)
theorem zaR.drop:∀{xs:List V}{us:List Value}(n:Nat),zaR xs us->zaR (xs.drop n) (us.drop n)
 |_,_,0,r=>r
 |_,_,_+1,.nil=>.nil
 |_,_,n+1,.cons _ t=>zaR.drop n t
def zrH:Option V->Option Value->Prop
 |some v,some u=>zby v u
 |none,none=>True
 |_,_=>False
def KV{κ:Type}:List (κ×V)->List (κ×Value)->Prop:=Paired λ(p:κ×V) (q:κ×Value)=>p.1=q.1/\zby p.2 q.2
def kV:Key->V
 |.inl i=>.int i
 |.inr x=>.str x
inductive HO where
  |lst (xs:List V)
  |tup (xs:List V)
  |dK (kvs:List (Key×V))|dT (kvs:List (List Key×V))
  |set (S:Int->Bool) (n:Nat)
  |ins (C dx:Addr) (fs:List (Str×V))
  |own (x:Addr)
  |xd (fs:List (Str×V))
  |met (f x:Addr)
  |rng (lo hi:Int)
  |frz (o:Obj) (u:HO)
  |tbl (ps:Array Value)
  |ext (φ : Heap->Prop)
abbrev Hp:=Addr->Option HO
def upd(H:Hp)(a:Addr)(o:HO):Hp:=λb=>if b=a then some o else H b
theorem za1{H:Hp}{a:Addr}{o:HO}:upd H a o a=some o:=by unfold upd;rw[if_pos rfl]
theorem zar{H:Hp}{a b:Addr}{o:HO}(h:b≠a):upd H a o b=H b:=by unfold upd;rw[if_neg h]
theorem zaq{H:Hp}{a b:Addr}{o:HO}(h:H a=some o)(h':H b=none):a≠b:=by intro e;subst e;rw[h] at h';cases h'
section
variable(P:Program)(w:World)
def zcE(H:Hp)(h:Heap)(a:Addr):HO->Prop
 |.lst xs=>xs.length<=sizeLine/\∃(its:List Value)(n:Nat),zaR xs its/\h.get? a=some { cls:=.type "list",data:=.seq its.toArray n }
 |.tup xs=>xs.length<=sizeLine/\∃ its:List Value,zaR xs its/\∃ n,h.get? a=some { cls:=.type "tuple",data:=.seq its.toArray n }
 |.dK kvs=>kvs.length<=sizeLine/\(a == sysModules)=false/\∃ vs,KV kvs vs/\h.DictOf (zf1 P w) a vs
 |.dT kvs=>kvs.length<=sizeLine/\(a == sysModules)=false/\∃ xs:List (List Key×Addr×Value),
   Paired (λ(p:List Key×V) (q:List Key×Addr×Value)=>p.1=q.1/\H q.2.1=some (.tup (p.1.map kV))/\zby p.2 q.2.2) kvs xs /\
   ∃ o es ep,h.get? a=some o/\o.ExactDict/\o.data=.dict es ep/\es.toList=xs.map (entryOfKey (tupleKind (zf1 P w)))/\(xs.map (·.1)).Nodup
 |.set S n=>h.SetOf (intKind P w) a S n
 |.ins C dx fs=>H dx=some (.own a)/\fs.length<=1000/\dx≠a/\h.get? a=some (W.instObj C dx) /\
   ∃ mA,h.Ns1 dx mA/\(∀ f,zrH (fs.lookup f) (mA f))/\PySem.Within mA (fs.map (·.1))
 |.own _=>∃ o,h.get? a=some o
 |.xd fs=>∃ mA,h.Ns1 a mA/\∀ f,zrH (fs.lookup f) (mA f)
 |.rng lo hi=>∃ t u v,h.get? a=some { cls:=.type "range",data:=.fields #[.int lo t,.int hi u,.int 1 v] }
 |.frz o u=>h.get? a=some o/\zcE H h a u
 |.tbl ps=>h.get? a=some { cls:=.none,data:=.fields ps }
 |.met f x=>h.get? a=some (W.methodObj (.ref f) (.ref x))
 |.ext φ => φ h/\(∃ o,h.get? a=some o)/\∀ h1 h2:Heap,φ h1->(∀ o,h1.get? a=some o->h2.get? a=some o)->φ h2
def HOk(H:Hp)(h:Heap):Prop:=∀ a o,H a=some o->zcE P w H h a o
end
section
variable{P:Program}{w:World}{H H':Hp}{h h':Heap}{a:Addr}{o:HO}
theorem zcE.lt(x:zcE P w H h a o):a<h.objs.size:=by
 cases o with
 |lst xs=>obtain ⟨_,_,_,_,e⟩:=x;exact wai e
 |tup xs=>obtain ⟨_,_,_,_,e⟩:=x;exact wai e
 |dK kvs=>obtain ⟨_,_,_,_,o,_,_,e,_⟩:=x;exact wai e
 |dT kvs=>obtain ⟨_,_,_,_,o,_,_,e,_⟩:=x;exact wai e
 |set S n=>obtain ⟨o,_,_,_,e,_⟩:=x;exact wai e
 |ins C dx fs=>obtain ⟨_,_,_,e,_⟩:=x;exact wai e
 |own y=>obtain ⟨_,e⟩:=x;exact wai e
 |xd fs=>obtain ⟨_,⟨_,_,_,e,_⟩,_⟩:=x;exact wai e
 |rng lo hi=>obtain ⟨_,_,_,e⟩:=x;exact wai e
 |frz ob u=>obtain ⟨e,_⟩:=x;exact wai e
 |tbl ps=>exact wai (show h.get? a=some _ from x)
 |met f y=>exact wai (show h.get? a=some _ from x)
 |ext φ => obtain ⟨_,⟨_,e⟩,_⟩:=x;exact wai e
theorem Paired.mapP{α β:Type}{F G:α->β->Prop}:∀{l₁:List α}{l₂:List β},Paired F l₁ l₂->(∀ a b,F a b->G a b)->Paired G l₁ l₂
 |_,_,.nil,_=>.nil
 |_,_,.cons r t,f=>.cons (f _ _ r) (Paired.mapP t f)
theorem zcE.stay(x:zcE P w H h a o)(k:∀ b u,(b=a\/H b=some (.own a))->h.get? b=some u->h'.get? b=some u)
  (ho:∀ b,H b=some (.own a)->H' b=some (.own a)) (ht:∀ b xs,H b=some (.tup xs)->H' b=some (.tup xs)):zcE P w H' h' a o:=by
 induction o with
 |lst xs=>obtain ⟨z,its,n,r,e⟩:=x;exact ⟨z,its,n,r,k _ _ (.inl rfl) e⟩
 |tup xs=>obtain ⟨z,its,r,n,e⟩:=x;exact ⟨z,its,r,n,k _ _ (.inl rfl) e⟩
 |dK kvs=>obtain ⟨z,y,vs,r,ob,es,ep,e,c⟩:=x;exact ⟨z,y,vs,r,ob,es,ep,k _ _ (.inl rfl) e,c⟩
 |dT kvs =>
  obtain ⟨z,y,xs,r,ob,es,ep,e,c⟩:=x;exact ⟨z,y,xs,Paired.mapP r λp q z=>⟨z.1,ht _ _ z.2.1,z.2.2⟩,ob,es,ep,k _ _ (.inl rfl) e,c⟩
 |set S n=>obtain ⟨ob,es,ep,t,e,c⟩:=x;exact ⟨ob,es,ep,t,k _ _ (.inl rfl) e,c⟩
 |ins C dx fs =>
  obtain ⟨d,z,ne,e,mA,⟨od,es,ep,e2,c⟩,r⟩:=x;exact ⟨ho _ d,z,ne,k _ _ (.inl rfl) e,mA,⟨od,es,ep,k _ _ (.inr d) e2,c⟩,r⟩
 |own y=>obtain ⟨ob,e⟩:=x;exact ⟨ob,k _ _ (.inl rfl) e⟩
 |xd fs=>obtain ⟨mA,⟨od,es,ep,e,c⟩,r⟩:=x;exact ⟨mA,⟨od,es,ep,k _ _ (.inl rfl) e,c⟩,r⟩
 |rng lo hi=>obtain ⟨t,u,v,e⟩:=x;exact ⟨t,u,v,k _ _ (.inl rfl) e⟩
 |frz ob u ih=>obtain ⟨e,q⟩:=x;exact ⟨k _ _ (.inl rfl) e,ih q⟩
 |tbl ps =>
  have e:h.get? a=some { cls:=.none,data:=.fields ps }:=x;show h'.get? a=some { cls:=.none,data:=.fields ps };exact k a _ (.inl rfl) e
 |met f y =>
  have e:h.get? a=some (W.methodObj (.ref f) (.ref y)):=x;show h'.get? a=some (W.methodObj (.ref f) (.ref y));exact k a _ (.inl rfl) e
 |ext φ => obtain ⟨p,⟨o,e⟩,st⟩:=x;exact ⟨st _ _ p λo q=>k _ _ (.inl rfl) q,⟨o,k _ _ (.inl rfl) e⟩,st⟩
theorem HOk.lt(x:HOk P w H h)(e:H a=some o):a<h.objs.size:=(x a o e).lt
theorem HOk.fresh(x:HOk P w H h)(e:h.objs.size<=a):H a=none:=by
 cases q:H a with
 |none=>rfl
 |some u=>exact absurd (was (x.lt q) e) (waL _)
theorem HOk.kept(x:HOk P w H h)(k:∀ b u,h.get? b=some u->h'.get? b=some u):HOk P w H h':=λa o e =>
 (x a o e).stay (λb u _ q=>k b u q) (λ_ q=>q) λ_ _ q=>q
theorem HOk.laid(x:HOk P w H h)(k:∀ b u,h.get? b=some u->h'.get? b=some u)(hp:h.objs.size<=a)(new:zcE P w (upd H a o) h' a o):HOk P w (upd H a o) h':=λb u e=>by
 have hn:=x.fresh hp;by_cases hb:b=a
 ·subst hb;rw[za1] at e;cases e;exact new
 ·rw[zar hb] at e;exact (x b u e).stay (λc v _ q=>k c v q) (λc q=>by rw[zar (zaq q hn)];exact q) λc xs q=>by rw[zar (zaq q hn)];exact q
end
def Rd(H:Hp)(a:Addr)(u:HO):Prop:=H a=some u\/∃ o,H a=some (.frz o u)
theorem Rd.of{H:Hp}{a:Addr}{u:HO}(h:H a=some u):Rd H a u:=.inl h
theorem Rd.ok{P:Program}{w:World}{H:Hp}{h:Heap}{a:Addr}{u:HO}(r:Rd H a u)(x:HOk P w H h):zcE P w H h a u:=by
 rcases r with r|⟨o,r⟩
 ·exact x a u r
 ·obtain ⟨_,q⟩:=x a _ r;exact q
def Mut:Option HO->Prop
 |some (.lst _)=>True
 |some (.dK _)=>True
 |some (.dT _)=>True
 |some (.set _ _)=>True
 |some (.ins _ _ _)=>True
 |some (.ext _)=>True
 |_=>False
section
variable{P:Program}{w:World}{H:Hp}{h h':Heap}{x e:Addr}{o':HO}
theorem HOk.write(ok:HOk P w H h)(mu:Mut (H x))(he:e=x\/H e=some (.own x))(k:∀ b u,b≠e->h.get? b=some u->h'.get? b=some u)(heo:∃ u,h'.get? e=some u)
  (new:zcE P w (upd H x o') h' x o'):HOk P w (upd H x o') h':=λb u q=>by
 have nown:∀ c y,H c=some (.own y)->c≠x:=λc y r z=>by subst z;rw[r] at mu;exact mu
 have ntup:∀ c xs,H c=some (.tup xs)->c≠x:=λc xs r z=>by subst z;rw[r] at mu;exact mu
 by_cases hb:b=x
 ·subst hb;rw[za1] at q;cases q;exact new
 ·rw[zar hb] at q;by_cases hbe:b=e
  ·have q':H b=some (.own x):=by
    rcases he with z|z
    ·exact absurd (hbe.trans z) hb
    ·rw[hbe];exact z
   rw[q] at q';cases q';obtain ⟨v,hv⟩:=heo;exact ⟨v,by rw[hbe];exact hv⟩
  ·refine (ok b u q).stay (λc v hc r=>k c v ?_ r) (λc r=>by rw[zar (nown c b r)];exact r) λc xs r=>by rw[zar (ntup c xs r)];exact r
   rcases hc with rfl|hc
   ·exact hbe
   ·rintro rfl;rcases he with z|z
    ·exact nown c b hc z
    ·rw[hc] at z;cases z;exact hb rfl
end
structure Un(fs ex:List Addr)(H H':Hp)(h h':Heap):Prop where
 keep:∀ b o,h.get? b=some o->H b=none->b∉fs->b∉ex->h'.get? b=some o
 slot:∀ b o,h.get? b=some o->H b=none->b∈fs->b∉ex->∃ sl,h'.get? b=some { o with slots:=sl }
 free:∀ b o,h.get? b=some o->H b=none->b∉ex->H' b=none
 there:∀ b o,h.get? b=some o->b∉ex->∃ o',h'.get? b=some o'
 tups:∀ b xs,H b=some (.tup xs)->H' b=some (.tup xs)
 frzs:∀ b o u,H b=some (.frz o u)->H' b=some (.frz o u)
 tbls:∀ b ps,H b=some (.tbl ps)->∃ more,H' b=some (.tbl (ps++more))
section
variable{fs fs' ex ex':List Addr}{H H1 H2:Hp}{h h1 h2 h':Heap}{a x e:Addr}{o:HO}
theorem Un.any(u:Un fs ex H H1 h h1){b:Addr}{ob:Obj}(q:h.get? b=some ob)(n:H b=none)(hx:b∉ex):∃ sl,h1.get? b=some { ob with slots:=sl }:=by
 by_cases hb:b∈fs
 ·exact u.slot b ob q n hb hx
 ·exact ⟨ob.slots,u.keep b ob q n hb hx⟩
theorem Un.trans(a:Un fs ex H H1 h h1)(b:Un fs ex H1 H2 h1 h2):Un fs ex H H2 h h2 where
 keep:=λc ob q n hc hx=>b.keep c ob (a.keep c ob q n hc hx) (a.free c ob q n hx) hc hx
 slot:=λc ob q n hc hx=>by obtain ⟨sl,e1⟩:=a.slot c ob q n hc hx;obtain ⟨sl',e2⟩:=b.slot c _ e1 (a.free c ob q n hx) hc hx;exact ⟨sl',e2⟩
 free:=λc ob q n hx=>by obtain ⟨o',e1⟩:=a.there c ob q hx;exact b.free c o' e1 (a.free c ob q n hx) hx
 there:=λc ob q hx=>by obtain ⟨o',e1⟩:=a.there c ob q hx;exact b.there c o' e1 hx
 tups:=λc xs q=>b.tups c xs (a.tups c xs q)
 frzs:=λc ob xs q=>b.frzs c ob xs (a.frzs c ob xs q)
 tbls:=λc ps q=>by obtain ⟨m1,e1⟩:=a.tbls c ps q;obtain ⟨m2,e2⟩:=b.tbls c _ e1;exact ⟨m1++m2,by rw[e2,Array.append_assoc]⟩
theorem Un.kept(k:∀ b u,h.get? b=some u->h'.get? b=some u):Un fs ex H H h h' :=
 ⟨λb ob q _ _ _=>k b ob q,λb ob q _ _ _=>⟨ob.slots,k b ob q⟩,λ_ _ _ n _=>n,λb ob q _=>⟨ob,k b ob q⟩,λ_ _ q=>q,λ_ _ _ q=>q,λ_ ps q=>⟨#[],by rw[q];simp⟩⟩
theorem Un.refl:Un fs ex H H h h:=Un.kept λ_ _ q=>q
theorem Un.laid(k:∀ b u,h.get? b=some u->h'.get? b=some u)(hp:h.objs.size<=a)(hn:H a=none):Un fs ex H (upd H a o) h h' where
 keep:=λb u q _ _ _=>k b u q
 slot:=λb u q _ _ _=>⟨u.slots,k b u q⟩
 free:=λb u q n _=>by rw[zar (Nat.ne_of_lt (Nat.lt_of_lt_of_le (Heap.lt_size q) hp))];exact n
 there:=λb u q _=>⟨u,k b u q⟩
 tups:=λb xs q=>by rw[zar (zaq q hn)];exact q
 frzs:=λb u xs q=>by rw[zar (zaq q hn)];exact q
 tbls:=λb ps q=>⟨#[],by rw[zar (zaq q hn),q];simp⟩
theorem Un.write(mu:Mut (H x))(he:e=x\/H e=some (.own x))(k:∀ b u,b≠e->h.get? b=some u->h'.get? b=some u)(heo:∃ u,h'.get? e=some u):Un fs ex H (upd H x o) h h':=by
 have hx:∀ b,H b=none->b≠x:=λb n z=>by subst z;rw[n] at mu;exact mu
 have hb:∀ b,H b=none->b≠e:=λb n z=>by
  subst z;rcases he with r|r
  ·exact hx b n r
  ·rw[n] at r;cases r
 have hm:∀ b u,H b=some u->¬ Mut (some u)->b≠x:=λb u q nm z=>by subst z;rw[q] at mu;exact nm mu
 refine ⟨λb u q n _ _=>k b u (hb b n) q,λb u q n _ _=>⟨u.slots,k b u (hb b n) q⟩,λb u q n _=>by rw[zar (hx b n)];exact n,λb u q _=>?_,
  λb xs q=>by rw[zar (hm b _ q λz=>z)];exact q,λb u xs q=>by rw[zar (hm b _ q λz=>z)];exact q,λb ps q=>⟨#[],by rw[zar (hm b _ q λz=>z),q];simp⟩⟩
 by_cases hbe:b=e
 ·subst hbe;exact heo
 ·exact ⟨u,k b u hbe q⟩
theorem Un.mono(u:Un fs ex H H1 h h1)(hs:∀ b∈fs,b∈fs')(hx:∀ b∈ex,b∈ex'):Un fs' ex' H H1 h h1 :=
 ⟨λb ob q n hb he=>u.keep b ob q n (λz=>hb (hs b z)) λz=>he (hx b z),λ_ _ q n _ he=>u.any q n λz=>he (hx _ z),λb ob q n he=>u.free b ob q n λz=>he (hx b z),λb ob q he=>u.there b ob q λz=>he (hx b z),u.tups,u.frzs,u.tbls⟩
end
def trk(h:Heap)(H:Hp):List Addr:=(List.range h.objs.size).filter λa=>(H a).isSome
def zpS(h:Heap)(H:Hp):Heap:=W.hideAll h (trk h H)
theorem zos(h:Heap)(H:Hp):(zpS h H).objs.size=h.objs.size:=W.hideAll_size _ _
theorem zqf{h:Heap}{H:Hp}{b:Addr}{o:Obj}(e:h.get? b=some o)(n:H b=none):(zpS h H).get? b=some o :=
 W.hideAll_get _ e λhm=>by have q:(H b).isSome=true:=(List.mem_filter.mp hm).2;rw[n] at q;simp at q
theorem zsS{h:Heap}{H:Hp}{b:Addr}{o:Obj}(e:(zpS h H).get? b=some o):h.get? b=some o/\H b=none:=by
 have e':h.get? b=some o:=W.of_hideAll (trk h H) e;refine ⟨e',?_⟩;cases q:H b with
 |none=>rfl
 |some x =>
  have hm:b∈trk h H:=List.mem_filter.mpr ⟨List.mem_range.mpr (wai e'),by simp[q]⟩;have z:(zpS h H).get? b=none:=W.hideAll_none (trk h H) hm;rw[z] at e;cases e
def zs8(g h:Heap)(L:Addr):List (Addr×Obj):=(List.range h.objs.size).filterMap λa=>if a=L\/(g.get? a).isSome=true then none else (h.get? a).map λo=>(a,o)
def zaX(g h:Heap)(L d:Addr):List (Addr×Obj):=(zs8 g h L).filter λp=>decide (p.1≠d)
end L2
namespace L2
open PySem PySem.Spec PyProof.Rows
structure Mod(K:W.Frag)(mg:Str->Option Value)(base:Heap):Prop where
 kin:K.In base
 glob:base.Ns mainGlobals mg
 blt:∃ mb,base.Ns builtinsNs mb/\∀ x:Str,x≠"__name__"->mb x=bootBuiltins x
 nolimit:base.NoLimit
structure Cx where
 prog:Program
 w:World
 K:W.Frag
 mg:Str->Option Value
 base:Heap
 A:Around
 N:List Str
 s₀:Shared
 H₀:Hp
 env:Env
 outer:List Env
 stack:List Env
 ex:List Addr
 fn:Str->Bool
 calm:Bool
 pn:List (Addr×Obj)
 xe:Value->Shared->Prop
def frs(l:List Env):List Addr:=l.filterMap (·.frame)
abbrev Cx.fs(X:Cx):List Addr:=frs X.outer
def Vis(sc:Scope)(x:Str):Prop:=sc.names.lookup x=some .local\/sc.names.lookup x=some .cell\/sc.names.lookup x=some .free
def Loc(sc:Scope)(x:Str):Prop:=sc.names.lookup x=some .local\/sc.names.lookup x=some .cell
def Look(env:Env)(h:Heap)(m:Str->Option Value)(x:Str)(u:Value):Prop :=
 (env.kindOf x=some .local/\m x=some u)\/((env.kindOf x=some .cell\/env.kindOf x=some .free)/\∃ c,env.cells.lookup x=some c/\h.IsCell c (some u))
structure Cx.Ok(X:Cx):Prop where
 mod:Mod X.K X.mg X.base
 kind:X.env.scope.kind=.function
 glob:X.env.globals=mainGlobals
 blt:X.env.builtins=builtinsNs
 above:X.s₀.heap.objs.size<=X.env.locals
 inj:∀ x y c,X.env.cells.lookup x=some c->X.env.cells.lookup y=some c->x=y
 has:∀ x,(X.env.kindOf x=some .cell\/X.env.kindOf x=some .free)->∃ c,X.env.cells.lookup x=some c
 cab:∀ x c,X.fn x=true->X.env.cells.lookup x=some c->X.s₀.heap.objs.size<=c
 hd:X.calm=true->X.A.handled=none
 frames:X.A.frames=some X.stack
 stk:X.stack=X.outer\/(X.stack=X.env::X.outer/\X.env.frame=some X.env.locals)
 exf:∀ b∈X.ex,b≠X.env.locals/\∀ x c,X.env.cells.lookup x=some c->c≠b
 bs:∀ b o,X.base.get? b=some o->X.s₀.heap.get? b=some o/\X.H₀ b=none
 bsz:X.base.objs.size<=X.s₀.heap.objs.size
 noex:∀ b o,X.base.get? b=some o->b∉X.ex
 exfs:∀ b∈X.ex,b∉X.fs
 funs:X.s₀.heap.FunFrames X.base X.outer
 frf:∀ b∈X.fs,X.H₀ b=none
structure Inv(X:Cx)(pS:List (Addr×Obj))(Y:List (Option V))(H:Hp)(s:Shared):Prop where
 ok:X.Ok
 os:s.os=X.s₀.os
 bare:AllBare s.gens
 base:Un X.fs X.ex X.H₀ H X.s₀.heap s.heap
 loc:∃ m,s.heap.Ns X.env.locals m/\∀(i:Nat)(x:Str)(v:V),X.N[i]? = some x->Y[i]? = some (some v)->Vis X.env.scope x->∃ u,zby v u/\Look X.env s.heap m x u
 cell:∀ x c,X.env.cells.lookup x=some c->∃ v,s.heap.IsCell c v
 free:H X.env.locals=none
 freeC:∀ x c,X.env.cells.lookup x=some c->H c=none
 pin:∀ p∈X.pn++pS,s.heap.get? p.1=some p.2/\H p.1=none/\p.1≠X.env.locals/\p.1∉X.fs/\∀ v,p.2.data≠.cell v
 hok:HOk X.prog X.w H s.heap
 len:Y.length=X.N.length
section
variable{X:Cx}{pS:List (Addr×Obj)}{Y:List (Option V)}{H H':Hp}{s:Shared}{h':Heap}
theorem Cx.Ok.nofr(ok:X.Ok){b:Addr}{o:Obj}(e:X.base.get? b=some o):b∉X.fs:=λhb=>by have:=(ok.funs.mem hb).1;rw[e] at this;cases this
theorem Inv.bs(I:Inv X pS Y H s):∀ b o,X.base.get? b=some o->s.heap.get? b=some o/\H b=none:=λb o e =>
 ⟨I.base.keep b o (I.ok.bs b o e).1 (I.ok.bs b o e).2 (I.ok.nofr e) (I.ok.noex b o e),I.base.free b o (I.ok.bs b o e).1 (I.ok.bs b o e).2 (I.ok.noex b o e)⟩
theorem Inv.bk(I:Inv X pS Y H s):∀ b o,X.base.get? b=some o->s.heap.get? b=some o:=λb o e=>(I.bs b o e).1
theorem Inv.mod(I:Inv X pS Y H s):Mod X.K X.mg X.base:=I.ok.mod
theorem Inv.kIn(I:Inv X pS Y H s):X.K.In s.heap:=I.ok.mod.kin.keeps I.bk
theorem Inv.nolimit(I:Inv X pS Y H s):s.heap.NoLimit:=I.ok.mod.nolimit.keeps I.bk
theorem Inv.fr(I:Inv X pS Y H s):∃ m,Fr X.base X.env.locals s.heap m :=
 let ⟨m,hn,_⟩:=I.loc
 ⟨m,hn,I.bk,waN I.ok.bsz I.ok.above⟩
theorem Inv.lt(I:Inv X pS Y H s):X.env.locals<s.heap.objs.size:=let ⟨_,hn,_⟩:=I.loc;hn.lt
theorem Inv.sz(I:Inv X pS Y H s):X.s₀.heap.objs.size<=s.heap.objs.size:=waN I.ok.above (Nat.le_of_lt I.lt)
theorem Inv.nofs(I:Inv X pS Y H s){a:Addr}(h:s.heap.objs.size<=a):a∉X.fs:=λhb=>by obtain ⟨_,o,ho,_⟩:=I.ok.funs.mem hb;exact absurd (was (wai ho) (waN I.sz h)) (waL _)
theorem Inv.cne(I:Inv X pS Y H s):∀ x c,X.env.cells.lookup x=some c->c≠X.env.locals:=λx c e z=>by obtain ⟨v,o,ho,hd⟩:=I.cell x c e;obtain ⟨m,⟨o',es,ep,ho',hd',_⟩,_⟩:=I.loc;rw[z,ho'] at ho;cases ho;rw[hd'] at hd;cases hd
theorem Inv.funs(I:Inv X pS Y H s):s.heap.FunFrames X.base X.outer:=by
 have all:∀(l:List Env),(∀ b∈frs l,b∈X.fs)->X.s₀.heap.FunFrames X.base l->s.heap.FunFrames X.base l:=by
  intro l
  induction l with
  |nil=>intro _ _;trivial
  |cons env r ih =>
   intro hs hl;obtain ⟨hk,⟨L,o,hf,hn,ho,hd⟩,hr⟩:=hl;have hL:L∈X.fs:=hs L (by unfold frs;rw[List.filterMap_cons,hf];exact wau);obtain ⟨sl,e⟩:=I.base.slot L o ho (I.ok.frf L hL) hL λz=>I.ok.exfs L z hL;exact ⟨hk,⟨L,_,hf,hn,e,hd⟩,ih (λb hb=>hs b (by unfold frs;rw[List.filterMap_cons,hf];exact wah _ hb)) hr⟩
 exact all X.outer (λ_ hb=>hb) I.ok.funs
theorem Inv.stack(I:Inv X pS Y H s):s.heap.FunFrames X.base X.stack:=by
 rcases I.ok.stk with e|⟨e,hf⟩
 ·rw[e];exact I.funs
 ·rw[e];obtain ⟨m,hn,_⟩:=I.loc;refine .cons (by rw[I.ok.kind];decide) hf hn ?_ I.funs;exact Heap.get?_none_of_le (waN I.ok.bsz I.ok.above)
theorem Inv.stkSub(I:Inv X pS Y H s):∀ b∈frs X.stack,b∈X.env.locals::X.fs:=λb hb=>by
 rcases I.ok.stk with e|⟨e,hf⟩
 ·rw[e] at hb;exact wah _ hb
 ·rw[e] at hb;unfold frs at hb;rw[List.filterMap_cons,hf] at hb;exact hb
theorem Inv.stkFree(I:Inv X pS Y H s):∀ b∈frs X.stack,H b=none:=λb hb=>by
 rcases wap.mp (I.stkSub b hb) with e|hb
 ·rw[e];exact I.free
 ·obtain ⟨_,o,ho,_⟩:=I.ok.funs.mem hb;exact I.base.free b o ho (I.ok.frf b hb) λz=>I.ok.exfs b z hb
theorem Inv.step{g':Array GenState}{t':Nat}{d':Drawn}{ch:List Addr}(I:Inv X pS Y H s)
  (hch:∀ b∈ch,(b∈X.ex\/X.s₀.heap.objs.size<=b)/\b≠X.env.locals/\(∀ x c,X.env.cells.lookup x=some c->c≠b)/\∀ p∈X.pn++pS,p.1≠b)
  (keep:∀ b o,b≠X.env.locals->b∉X.fs->b∉ch->s.heap.get? b=some o->H b=none->h'.get? b=some o)
  (slot:∀ b o,b≠X.env.locals->b∈X.fs->b∉ch->s.heap.get? b=some o->H b=none->∃ sl,h'.get? b=some { o with slots:=sl }) (free:∀ b o,b∉ch->s.heap.get? b=some o->H b=none->H' b=none)
  (there:∀ b o,b∉ch->s.heap.get? b=some o->∃ o',h'.get? b=some o')
  (tups:∀ b xs,H b=some (.tup xs)->H' b=some (.tup xs)) (frzs:∀ b o u,H b=some (.frz o u)->H' b=some (.frz o u)) (tbls:∀ b ps,H b=some (.tbl ps)->∃ more,H' b=some (.tbl (ps++more)))
  (ns:∀ m,s.heap.Ns X.env.locals m->h'.Ns X.env.locals m) (hok:HOk X.prog X.w H' h') (hg:AllBare g') :
  Inv X pS Y H' { s with heap:=h',gens:=g',drawn:=d',toks:=t' }:=by
 have neL:∀ b o,X.s₀.heap.get? b=some o->b≠X.env.locals:=λb o e=>waM (was (wai e) I.ok.above);have neC:∀ b o,X.s₀.heap.get? b=some o->b∉X.ex->b∉ch:=λb o e hx hb=>by
  rcases (hch b hb).1 with z|z
  ·exact hx z
  ·exact absurd (was (wai e) z) (waL _)
 have cellK:∀ x c,X.env.cells.lookup x=some c->∀ v,s.heap.IsCell c v->h'.IsCell c v:=λx c e v ⟨o,ho,hd⟩=>by
  have nch:c∉ch:=λz=>(hch c z).2.2.1 x c e rfl;by_cases hc:c∈X.fs
  ·obtain ⟨sl,q⟩:=slot c o (I.cne x c e) hc nch ho (I.freeC x c e);exact ⟨_,q,hd⟩
  ·exact ⟨o,keep c o (I.cne x c e) hc nch ho (I.freeC x c e),hd⟩
 refine ⟨I.ok,I.os,hg,⟨λb o e n hb hx=>?_,λb o e n hb hx=>?_,λb o e n hx=>?_,λb o e hx=>?_,λb xs e=>tups b xs (I.base.tups b xs e),λb o xs e=>frzs b o xs (I.base.frzs b o xs e),λb ps e=>?_⟩,?_,λx c e=>?_,?_,λx c e=>?_,λp hp=>?_,hok,I.len⟩
 ·exact keep b o (neL b o e) hb (neC b o e hx) (I.base.keep b o e n hb hx) (I.base.free b o e n hx)
 ·obtain ⟨sl,e1⟩:=I.base.slot b o e n hb hx;obtain ⟨sl',e2⟩:=slot b _ (neL b o e) hb (neC b o e hx) e1 (I.base.free b o e n hx);exact ⟨sl',e2⟩
 ·obtain ⟨o',e1⟩:=I.base.there b o e hx;exact free b o' (neC b o e hx) e1 (I.base.free b o e n hx)
 ·obtain ⟨o',e1⟩:=I.base.there b o e hx;exact there b o' (neC b o e hx) e1
 ·obtain ⟨m1,e1⟩:=I.base.tbls b ps e;obtain ⟨m2,e2⟩:=tbls b _ e1;exact ⟨m1++m2,by rw[e2,Array.append_assoc]⟩
 ·obtain ⟨m,hn,hl⟩:=I.loc;refine ⟨m,ns m hn,λi x v e1 e2 e3=>?_⟩;obtain ⟨u,r,l⟩:=hl i x v e1 e2 e3;refine ⟨u,r,?_⟩;rcases l with l|⟨k,c,e,z⟩
  ·exact .inl l
  ·exact .inr ⟨k,c,e,cellK x c e _ z⟩
 ·obtain ⟨v,z⟩:=I.cell x c e;exact ⟨v,cellK x c e v z⟩
 ·obtain ⟨m,⟨o,_,_,ho,_⟩,_⟩:=I.loc;exact free _ o (λz=>(hch _ z).2.1 rfl) ho I.free
 ·obtain ⟨v,o,ho,hd⟩:=I.cell x c e;exact free c o (λz=>(hch c z).2.2.1 x c e rfl) ho (I.freeC x c e)
 ·obtain ⟨e,n,ne,nf,d⟩:=I.pin p hp;have nch:p.1∉ch:=λz=>(hch p.1 z).2.2.2 p hp rfl;exact ⟨keep p.1 p.2 ne nf nch e n,free p.1 p.2 nch e n,ne,nf,d⟩
theorem Inv.un{t':Nat}(I:Inv X pS Y H s)(u:Un X.fs [] H H' s.heap h')(hok:HOk X.prog X.w H' h'):Inv X pS Y H' { s with heap:=h',toks:=t' }:=by
 obtain ⟨m,⟨o,es,ep,ho,r⟩,_⟩:=id I.loc;obtain ⟨sl,hL⟩:=u.any ho I.free xws;exact I.step (g':=s.gens) (d':=s.drawn) (ch:=[]) (λ_ z=>nomatch z) (λb o _ hb _ e n=>u.keep b o e n hb xws) (λb o _ hb _ e n=>u.slot b o e n hb xws) (λb o _ e n=>u.free b o e n xws) (λb o _ e=>u.there b o e xws) u.tups u.frzs u.tbls (λm' hm=>by obtain ⟨o',es',ep',ho',r'⟩:=hm;rw[ho] at ho';cases ho';exact ⟨_,es',ep',hL,r'⟩) hok I.bare
theorem Inv.call{g':Array GenState}{t':Nat}{d':Drawn}{ch:List Addr}(I:Inv X pS Y H s)(u:Un (frs X.stack) ch H H' s.heap h')(hok:HOk X.prog X.w H' h')(hg:AllBare g')
  (hch:∀ b∈ch,(b∈X.ex\/X.s₀.heap.objs.size<=b)/\b≠X.env.locals/\(∀ x c,X.env.cells.lookup x=some c->c≠b)/\∀ p∈X.pn++pS,p.1≠b) :
  Inv X pS Y H' { s with heap:=h',gens:=g',drawn:=d',toks:=t' }:=by
 obtain ⟨m,⟨o,es,ep,ho,r⟩,_⟩:=id I.loc;obtain ⟨sl,hL⟩:=u.any ho I.free λz=>(hch _ z).2.1 rfl;exact I.step (ch:=ch) hch (λb o hL hb hc e n=>u.keep b o e n (λz=>(wap.mp (I.stkSub b z)).elim hL hb) hc) (λb o _ _ hc e n=>u.any e n hc) (λb o hc e n=>u.free b o e n hc) (λb o hc e=>u.there b o e hc) u.tups u.frzs u.tbls (λm' hm=>by obtain ⟨o',es',ep',ho',r'⟩:=hm;rw[ho] at ho';cases ho';exact ⟨_,es',ep',hL,r'⟩) hok hg
theorem Inv.turned{t':Nat}{it:Addr}(I:Inv X pS Y H s)(k:∀ b o,b≠it->s.heap.get? b=some o->h'.get? b=some o)(hn:H it=none)(hL:it≠X.env.locals)
  (h1:it∈X.ex\/X.s₀.heap.objs.size<=it) (h2:∀ x c,X.env.cells.lookup x=some c->c≠it) (h3:∀ p∈X.pn++pS,p.1≠it):Inv X pS Y H { s with heap:=h',toks:=t' }:=by
 have nit:∀ b u,H b=some u->b≠it:=λb u e z=>by rw[z,hn] at e;cases e
 refine I.step (g':=s.gens) (d':=s.drawn) (ch:=[it]) (λb hb=>?_) (λb o _ _ hc e _=>k b o (λz=>hc (by simp[z])) e) (λb o _ _ hc e _=>⟨o.slots,k b o (λz=>hc (by simp[z])) e⟩) (λ_ _ _ _ n=>n)
  (λb o hc e=>⟨o,k b o (λz=>hc (by simp[z])) e⟩) (λ_ _ e=>e) (λ_ _ _ e=>e) (λb ps e=>⟨#[],by rw[e];simp⟩) (λm hm=>?_) (λb u e=>?_) I.bare
 ·have e:b=it:=by simpa using hb
  subst e;exact ⟨h1,hL,h2,h3⟩
 ·obtain ⟨o,es,ep,ho,r⟩:=hm;exact ⟨o,es,ep,k _ o (Ne.symm hL) ho,r⟩
 ·refine (I.hok b u e).stay (λc v hc q=>k c v ?_ q) (λ_ q=>q) λ_ _ q=>q;rcases hc with z|z
  ·rw[z];exact nit b u e
  ·exact nit c _ z
theorem Inv.tok(I:Inv X pS Y H s)(t:Nat):Inv X pS Y H { s with toks:=t }:=I.un (h':=s.heap) (t':=t) Un.refl I.hok
theorem Inv.kept{t':Nat}(I:Inv X pS Y H s)(k:∀ b u,s.heap.get? b=some u->h'.get? b=some u):Inv X pS Y H { s with heap:=h',toks:=t' }:=I.un (Un.kept k) (I.hok.kept k)
theorem Inv.laid{a:Addr}{o:HO}{t':Nat}(I:Inv X pS Y H s)(k:∀ b u,s.heap.get? b=some u->h'.get? b=some u)(hp:s.heap.objs.size<=a)(new:zcE X.prog X.w (upd H a o) h' a o) :
  Inv X pS Y (upd H a o) { s with heap:=h',toks:=t' }:=I.un (Un.laid k hp (I.hok.fresh hp)) (I.hok.laid k hp new)
theorem Inv.write{x e:Addr}{o:HO}{t':Nat}(I:Inv X pS Y H s)(mu:Mut (H x))(he:e=x\/H e=some (.own x))(k:∀ b u,b≠e->s.heap.get? b=some u->h'.get? b=some u)(heo:∃ u,h'.get? e=some u)
  (new:zcE X.prog X.w (upd H x o) h' x o):Inv X pS Y (upd H x o) { s with heap:=h',toks:=t' }:=I.un (Un.write mu he k heo) (I.hok.write mu he k heo new)
theorem Inv.weak{Y':List (Option V)}(I:Inv X pS Y H s)(hl:Y'.length = Y.length)(w:∀(i:Nat) v,Y'[i]? = some (some v)->Y[i]? = some (some v)):Inv X pS Y' H s :=
 ⟨I.ok,I.os,I.bare,I.base,let ⟨m,hn,hl'⟩:=I.loc;⟨m,hn,λi x v e1 e2 e3=>hl' i x v e1 (w i v e2) e3⟩,I.cell,I.free,I.freeC,I.pin,I.hok,hl.trans I.len⟩
theorem Inv.pins_of{pins':List (Addr×Obj)}(I:Inv X pS Y H s)(h:∀ p∈pins',s.heap.get? p.1=some p.2/\H p.1=none/\p.1≠X.env.locals/\p.1∉X.fs/\∀ v,p.2.data≠.cell v):Inv X pins' Y H s :=
 ⟨I.ok,I.os,I.bare,I.base,I.loc,I.cell,I.free,I.freeC,λp hp=>(wax.mp hp).elim (λz=>I.pin p (waR _ z)) (h p),I.hok,I.len⟩
theorem zlZ{N:List Str}(hN:N.Nodup){i j:Nat}{x:Str}(a:N[i]? = some x)(b:N[j]? = some x):i=j:=by obtain ⟨h1,e1⟩:=wam.mp a;obtain ⟨h2,e2⟩:=wam.mp b;exact (List.getElem_inj hN).mp (e1.trans e2.symm)
theorem zhf{M:Model}{A:Around}{E:Value->Shared->Prop}{i:Nat}{x:Str}{v:V}{u:Value}{Q:Unit->Shared->Prop}(I:Inv X pS Y H s)(hN:X.N.Nodup)(hi:X.N[i]? = some x)(hx:Loc X.env.scope x)(r:zby v u)
  (h:∀ s',Inv X pS (Y.set i (some v)) H s'->(∃ a,Heap.SameBut a s.heap s'.heap/\(a=X.env.locals\/X.env.cells.lookup x=some a))->Q () s') (hf:X.fn x=true\/X.env.scope.names.lookup x=some .local:=by exact xwA):wpAny M A (storeName X.env x u) Q E s:=by
 obtain ⟨m,hn,hl⟩:=id I.loc;have hcls:(X.env.scope.kind == .class || (X.env.scope.kind == .module && X.env.locals != X.env.globals))=false:=by rw[I.ok.kind];rfl
 have hiσ:i < Y.length:=by rw[I.len];exact (wam.mp hi).1
 have cne:=I.cne;have tracked:∀{a:Addr}{h':Heap},(∃ o,s.heap.get? a=some o/\H a=none)->Heap.SameBut a s.heap h'->HOk X.prog X.w H h':=λ{a h'} ha hs b ob e=>by
  obtain ⟨_,_,hfree⟩:=ha;refine (I.hok b ob e).stay (λc w' hc q=>(hs.2 c ?_).trans q) (λ_ q=>q) λ_ _ q=>q;rintro rfl;rcases hc with rfl|hc
  ·rw[hfree] at e;cases e
  ·rw[hfree] at hc;cases hc
 rcases hx with hk|hk
 ·refine wpAny_storeName_local hk hn (λh' hn' hs=>?_) hcls;obtain ⟨oL,_,_,hoL,_⟩:=id hn;refine h _ ⟨I.ok,I.os,I.bare,⟨λb o e n hb hx=>?_,λb o e n hb hx=>?_,I.base.free,λb o e hx=>?_,I.base.tups,I.base.frzs,I.base.tbls⟩,⟨_,hn',λj y v' e1 e2 e3=>?_⟩,λy c e=>?_,I.free,I.freeC,λp hp=>?_,tracked ⟨oL,hoL,I.free⟩ hs,by simpa using I.len⟩ ⟨_,hs,.inl rfl⟩
  ·exact (hs.2 b (waM (was (wai e) I.ok.above))).trans (I.base.keep b o e n hb hx)
  ·obtain ⟨sl,e1⟩:=I.base.slot b o e n hb hx;exact ⟨sl,(hs.2 b (waM (was (wai e) I.ok.above))).trans e1⟩
  ·obtain ⟨o',e1⟩:=I.base.there b o e hx;exact ⟨o',(hs.2 b (waM (was (wai e) I.ok.above))).trans e1⟩
  ·by_cases hj:j=i
   ·subst hj;rw[hi] at e1;cases e1;rw[List.getElem?_set_self hiσ] at e2;cases e2;exact ⟨u,r,.inl ⟨hk,xws⟩⟩
   ·rw[List.getElem?_set_ne (Ne.symm hj)] at e2;obtain ⟨u',r',q⟩:=hl j y v' e1 e2 e3;refine ⟨u',r',?_⟩;rcases q with ⟨k,e⟩|⟨k,c,e,z⟩
    ·refine .inl ⟨k,?_⟩;have:y≠x:=λe=>hj (zlZ hN e1 (e ▸ hi));simp[this,e]
    ·exact .inr ⟨k,c,e,z.sameBut hs (cne y c e)⟩
  ·obtain ⟨w',z⟩:=I.cell y c e;exact ⟨w',z.sameBut hs (cne y c e)⟩
  ·obtain ⟨e,n,ne,nf,d⟩:=I.pin p hp;exact ⟨(hs.2 p.1 ne).trans e,n,ne,nf,d⟩
 ·have hfn:X.fn x=true:=by
   rcases hf with z|z
   ·exact z
   ·rw[z] at hk;cases hk
  obtain ⟨c,hc⟩:=I.ok.has x (.inl hk);obtain ⟨w',z⟩:=I.cell x c hc;refine wpAny_storeName_cell I.ok.kind hk hc z (λh' hc' hs=>?_);obtain ⟨oc,hoc,hocd⟩:=id z;refine h { s with heap:=h' } ⟨I.ok,I.os,I.bare,⟨λb o e n hb hx=>?_,λb o e n hb hx=>?_,I.base.free,λb o e hx=>?_,I.base.tups,I.base.frzs,I.base.tbls⟩,⟨m,hn.sameBut hs (Ne.symm (cne x c hc)),λj y v' e1 e2 e3=>?_⟩,λy c' e=>?_,I.free,I.freeC,λp hp=>?_,tracked ⟨oc,hoc,I.freeC x c hc⟩ hs,by simpa using I.len⟩ ⟨c,hs,.inr hc⟩
  ·exact (hs.2 b (waM (was (wai e) (I.ok.cab x c hfn hc)))).trans (I.base.keep b o e n hb hx)
  ·obtain ⟨sl,e1⟩:=I.base.slot b o e n hb hx;exact ⟨sl,(hs.2 b (waM (was (wai e) (I.ok.cab x c hfn hc)))).trans e1⟩
  ·obtain ⟨o',e1⟩:=I.base.there b o e hx;exact ⟨o',(hs.2 b (waM (was (wai e) (I.ok.cab x c hfn hc)))).trans e1⟩
  ·by_cases hj:j=i
   ·subst hj;rw[hi] at e1;cases e1;rw[List.getElem?_set_self hiσ] at e2;cases e2;exact ⟨u,r,.inr ⟨.inl hk,c,hc,hc'⟩⟩
   ·rw[List.getElem?_set_ne (Ne.symm hj)] at e2;obtain ⟨u',r',q⟩:=hl j y v' e1 e2 e3;refine ⟨u',r',?_⟩;rcases q with q|⟨k,c',e,z'⟩
    ·exact .inl q
    ·refine .inr ⟨k,c',e,z'.sameBut hs ?_⟩;rintro rfl;exact hj (zlZ hN e1 (I.ok.inj _ _ _ e hc ▸ hi))
  ·by_cases hcc:c'=c
   ·subst hcc;exact ⟨_,hc'⟩
   ·obtain ⟨w2,z2⟩:=I.cell y c' e;exact ⟨w2,z2.sameBut hs hcc⟩
  ·obtain ⟨e,n,ne,nf,d⟩:=I.pin p hp;refine ⟨(hs.2 p.1 ?_).trans e,n,ne,nf,d⟩;intro q;rw[q,hoc] at e;have q':oc=p.2:=waA e;exact d w' (by rw[<- q'];exact hocd)
theorem zgg{M:Model}{A:Around}{E:Value->Shared->Prop}{i:Nat}{x:Str}{v:V}{u:Value}{Q:Unit->Shared->Prop}(I:Inv X pS Y H s)(hN:X.N.Nodup)(hi:X.N[i]? = some x)(hx:Loc X.env.scope x)(r:zby v u)
  (h:∀ s',Inv X pS (Y.set i (some v)) H s'->Q () s') (hf:X.fn x=true\/X.env.scope.names.lookup x=some .local:=by exact xwA):wpAny M A (storeName X.env x u) Q E s :=
 zhf I hN hi hx r (λs' I' _=>h s' I') hf
theorem Inv.call'{s':Shared}{ch:List Addr}(I:Inv X pS Y H s)(ho:s'.os=s.os)(u:Un (frs X.stack) ch H H' s.heap s'.heap)(hok:HOk X.prog X.w H' s'.heap)(hg:AllBare s'.gens)
  (hch:∀ b∈ch,(b∈X.ex\/X.s₀.heap.objs.size<=b)/\b≠X.env.locals/\(∀ x c,X.env.cells.lookup x=some c->c≠b)/\∀ p∈X.pn++pS,p.1≠b):Inv X pS Y H' s':=by
 obtain ⟨h',g',d',t',o'⟩:=s';have e:o'=s.os:=ho;subst e;exact I.call (g':=g') (t':=t') (d':=d') u hok hg hch
end
abbrev XK:=Value->Option Addr->Hp->Prop
abbrev St:=List (Option V)
abbrev VK:=V->Hp->Prop
abbrev TE:=St->Hp->VK->Prop
abbrev TT:=St->Hp->(Bool->Hp->Prop)->Prop
abbrev TA:=St->Hp->(List V->Hp->Prop)->Prop
structure zrG where
 nx:St->Hp->Prop
 rt:VK
 bk:St->Hp->Prop:=λ_ _=>False
 ct:St->Hp->Prop:=λ_ _=>False
abbrev TS:=zrG->St->Hp->Prop
def EP(X:Cx)(pS:List (Addr×Obj))(Y:St)(Q:VK)(u:Value)(s':Shared):Prop:=∃ v H',Inv X pS Y H' s'/\zby v u/\Q v H'
def TP(X:Cx)(pS:List (Addr×Obj))(Y:St)(Q:Bool->Hp->Prop)(b:Bool)(s':Shared):Prop:=∃ H',Inv X pS Y H' s'/\Q b H'
def AP(X:Cx)(pS:List (Addr×Obj))(Y:St)(Q:List V->Hp->Prop)(us:List Value)(s':Shared):Prop:=∃ vs H',Inv X pS Y H' s'/\zaR vs us/\Q vs H'
def SP(X:Cx)(pS:List (Addr×Obj))(D:zrG)(f:Flow)(s':Shared):Prop :=
 match f with
 |.next=>∃ Y' H',Inv X pS Y' H' s'/\D.nx Y' H'
 |.brk=>∃ Y' H',Inv X pS Y' H' s'/\D.bk Y' H'
 |.cont=>∃ Y' H',Inv X pS Y' H' s'/\D.ct Y' H'
 |.ret u=>∃ v Y' H',Inv X pS Y' H' s'/\zby v u/\D.rt v H'
def PE(X:Cx)(e:Expr)(t:TE):Prop :=
 ∀(pS:List (Addr×Obj))(s:Shared)(Y:St)(H:Hp)(Q:VK),Inv X pS Y H s->t Y H Q->wpAny (model X.prog X.w) X.A (eval e X.env) (EP X pS Y Q) X.xe s
def PT(X:Cx)(e:Expr)(t:TT):Prop :=
 ∀(pS:List (Addr×Obj))(s:Shared)(Y:St)(H:Hp)(Q:Bool->Hp->Prop),Inv X pS Y H s->t Y H Q->wpAny (model X.prog X.w) X.A (isTrue e X.env (eval e X.env)) (TP X pS Y Q) X.xe s
def PW(X:Cx)(e:Expr)(t:TT):Prop :=
 ∀(whole:Sem Value)(pS:List (Addr×Obj))(s:Shared)(Y:St)(H:Hp)(Q:Bool->Hp->Prop),Inv X pS Y H s->t Y H Q->wpAny (model X.prog X.w) X.A (isTrue e X.env whole) (TP X pS Y Q) X.xe s
theorem PW.pt{X:Cx}{e:Expr}{t:TT}(h:PW X e t):PT X e t:=h _
def PA(X:Cx)(es:List Expr)(t:TA):Prop :=
 ∀(pos:Pos)(pS:List (Addr×Obj))(s:Shared)(Y:St)(H:Hp)(Q:List V->Hp->Prop),Inv X pS Y H s->t Y H Q->wpAny (model X.prog X.w) X.A (spliced (backTo pos (starEach es X.env))) (AP X pS Y Q) X.xe s
def PS(X:Cx)(st:Stmt)(t:TS):Prop :=
 ∀(pS:List (Addr×Obj))(s:Shared)(Y:St)(H:Hp)(D:zrG),Inv X pS Y H s->t D Y H->wpAny (model X.prog X.w) X.A (exec st X.env) (SP X pS D) X.xe s
def PSs(X:Cx)(st:List Stmt)(t:TS):Prop :=
 ∀(pS:List (Addr×Obj))(s:Shared)(Y:St)(H:Hp)(D:zrG),Inv X pS Y H s->t D Y H->wpAny (model X.prog X.w) X.A (execs st X.env) (SP X pS D) X.xe s
theorem thn{α:Type}{t:Sem α}{Q Q':α->Shared->Prop}{M:Model}{A:Around}{E:Value->Shared->Prop}{s:Shared}(h:wpAny M A t Q E s)(hQ:∀ a s,Q a s->Q' a s):wpAny M A t Q' E s:=wpAny_mono h hQ λ_ _ x=>x
end L2
namespace L2
open PySem PySem.Spec PyProof.Rows
section
variable{X:Cx}
def tVar(i:Nat):TE:=λY H Q=>∃ v,Y[i]? = some (some v)/\Q v H
def tC(v:V):TE:=λ_ H Q=>Q v H
theorem zdk{i:Nat}{x:Str}{pos:Pos}(hN:X.N[i]? = some x)(hv:Vis X.env.scope x)(hd:(x == ("__debug__" : Str))=false:=by decide)(hcd:(x == ("__classdict__" : Str))=false:=by decide):PE X (.Name x pos) (tVar i):=by
 intro pS s Y H Q I h;obtain ⟨v,e,h⟩:=h;obtain ⟨m,hn,hl⟩:=I.loc;obtain ⟨u,r,l⟩:=hl i x v hN e hv;have fin:EP X pS Y Q u s:=⟨v,H,I,r,h⟩
 rcases l with ⟨hk,hm⟩|⟨hk,c,hc,hcell⟩
 ·exact wpAny_Name (wpAny_loadName_local I.ok.kind hk hn hm fin) hd
 ·rcases hk with hk|hk
  ·exact wpAny_Name (wpAny_loadName_cell I.ok.kind hk hc hcell fin) hd
  ·exact wpAny_Name (wpAny_loadName_free I.ok.kind hk hc hcell fin hcd) hd
theorem znX{i j pos}:PE X (.Constant (.int i) j pos) (tC (.int i)):=λ_ _ _ H _ I h=>wpAny_Constant_int ⟨.int i,H,I.tok _,⟨_,rfl⟩,h⟩
theorem zuQ{b j pos}:PE X (.Constant (.bool b) j pos) (tC (.bl b)):=λ_ _ _ H _ I h=>Constant_bool ⟨.bl b,H,I,rfl,h⟩
theorem zvy{x j pos}:PE X (.Constant (.str x) j pos) (tC (.str x)):=λ_ _ _ H _ I h=>Calls.Constant_str ⟨.str x,H,I.tok _,⟨_,rfl⟩,h⟩
def Gl(X:Cx)(x:Str):Prop:=X.env.kindOf x=some .globalImplicit
theorem zow{E:Value->Shared->Prop}{pS:List (Addr×Obj)}{s:Shared}{Y:St}{H:Hp}{x:Str}{u:Value}{pos:Pos}{Q:Value->Shared->Prop}(I:Inv X pS Y H s)(hg:Gl X x)(hm:X.mg x=some u)(h:Q u s)
  (hd:(x == ("__debug__" : Str))=false:=by decide):wpAny (model X.prog X.w) X.A (eval (.Name x pos) X.env) Q E s :=
 Calls.Name_function_global I.ok.kind hg (Calls.loadGlobal_global (by rw[I.ok.glob];exact I.mod.glob.keeps I.bk) hm h) hd
theorem zdq{E:Value->Shared->Prop}{pS:List (Addr×Obj)}{s:Shared}{Y:St}{H:Hp}{x:Str}{u:Value}{pos:Pos}{Q:Value->Shared->Prop}(I:Inv X pS Y H s)(hg:Gl X x)(hm:X.mg x=none)(hv:bootBuiltins x=some u)(h:Q u s)
  (hn:x≠"__name__":=by decide) (hd:(x == ("__debug__" : Str))=false:=by decide):wpAny (model X.prog X.w) X.A (eval (.Name x pos) X.env) Q E s:=by
 obtain ⟨mb,h1,h2⟩:=I.mod.blt;exact Calls.Name_function_global I.ok.kind hg (Calls.loadGlobal_builtin (by rw[I.ok.glob];exact I.mod.glob.keeps I.bk) hm (by rw[I.ok.blt];exact h1.keeps I.bk) ((h2 x hn).trans hv) h) hd
theorem zoj{x:Str}{v:V}{u:Value}{pos:Pos}(hg:Gl X x)(hm:X.mg x=some u)(r:zby v u)(hd:(x == ("__debug__" : Str))=false:=by decide):PE X (.Name x pos) (tC v) :=
 λ_ _ _ H _ I h=>zow I hg hm ⟨v,H,I,r,h⟩ hd
theorem ztj{x:Str}{v:V}{u:Value}{pos:Pos}(hg:Gl X x)(hm:X.mg x=none)(hv:bootBuiltins x=some u)(r:zby v u)(hn:x≠"__name__":=by decide)(hd:(x == ("__debug__" : Str))=false:=by decide):PE X (.Name x pos) (tC v) :=
 λ_ _ _ H _ I h=>zdq I hg hm hv ⟨v,H,I,r,h⟩ hn hd
variable{a b:Expr}{ta tb:TE}{pos:Pos}
def tB(t:TE):TT:=λY H Q=>t Y H λx H1=>∃ c,x=.bl c/\Q c H1
theorem zvN{e:Expr}{t:TE}(h:PE X e t)(he:∀ whole,isTrue e X.env whole=(do let v <- whole;standAt e.pos;holding [v] (truthy v)):=by intro _;rfl):PT X e (tB t):=by intro pS s Y H Q I hw;refine isTrue_plain (thn (h pS s Y H _ I hw) λv s1 ⟨x,H1,I1,r1,q1⟩=>?_) (he _);obtain ⟨d,rfl,q⟩:=q1;cases r1;exact wpAny_truthy_bool ⟨H1,I1,q⟩
variable{tA tB':TT}{zaX:List Expr}
def tAnd(t u:TT):TT:=λY H Q=>t Y H λc H1=>if c=true then u Y H1 Q else Q false H1
def tOr(t u:TT):TT:=λY H Q=>t Y H λc H1=>if c=true then Q true H1 else u Y H1 Q
def tNot(t:TT):TT:=λY H Q=>t Y H λc H1=>Q (!c) H1
theorem zt5(ha:PT X a tA):PW X (.BoolOp .And [a] pos) tA:=by
 intro wh pS s Y H Q I h;refine isTrue_and (thn (ha pS s Y H Q I h) λc s1 e=>?_);cases c with
 |true=>exact isTrue_and_nil e
 |false=>exact e
theorem zv9(ha:PT X a tA):PW X (.BoolOp .Or [a] pos) tA:=by
 intro wh pS s Y H Q I h;refine isTrue_or (thn (ha pS s Y H Q I h) λc s1 e=>?_);cases c with
 |false=>exact isTrue_or_nil e
 |true=>exact e
theorem zvA(ha:PT X a tA)(hb:PW X (.BoolOp .And (b::zaX) pos) tB'):PW X (.BoolOp .And (a::b::zaX) pos) (tAnd tA tB'):=by
 intro wh pS s Y H Q I h;refine isTrue_and (thn (ha pS s Y H _ I h) λc s1 ⟨H1,I1,q1⟩=>?_);cases c with
 |true=>exact hb wh pS s1 Y H1 Q I1 q1
 |false=>exact ⟨H1,I1,q1⟩
theorem zw7(ha:PT X a tA)(hb:PW X (.BoolOp .Or (b::zaX) pos) tB'):PW X (.BoolOp .Or (a::b::zaX) pos) (tOr tA tB'):=by
 intro wh pS s Y H Q I h;refine isTrue_or (thn (ha pS s Y H _ I h) λc s1 ⟨H1,I1,q1⟩=>?_);cases c with
 |true=>exact ⟨H1,I1,q1⟩
 |false=>exact hb wh pS s1 Y H1 Q I1 q1
theorem zvq(ha:PT X a tA):PT X (.UnaryOp .Not a pos) (tNot tA):=by intro pS s Y H Q I h;exact isTrue_not (ha pS s Y H (λc H1=>Q (!c) H1) I h)
def zwJ(ta tb:TE):TE:=λY H Q=>ta Y H λx H1=>∃ c,x=.bl c/\if c=true then tb Y H1 Q else Q (.bl false) H1
def tOrV(ta tb:TE):TE:=λY H Q=>ta Y H λx H1=>∃ c,x=.bl c/\if c=true then Q (.bl true) H1 else tb Y H1 Q
def zw5(ta:TE):TE:=λY H Q=>ta Y H λx H1=>∃ c,x=.bl c/\Q (.bl (!c)) H1
theorem zuV{op}{t:TE}(h:PE X a t):PE X (.BoolOp op [a] pos) t:=λpS s Y H Q I hw=>BoolOp_one (h pS s Y H Q I hw)
theorem zvv(ha:PE X a ta)(hb:PE X (.BoolOp .And (b::zaX) pos) tb):PE X (.BoolOp .And (a::b::zaX) pos) (zwJ ta tb):=by
 intro pS s Y H Q I h;refine BoolOp_and (thn (ha pS s Y H _ I h) λv s1 ⟨x,H1,I1,r1,q1⟩=>?_);obtain ⟨c,rfl,q1⟩:=q1;cases r1;refine wpAny_truthy_bool ?_;cases c with
 |true=>exact hb pS s1 Y H1 Q I1 q1
 |false=>exact ⟨.bl false,H1,I1,rfl,q1⟩
theorem zwC(ha:PE X a ta)(hb:PE X (.BoolOp .Or (b::zaX) pos) tb):PE X (.BoolOp .Or (a::b::zaX) pos) (tOrV ta tb):=by
 intro pS s Y H Q I h;refine BoolOp_or (thn (ha pS s Y H _ I h) λv s1 ⟨x,H1,I1,r1,q1⟩=>?_);obtain ⟨c,rfl,q1⟩:=q1;cases r1;refine wpAny_truthy_bool ?_;cases c with
 |false=>exact hb pS s1 Y H1 Q I1 q1
 |true=>exact ⟨.bl true,H1,I1,rfl,q1⟩
theorem zuI(ha:PE X a ta):PE X (.UnaryOp .Not a pos) (zw5 ta):=by intro pS s Y H Q I h;refine UnaryOp_ (thn (ha pS s Y H _ I h) λv s1 ⟨x,H1,I1,r1,q1⟩=>?_);obtain ⟨c,rfl,q1⟩:=q1;cases r1;exact not_of (wpAny_truthy_bool ⟨.bl (!c),H1,I1,rfl,q1⟩)
def tIf(t:TT)(ta tb:TE):TE:=λY H Q=>t Y H λc H1=>if c=true then ta Y H1 Q else tb Y H1 Q
theorem zq0{c:Expr}(hc:PT X c tA)(ha:PE X a ta)(hb:PE X b tb):PE X (.IfExp c a b pos) (tIf tA ta tb):=by
 intro pS s Y H Q I h;refine wpAny_IfExp (thn (hc pS s Y H _ I h) λd s1 ⟨H1,I1,q1⟩=>?_);cases d with
 |true=>exact ha pS s1 Y H1 Q I1 q1
 |false=>exact hb pS s1 Y H1 Q I1 q1
end
end L2
namespace L2
open PySem PySem.Spec PyProof.Rows
def SqL(K:W.Frag)(H:Hp)(a:Addr)(xs:List V):Prop :=
 Rd H a (.lst xs) \/
  ∃(o:Obj)(its:Array Value)(n:Nat),K.lookup a=some o/\o.cls=.type "list"/\o.dict=none/\o.data=.seq its n/\its.size<=sizeLine/\zaR xs its.toList
def SqT(K:W.Frag)(H:Hp)(a:Addr)(xs:List V):Prop :=
 Rd H a (.tup xs) \/
  ∃(o:Obj)(its:Array Value)(n:Nat),K.lookup a=some o/\o.cls=.type "tuple"/\o.data=.seq its n/\its.size<=sizeLine/\zaR xs its.toList
def absV:Value->Option V
 |.none=>some .non
 |.bool b=>some (.bl b)
 |.int i _=>some (.int i)
 |.str x _=>some (.str x)
 |.bytes b _=>some (.byt b)
 |.float b _=>some (.flt b)
 |.ref a=>some (.ref a)
 |.type n=>some (.ty n)
 |_=>none
theorem zby.abs{x:V}{u:Value}(r:zby x u):absV u=some x:=by
 cases x with
 |non=>cases r;rfl
 |bl _=>cases r;rfl
 |int _=>obtain ⟨t,rfl⟩:=r;rfl
 |str _=>obtain ⟨t,rfl⟩:=r;rfl
 |byt _=>obtain ⟨t,rfl⟩:=r;rfl
 |flt _=>obtain ⟨t,rfl⟩:=r;rfl
 |ref _=>cases r;rfl
 |ty _=>cases r;rfl
theorem zby.inj{x y:V}{u:Value}(r:zby x u)(q:zby y u):x=y:=waA (r.abs.symm.trans q.abs)
theorem zaR.inj:∀{xs ys:List V}{us:List Value},zaR xs us->zaR ys us->xs=ys
 |_,_,_,.nil,.nil=>rfl
 |_,_,_,.cons r t,.cons r' t'=>by rw[r.inj r',zaR.inj t t']
section
variable{X:Cx}{pS:List (Addr×Obj)}{Y:St}{H:Hp}{s:Shared}{a:Addr}{xs ys:List V}
theorem SqL.of{K:W.Frag}(h:H a=some (.lst xs)):SqL K H a xs:=.inl (.inl h)
theorem SqT.of{K:W.Frag}(h:H a=some (.tup xs)):SqT K H a xs:=.inl (.inl h)
theorem Inv.list(I:Inv X pS Y H s)(h:SqL X.K H a xs):∃ its:List Value,zaR xs its/\PlainL s.heap a its.toArray/\xs.length<=sizeLine:=by
 rcases h with h|⟨o,its,n,hk,hc,hd,hs,hz,r⟩
 ·obtain ⟨z,its,n,r,e⟩:=h.ok I.hok;exact ⟨its,r,⟨_,n,e,rfl,rfl,rfl⟩,z⟩
 ·refine ⟨its.toList,r,⟨o,n,I.kIn a o hk,hc,hd,by simpa using hs⟩,?_⟩;have e:=r.length;simp only[Array.length_toList] at e;lia
theorem Inv.tuple(I:Inv X pS Y H s)(h:SqT X.K H a xs):∃ its:List Value,zaR xs its/\IsTup s.heap a its.toArray/\xs.length<=sizeLine:=by
 rcases h with h|⟨o,its,n,hk,hc,hs,hz,r⟩
 ·obtain ⟨z,its,r,n,e⟩:=h.ok I.hok;exact ⟨its,r,⟨_,e,rfl,n,rfl⟩,z⟩
 ·refine ⟨its.toList,r,⟨o,I.kIn a o hk,hc,n,by simpa using hs⟩,?_⟩;have e:=r.length;simp only[Array.length_toList] at e;lia
theorem Inv.list_inj(I:Inv X pS Y H s)(h:SqL X.K H a xs)(h':SqL X.K H a ys):xs=ys:=by
 obtain ⟨its,r,⟨o,n,e,_,_,d⟩,_⟩:=I.list h;obtain ⟨its',r',⟨o',n',e',_,_,d'⟩,_⟩:=I.list h';rw[e] at e';cases e';rw[d] at d';injection d' with d1 _;have:its=its':=by simpa using congrArg Array.toList d1
 subst this;exact r.inj r'
theorem Inv.tuple_inj(I:Inv X pS Y H s)(h:SqT X.K H a xs)(h':SqT X.K H a ys):xs=ys:=by
 obtain ⟨its,r,⟨o,e,_,n,d⟩,_⟩:=I.tuple h;obtain ⟨its',r',⟨o',e',_,n',d'⟩,_⟩:=I.tuple h';rw[e] at e';cases e';rw[d] at d';injection d' with d1 _;have:its=its':=by simpa using congrArg Array.toList d1
 subst this;exact r.inj r'
end
abbrev Cx.wish(X:Cx)(E:Value->Shared->Prop):Cx:={ X with xe:=E }
abbrev Cx.nox(X:Cx):Cx:=X.wish λ_ _=>False
theorem Cx.Ok.wish{X:Cx}(ok:X.Ok)(E:Value->Shared->Prop):(X.wish E).Ok :=
 ⟨ok.mod,ok.kind,ok.glob,ok.blt,ok.above,ok.inj,ok.has,ok.cab,ok.hd,ok.frames,ok.stk,ok.exf,ok.bs,ok.bsz,ok.noex,ok.exfs,ok.funs,ok.frf⟩
theorem Cx.Ok.unwish{X:Cx}{E:Value->Shared->Prop}(ok:(X.wish E).Ok):X.Ok :=
 ⟨ok.mod,ok.kind,ok.glob,ok.blt,ok.above,ok.inj,ok.has,ok.cab,ok.hd,ok.frames,ok.stk,ok.exf,ok.bs,ok.bsz,ok.noex,ok.exfs,ok.funs,ok.frf⟩
section
variable{X:Cx}{pS:List (Addr×Obj)}{Y:St}{H:Hp}{s:Shared}{E:Value->Shared->Prop}
theorem Inv.wish(I:Inv X pS Y H s)(E:Value->Shared->Prop):Inv (X.wish E) pS Y H s:=⟨I.ok.wish E,I.os,I.bare,I.base,I.loc,I.cell,I.free,I.freeC,I.pin,I.hok,I.len⟩
theorem Inv.unwish(I:Inv (X.wish E) pS Y H s):Inv X pS Y H s:=⟨I.ok.unwish,I.os,I.bare,I.base,I.loc,I.cell,I.free,I.freeC,I.pin,I.hok,I.len⟩
theorem SP.unwish{D:zrG}{f:Flow}{s':Shared}(h:SP (X.wish E) pS D f s'):SP X pS D f s':=by
 cases f with
 |next=>obtain ⟨Y',H',I,q⟩:=h;exact ⟨Y',H',I.unwish,q⟩
 |brk=>obtain ⟨Y',H',I,q⟩:=h;exact ⟨Y',H',I.unwish,q⟩
 |cont=>obtain ⟨Y',H',I,q⟩:=h;exact ⟨Y',H',I.unwish,q⟩
 |ret u=>obtain ⟨v,Y',H',I,r,q⟩:=h;exact ⟨v,Y',H',I.unwish,r,q⟩
theorem PE.nox{e:Expr}{t:TE}(h:PE X.nox e t):PE X e t:=λpS s Y H Q I hw =>
 wpAny_mono (h pS s Y H Q (I.wish _) hw) (λ_ _ ⟨v,H',I',r,q⟩=>⟨v,H',I'.unwish,r,q⟩) λ_ _ z=>waO z
theorem PT.nox{e:Expr}{t:TT}(h:PT X.nox e t):PT X e t:=λpS s Y H Q I hw =>
 wpAny_mono (h pS s Y H Q (I.wish _) hw) (λ_ _ ⟨H',I',q⟩=>⟨H',I'.unwish,q⟩) λ_ _ z=>waO z
theorem PSs.nox{st:List Stmt}{t:TS}(h:PSs X.nox st t):PSs X st t:=λpS s Y H D I hw =>
 wpAny_mono (h pS s Y H D (I.wish _) hw) (λ_ _ q=>q.unwish) λ_ _ z=>waO z
end
section
variable{X:Cx}{st:Stmt}{zaX:List Stmt}{t u:TS}{e:Expr}{te:TE}{pos:Pos}
def zwU:TS:=λD Y H=>D.nx Y H
def tSeq(t u:TS):TS:=λD Y H=>t { D with nx:=u D } Y H
theorem ztw:PSs X [] zwU:=λ_ _ Y H _ I h=>wpAny_execs_nil ⟨Y,H,I,h⟩
theorem zq4(h1:PS X st t)(h2:PSs X zaX u):PSs X (st::zaX) (tSeq t u):=by
 intro pS s Y H D I h;refine wpAny_execs_cons (thn (h1 pS s Y H { D with nx:=u D } I h) λf s1 q=>?_);cases f with
 |next =>
  obtain ⟨Y',H',I',q⟩:=q;exact h2 pS s1 Y' H' D I' q
 |ret v=>exact q
 |brk=>exact q
 |cont=>exact q
theorem zte(h1:PS X st t):PSs X [st] t:=by
 intro pS s Y H D I h;refine wpAny_execs_cons (thn (h1 pS s Y H D I h) λf s1 q=>?_);cases f with
 |next=>exact wpAny_execs_nil q
 |ret v=>exact q
 |brk=>exact q
 |cont=>exact q
theorem Inv.quiet{pS:List (Addr×Obj)}{Y:St}{H:Hp}{s:Shared}(I:Inv X pS Y H s):interactive X.env=false:=by simp[interactive,I.ok.kind]
def zww(te:TE):TS:=λD Y H=>te Y H λ_ H1=>D.nx Y H1
theorem zuc(he:PE X e te)(hs:swapsWith e none pos.line X.env=pure false:=by rfl):PS X (.Expr e pos) (zww te):=by intro pS s Y H D I h;exact wpAny_Expr_any (thn (he pS s Y H _ I h) λv s1 ⟨x,H1,I1,r1,q1⟩=>⟨Y,H1,I1,q1⟩) I.quiet hs
def tRet(te:TE):TS:=λD Y H=>te Y H D.rt
theorem zsb(he:PE X e te):PS X (.Return (some e) pos) (tRet te):=by intro pS s Y H D I h;exact wpAny_Return_some (thn (he pS s Y H _ I h) λv s1 ⟨x,H1,I1,r1,q1⟩=>⟨x,Y,H1,I1,r1,q1⟩)
def tIfS(c:TT)(t u:TS):TS:=λD Y H=>c Y H λb H1=>if b=true then t D Y H1 else u D Y H1
theorem zxa{c:Expr}{a b:List Stmt}{tc:TT}(hc:PT X c tc)(ha:PSs X a t)(hb:PSs X b u):PS X (.If c a b pos) (tIfS tc t u):=by
 intro pS s Y H D I h;refine wpAny_If (thn (hc pS s Y H _ I h) λd s1 ⟨H1,I1,q1⟩=>?_);cases d with
 |true=>exact ha pS s1 Y H1 D I1 q1
 |false=>exact hb pS s1 Y H1 D I1 q1
end
abbrev TG:=V->St->Hp->(St->Hp->Prop)->Prop
abbrev TGs:=List V->St->Hp->(St->Hp->Prop)->Prop
def PG(X:Cx)(target:Expr)(t:TG):Prop :=
 ∀(pS:List (Addr×Obj))(s:Shared)(Y:St)(H:Hp)(v:V)(u:Value)(Q:St->Hp->Prop),Inv X pS Y H s->zby v u->t v Y H Q ->
  wpAny (model X.prog X.w) X.A (assign target X.env u) (λ_ s'=>∃ Y' H',Inv X pS Y' H' s'/\Q Y' H') X.xe s
def PGs(X:Cx)(ts:List Expr)(t:TGs):Prop :=
 ∀(pS:List (Addr×Obj))(s:Shared)(Y:St)(H:Hp)(vs:List V)(us:List Value)(Q:St->Hp->Prop),Inv X pS Y H s->zaR vs us->t vs Y H Q ->
  wpAny (model X.prog X.w) X.A (assignInOrder ((assignEach ts X.env).map (·.2)) us) (λ_ s'=>∃ Y' H',Inv X pS Y' H' s'/\Q Y' H') X.xe s
abbrev zwY:=V->V->V->Hp->(Hp->Prop)->Prop
def PSet(X:Cx)(t:zwY):Prop :=
 ∀(pS:List (Addr×Obj))(s:Shared)(Y:St)(H:Hp)(o i v:V)(ov iv u:Value)(Q:Hp->Prop),Inv X pS Y H s->zby o ov->zby i iv->zby v u->t o i v H Q ->
  wpAny (model X.prog X.w) X.A (setItem ov iv u) (λ_ s'=>∃ H',Inv X pS Y H' s'/\Q H') X.xe s
section
variable{X:Cx}{pos:Pos}
def zvt(i:Nat):TG:=λv Y H Q=>Q (Y.set i (some v)) H
theorem zkO{i:Nat}{x:Str}(hN:X.N.Nodup)(hi:X.N[i]? = some x)(hx:Loc X.env.scope x)(hf:X.fn x=true\/X.env.scope.names.lookup x=some .local:=by exact xwA):PG X (.Name x pos) (zvt i):=by intro pS s Y H v u Q I r h;exact wpAny_assign_Name (zgg I hN hi hx r (λs' I'=>⟨_,H,I',h⟩) hf)
def gNil:TGs:=λvs Y H Q=>vs=[]/\Q Y H
def zwV(t:TG)(u:TGs):TGs:=λvs Y H Q=>∃ v r,vs=v::r/\t v Y H λY' H'=>u r Y' H' Q
theorem zsD:PGs X [] gNil:=by intro pS s Y H vs us Q I r h;obtain ⟨e,h⟩:=h;subst e;cases r;exact assignInOrder_nil ⟨Y,H,I,h⟩
theorem zma{e:Expr}{es:List Expr}{t:TG}{u:TGs}(h1:PG X e t)(h2:PGs X es u)
  (hs:(assignEach (e::es) X.env).map (·.2)=assign e X.env::(assignEach es X.env).map (·.2):=by rfl):PGs X (e::es) (zwV t u):=by
 intro pS s Y H vs us Q I r h;obtain ⟨v,vr,e1,h⟩:=h;subst e1;cases r with
 |cons r rr =>
  rw[hs];refine assignInOrder_cons (thn (h1 pS s Y H _ _ _ I r h) λ_ s1 ⟨Y1,H1,I1,q1⟩=>?_);exact h2 pS s1 Y1 H1 _ _ Q I1 rr q1
def gTup(K:W.Frag)(n:Nat)(t:TGs):TG:=λv Y H Q=>∃ a xs,v=.ref a/\SqT K H a xs/\xs.length=n/\t xs Y H Q
theorem zuC{es:List Expr}{k:Nat}{t:TGs}{n:Nat}(hc:X.calm=true)(h:PGs X es t)
  (hn:(assignEach es X.env).length=n:=by rfl) (hst:(assignEach es X.env).findIdx? (·.1)=none:=by rfl):PG X (.Tuple es k pos) (gTup X.K n t):=by
 intro pS s Y H v u Q I r hw;obtain ⟨a,xs,e1,hq,hl,hw⟩:=hw;subst e1;cases r;obtain ⟨its,rv,ht,hz⟩:=I.tuple hq;refine assign_Tuple_tuple (I.ok.hd hc) ht (by simp[hn,<- hl,rv.length]) hst λh' hx=>?_;have I1:Inv X pS Y H { s with heap:=h' }:=I.kept (t':=s.toks) λb o e=>hx b o (waM (wai e)) e;exact h pS _ Y H xs _ Q I1 (by simpa using rv) hw
def zmF(to ti:TE)(t:zwY):TG:=λv Y H Q=>to Y H λo H1=>ti Y H1 λi H2=>t o i v H2 λH3=>Q Y H3
theorem zuA{o i:Expr}{to ti:TE}{t:zwY}(ho:PE X o to)(hi:PE X i ti)(hs:PSet X t)
  (ha:∀ v,assign (.Subscript o i pos) X.env v=(do
   let ov <- holding [v] (eval o X.env);let iv <- holding [v,ov] (eval i X.env)
   standAt pos
   holding [v,ov,iv] (setItem ov iv v)
   release [v,ov,iv] []):=by intro _;rfl):PG X (.Subscript o i pos) (zmF to ti t):=by
 intro pS s Y H v u Q I r h;rw[ha];refine wab (wpAny_holding (thn (ho pS s Y H _ I h) λov s1 ⟨x,H1,I1,r1,q1⟩=>?_));refine wab (wpAny_holding (thn (hi pS s1 Y H1 _ I1 q1) λiv s2 ⟨y,H2,I2,r2,q2⟩=>?_));refine wab (wpAny_standAt (wab (wpAny_holding (thn (hs pS s2 Y H2 x y v ov iv u _ I2 r1 r2 r q2) λ_ s3 ⟨H3,I3,q3⟩=>?_))));exact wpAny_release ⟨Y,H3,I3,q3⟩
def tAsg(te:TE)(g:TG):TS:=λD Y H=>te Y H λx H1=>g x Y H1 D.nx
theorem zvH{tg e:Expr}{te:TE}{g:TG}(he:PE X e te)(hg:PG X tg g)(hs:swapsWithSole [tg] e pos.line X.env=pure false:=by rfl)(hw:swappedStores [tg] e X.env=pure none:=by rfl)
  (h1:(assignEach [tg] X.env).map (·.2)=[assign tg X.env]:=by rfl):PS X (.Assign [tg] e pos) (tAsg te g):=by
 intro pS s Y H D I h;refine wpAny_Assign_stores (thn (he pS s Y H _ I h) λv s1 ⟨x,H1,I1,r1,q1⟩=>?_) hs hw;rw[h1];exact thn (hg pS s1 Y H1 x v _ I1 r1 q1) λ_ s2 q=>q
theorem zrw{i:Nat}{x:Str}{e:Expr}{te:TE}{pos':Pos}(hN:X.N.Nodup)(hi:X.N[i]? = some x)(hx:Loc X.env.scope x)(he:PE X e te)(hs:swapsWith e (some (.Name x pos')) pos.line X.env=pure false:=by rfl)(hf:X.fn x=true\/X.env.scope.names.lookup x=some .local:=by exact xwA) :
  PS X (.Assign [.Name x pos'] e pos) (tAsg te (zvt i)):=by
 intro pS s Y H D I h;refine wpAny_Assign_Name (thn (he pS s Y H _ I h) λv s1 ⟨y,H1,I1,r1,q1⟩=>?_) hs;exact zgg I1 hN hi hx r1 (λs2 I2=>⟨_,H1,I2,q1⟩) hf
def tPar(i j:Nat)(ta:TA):TS:=λD Y H=>ta Y H λvs H1=>∃ v w,vs=[v,w]/\D.nx ((Y.set i (some v)).set j (some w)) H1
theorem zwa{i j:Nat}{x y:Str}{a b:Expr}{ta:TA}{px py pt:Pos}{kt k2 pt2}(hc:X.calm=true)(hN:X.N.Nodup)(hi:X.N[i]? = some x)(hj:X.N[j]? = some y)(hij:i≠j)
  (hx:X.env.scope.names.lookup x=some .local) (hy:X.env.scope.names.lookup y=some .local) (ha:PA X [a,b] ta)
  (hw:swappedStores [.Tuple [.Name x px,.Name y py] kt pt] (.Tuple [a,b] k2 pt2) X.env=pure (some [x,y]))
  (hs:swapsWithSole [.Tuple [.Name x px,.Name y py] kt pt] (.Tuple [a,b] k2 pt2) pos.line X.env=pure false:=by rfl) :
  PS X (.Assign [.Tuple [.Name x px,.Name y py] kt pt] (.Tuple [a,b] k2 pt2) pos) (tPar i j ta):=by
 intro pS s Y H D I h;rw[exec_Assign_arm];refine wab (wpAny_standAt ?_);rw[hs];refine wab (wad ?_);rw[if_neg xwd];refine wab (Tuple_ (thn (ha _ pS s Y H _ I h) λus s1 ⟨vs,H1,I1,r1,q1⟩=>?_));obtain ⟨v,w,e1,q1⟩:=q1;subst e1;obtain ⟨u1,u2,rfl,rv,rw'⟩ : ∃ u1 u2,us=[u1,u2]/\zby v u1/\zby w u2:=by
  cases r1 with
  |cons p q =>
   cases q with
   |cons p' q' =>
    cases q';exact ⟨_,_,rfl,p,p'⟩
 refine wpAny_newObj_type ?_ (by show 2<=sizeLine;decide);have I2:Inv X pS Y H1 { s1 with heap:=s1.heap.push { cls:=.type "tuple",data:=.seq [u1,u2].toArray } }:=I1.kept (t':=s1.toks) λb o e=>waa _ e;rw[hw];refine wab (wad ?_);show wpAny (model X.prog X.w) X.A (do rule "assign.swapped-stores";let items <- unpackItems (.ref s1.heap.objs.size) 2 none;assignInOrder [λv=>bindName X.env y v,λv=>bindName X.env x v] items.reverse;pure Flow.next) _ _ _;refine wab (wpAny_rule (wab (unpackItems_tuple (items:=#[u1,u2]) (I.ok.hd hc) (IsTup.new s1.heap _) λh' hx'=>?_)));have I3:=I2.kept (h':=h') (t':=s1.toks) λb o e=>hx' b o (waM (wai e)) e;show wpAny _ _ (assignInOrder [λv=>bindName X.env y v,λv=>bindName X.env x v] [u2,u1] >>= λ_=>pure Flow.next) _ _ _;refine wab (assignInOrder_cons (wpAny_bindName (zgg I3 hN hj (.inl hy) rw' (λs2 I4=>?_) (.inr hy))));refine assignInOrder_cons (wpAny_bindName (zgg I4 hN hi (.inl hx) rv (λs3 I5=>assignInOrder_nil (wad ?_)) (.inr hx)));rw[List.set_comm _ _ (Ne.symm hij)] at I5;exact ⟨_,H1,I5,q1⟩
end
section
variable{X:Cx}{pos:Pos}
def zuS(c:TT)(tb:TS):TS:=λD Y H=>∃ W:Nat->St->Hp->Prop,(∃ m,W m Y H)/\∀ m Y H,W m Y H ->
 c Y H λb H1=>if b=true then ∃ N:St->Hp->Prop,(∀ Y' H',N Y' H'->∃ m',m'<m/\W m' Y' H')/\tb { D with nx:=N,ct:=N,bk:=D.nx } Y H1 else D.nx Y H1
theorem zqX{c:Expr}{body:List Stmt}{tc:TT}{tb:TS}(hp:PassesOwn (model X.prog X.w) X.A X.env X.xe)(hc:PT X c tc)(hb:PSs X body tb):PS X (.While c body [] pos) (zuS tc tb):=by
 intro pS s Y H D I h;obtain ⟨W,⟨m0,w0⟩,turn⟩:=h;refine wpAny_While (codeAny_whileLoop (λn s'=>∃ Y' H',Inv X pS Y' H' s'/\W n Y' H') ?_ m0 ⟨Y,H,I,w0⟩);rintro n s1 ⟨Y1,H1,I1,w1⟩;refine wpAny_passesOwn hp (thn (hc pS s1 Y1 H1 _ I1 (turn n Y1 H1 w1)) λb s2 ⟨H2,I2,q2⟩=>?_);cases b with
 |true =>
  obtain ⟨N,hN,q2⟩:=q2;rw[if_pos rfl];refine wpAny_passesOwn hp (thn (hb pS s2 Y1 H2 _ I2 q2) λf s3 q3=>?_);cases f with
  |next =>
   obtain ⟨Y3,H3,I3,n3⟩:=q3;obtain ⟨m',hm,w3⟩:=hN Y3 H3 n3;exact ⟨m',hm,Y3,H3,I3,w3⟩
  |cont =>
   obtain ⟨Y3,H3,I3,n3⟩:=q3;obtain ⟨m',hm,w3⟩:=hN Y3 H3 n3;exact ⟨m',hm,Y3,H3,I3,w3⟩
  |brk=>exact q3
  |ret v=>exact q3
 |false =>
  rw[if_neg Bool.false_ne_true];exact wpAny_execs_nil ⟨Y1,H2,I2,q2⟩
end
structure It where
 go:Nat->Hp->Prop
 yld:Nat->Hp->V->Hp->Prop
 stop:Nat->Hp->Prop
def zeE(X:Cx)(pS:List (Addr×Obj))(H:Hp)(b:Addr):Prop :=
 H b=none/\b≠X.env.locals/\b∉X.fs/\(b∈X.ex\/X.s₀.heap.objs.size<=b)/\(∀ x c,X.env.cells.lookup x=some c->c≠b)/\∀ p∈X.pn++pS,p.1≠b
theorem Inv.fpOk{X:Cx}{pS:List (Addr×Obj)}{Y:St}{H H':Hp}{s:Shared}{b:Addr}(I:Inv X pS Y H s)(hb:s.heap.objs.size<=b)(hn:H' b=none):zeE X pS H' b:=by
 refine ⟨hn,Nat.ne_of_gt (was I.lt hb),I.nofs hb,.inr (waN I.sz hb),λx c e z=>?_,λp hp z=>?_⟩
 ·obtain ⟨v,q⟩:=I.cell x c e;exact absurd (was q.lt (by rw[z];exact hb)) (waL _)
 ·exact absurd (was (wai (I.pin p hp).1) (by rw[z];exact hb)) (waL _)
structure zqk(P:Program)(w:World)(K:W.Frag)(tg:Expr)(J:It)(fp:List Addr)(it:Addr)(tn:Nat->Heap->Prop):Prop where
 mem:it∈fp
 obj:∀ i h,tn i h->∀ b∈fp,∃ o,h.get? b=some o/\∀ v,o.data≠.cell v
 keep:∀ i h h',tn i h->(∀ b∈fp,∀ o,h.get? b=some o->h'.get? b=some o)->tn i h'
 item:∀(X:Cx),X.prog=P->X.w=w->X.K=K->X.calm=true->∀(i:Nat)(pS:List (Addr×Obj))(s:Shared)(Y:St)(H:Hp)(E:Value->Shared->Prop),Inv X pS Y H s->(∀ b∈fp,zeE X pS H b)->tn i s.heap->J.go i H ->
  wpAny (model P w) X.A (pyNext (.ref it)) (λr s1=>∃ u,r=some u /\
   wpAny (model P w) X.A (letOwnedTupleGo tg (.ref it) u) (λ_ s2=>∃ x H',Inv X pS Y H' s2/\zby x u/\J.yld i H x H'/\tn (i+1) s2.heap/\∀ b∈fp,H' b=none) E s1) E s
 done:∀(X:Cx),X.prog=P->X.w=w->X.K=K->X.calm=true->∀(i:Nat)(pS:List (Addr×Obj))(s:Shared)(Y:St)(H:Hp)(E:Value->Shared->Prop),Inv X pS Y H s->(∀ b∈fp,zeE X pS H b)->tn i s.heap->J.stop i H ->
  wpAny (model P w) X.A (pyNext (.ref it)) (λr s1=>r=none/\Inv X pS Y H s1) E s
 self:∀(A:Around)(i:Nat)(s:Shared)(Q:Value->Shared->Prop)(E:Value->Shared->Prop),tn i s.heap->Q (.ref it) s->wpAny (model P w) A (pyIter (.ref it)) Q E s
abbrev TI:=St->Hp->(It->Hp->Prop)->Prop
def PIE(X:Cx)(pS:List (Addr×Obj))(Y:St)(tg:Expr)(R:It->Hp->Prop)(itv:Value)(s2:Shared):Prop :=
 ∃(it:Addr)(fp:List Addr)(tn:Nat->Heap->Prop)(J:It)(H':Hp),itv=.ref it/\Inv X pS Y H' s2/\zqk X.prog X.w X.K tg J fp it tn/\tn 0 s2.heap/\(∀ b∈fp,zeE X pS H' b)/\R J H'
def PI(X:Cx)(tg iter:Expr)(wi:TI):Prop :=
 ∀(pS:List (Addr×Obj))(s:Shared)(Y:St)(H:Hp)(R:It->Hp->Prop),Inv X pS Y H s->wi Y H R ->
  wpAny (model X.prog X.w) X.A (eval iter X.env) (λv s1=>wpAny (model X.prog X.w) X.A (pyIter v) (PIE X pS Y tg R) X.xe s1) X.xe s
theorem zts{M:Model}{A:Around}{E:Value->Shared->Prop}{s:Shared}{tg:Expr}{it:Addr}{u:Value}{o:Obj}{n:String}{vs:Array Value}{Q:Unit->Shared->Prop}(ho:s.heap.get? it=some o)(hc:o.cls=.type n)(hd:o.data=.fields vs)
  (hn:["enumerate","zip","dict_itemiterator","dict_reverseitemiterator","odict_iterator","itertools.zip_longest","itertools.pairwise"].contains n=false) (hQ:Q () s):wpAny M A (letOwnedTupleGo tg (.ref it) u) Q E s:=by
 unfold letOwnedTupleGo;cases tg <;> first
  |exact wad hQ
  | (cases u <;> first
    |exact wad hQ
    | (refine wab (wpAny_load ho ?_)
       rw[hc,hd];show wpAny M A (if (["enumerate","zip","dict_itemiterator","dict_reverseitemiterator","odict_iterator","itertools.zip_longest","itertools.pairwise"].contains n && vs[0]? == some (rawInt _))=true then _ else _) Q E s;rw[if_neg (by intro h;rw[hn,Bool.false_and] at h;cases h)];exact wad hQ))
def Itl(K:W.Frag)(a:Addr):It :=
 ⟨λi H=>∃ xs x,SqL K H a xs/\xs[i]? = some x,λi H x H'=>H'=H/\∀ xs,SqL K H a xs->xs[i]? = some x,λi H=>∃ xs,SqL K H a xs/\xs.length<=i⟩
def Itt(K:W.Frag)(a:Addr):It :=
 ⟨λi H=>∃ xs x,SqT K H a xs/\xs[i]? = some x,λi H x H'=>H'=H/\∀ xs,SqT K H a xs->xs[i]? = some x,λi H=>∃ xs,SqT K H a xs/\xs.length<=i⟩
def Itr(lo:Int)(n:Nat):It:=⟨λi _=>i<n,λi H x H'=>H'=H/\x=.int (lo+i),λi _=>n<=i⟩
theorem zo2{P:Program}{w:World}{K:W.Frag}{tg:Expr}(a it:Addr):zqk P w K tg (Itl K a) [it] it (λi h=>h.IsListIter it a i) where
 mem:=by simp
 obj:=λi h st b hb=>by
  have e:b=it:=by simpa using hb
  subst e;obtain ⟨o,e,c,d⟩:=st;exact ⟨o,e,λv z=>by rw[d] at z;cases z⟩
 keep:=λi h h' st k=>st.at λo e=>k it xws o e
 item:=by intro X hP hw hK hc i pS s Y H E I hf st hg;subst hP hw hK;obtain ⟨xs,x,hq,hx⟩:=hg;obtain ⟨its,rv,p,hz⟩:=I.list hq;obtain ⟨u,hu,ru⟩:=rv.get hx;obtain ⟨f0,f1,f2,f3,f4,f5⟩:=hf it xws;refine wpAny_pyNext_list_item st p.isList (x:=u) (by simpa using hu) λh' st' sb=>?_;have I1:Inv X pS Y H { s with heap:=h' }:=I.turned (t':=s.toks) (λb o hb e=>(sb.2 b hb).trans e) f0 f1 f3 f4 f5;obtain ⟨o,e,c,d⟩:=id st';exact ⟨u,rfl,zts (s:={ s with heap:=h' }) e c d xwd ⟨x,H,I1,ru,⟨rfl,λys hy=>by rw[I.list_inj hy hq];exact hx⟩,st',λb hb=>(hf b hb).1⟩⟩
 done:=by intro X hP hw hK hc i pS s Y H E I hf st hg;subst hP hw hK;obtain ⟨xs,hq,hx⟩:=hg;obtain ⟨its,rv,p,hz⟩:=I.list hq;obtain ⟨f0,f1,f2,f3,f4,f5⟩:=hf it xws;have hl:=rv.length;exact wpAny_pyNext_list_end (I.ok.hd hc) st p.isList (by simp;lia) λh' eb=>⟨rfl,I.turned (t':=s.toks) (λb o hb e=>eb b o hb e) f0 f1 f3 f4 f5⟩
 self:=λ_ _ _ _ _ st h=>wpAny_pyIter_listiter st h
theorem zmS{P:Program}{w:World}{K:W.Frag}{tg:Expr}(a it:Addr):zqk P w K tg (Itt K a) [it] it (λi h=>h.IsTupleIter it a i) where
 mem:=by simp
 obj:=λi h st b hb=>by
  have e:b=it:=by simpa using hb
  subst e;obtain ⟨o,e,c,d⟩:=st;exact ⟨o,e,λv z=>by rw[d] at z;cases z⟩
 keep:=λi h h' st k=>st.at λo e=>k it xws o e
 item:=by intro X hP hw hK hc i pS s Y H E I hf st hg;subst hP hw hK;obtain ⟨xs,x,hq,hx⟩:=hg;obtain ⟨its,rv,p,hz⟩:=I.tuple hq;obtain ⟨u,hu,ru⟩:=rv.get hx;obtain ⟨f0,f1,f2,f3,f4,f5⟩:=hf it xws;refine wpAny_pyNext_tuple_item st (show s.heap.IsTuple a its.toArray from p) (x:=u) (by simpa using hu) λh' st' sb=>?_;have I1:Inv X pS Y H { s with heap:=h' }:=I.turned (t':=s.toks) (λb o hb e=>(sb.2 b hb).trans e) f0 f1 f3 f4 f5;obtain ⟨o,e,c,d⟩:=id st';exact ⟨u,rfl,zts (s:={ s with heap:=h' }) e c d xwd ⟨x,H,I1,ru,⟨rfl,λys hy=>by rw[I.tuple_inj hy hq];exact hx⟩,st',λb hb=>(hf b hb).1⟩⟩
 done:=by intro X hP hw hK hc i pS s Y H E I hf st hg;subst hP hw hK;obtain ⟨xs,hq,hx⟩:=hg;obtain ⟨its,rv,p,hz⟩:=I.tuple hq;obtain ⟨f0,f1,f2,f3,f4,f5⟩:=hf it xws;have hl:=rv.length;exact wpAny_pyNext_tuple_end (I.ok.hd hc) st (show s.heap.IsTuple a its.toArray from p) (by simp;lia) λh' eb=>⟨rfl,I.turned (t':=s.toks) (λb o hb e=>eb b o hb e) f0 f1 f3 f4 f5⟩
 self:=λ_ _ _ _ _ st h=>wpAny_pyIter_tupleiter st h
theorem zmA{P:Program}{w:World}{K:PySem.W.Frag}{tg:Expr}(it:Addr)(lo:Int)(n:Nat):zqk P w K tg (Itr lo n) [it] it (λi h=>IsRangeIter h it (lo+(i:Nat) * 1) ((n:Int)-(i:Nat)) 1) where
 mem:=by simp
 obj:=λi h st b hb=>by
  have e:b=it:=by simpa using hb
  subst e;exact ⟨_,st,λv z=>by have z':Data.fields _=Data.cell v:=z;cases z'⟩
 keep:=λi h h' st k=>k it xws _ st
 item:=by intro X hP hw hK hc i pS s Y H E I hf st hg;subst hP hw hK;obtain ⟨f0,f1,f2,f3,f4,f5⟩:=hf it xws;have W:=Walks.range (prog:=X.prog) (w:=X.w) (I.ok.hd hc) it lo 1 n;refine W.item i s _ _ hg st λv h' tk hv st' kk=>?_;obtain ⟨t,rfl⟩:=hv;have I1:Inv X pS Y H { s with heap:=h',toks:=tk }:=I.turned (λb o hb e=>kk b o (by simpa using hb) e) f0 f1 f3 f4 f5;refine ⟨_,rfl,zts (s:={ s with heap:=h',toks:=tk }) (n:="range_iterator") st' rfl rfl xwd ⟨.int (lo+i),H,I1,⟨t,?_⟩,⟨rfl,rfl⟩,st',λb hb=>(hf b hb).1⟩⟩;rw[Int.mul_one]
 done:=by intro X hP hw hK hc i pS s Y H E I hf st hg;subst hP hw hK;obtain ⟨f0,f1,f2,f3,f4,f5⟩:=hf it xws;exact wpAny_pyNext_range_end (I.ok.hd hc) st (by have:n<=i:=hg;lia) λh' eb=>⟨rfl,I.turned (t':=s.toks) (λb o hb e=>eb b o hb e) f0 f1 f3 f4 f5⟩
 self:=λ_ _ _ _ _ st h=>wpAny_pyIter_rangeiter st h
end L2
namespace L2
open PySem PySem.Spec PyProof.Rows
section
variable{X:Cx}{tg:Expr}
def zwE(K:W.Frag)(tl:TE):TI:=λY H R=>tl Y H λx H1=>∃ a,x=.ref a/\(∃ xs,SqL K H1 a xs)/\R (Itl K a) H1
def iTup(K:W.Frag)(tl:TE):TI:=λY H R=>tl Y H λx H1=>∃ a,x=.ref a/\(∃ xs,SqT K H1 a xs)/\R (Itt K a) H1
theorem zsX{l:Expr}{tl:TE}(hl:PE X l tl):PI X tg l (zwE X.K tl):=by
 intro pS s Y H R I h;refine thn (hl pS s Y H _ I h) λv s1 ⟨x,H1,I1,r1,q1⟩=>?_;obtain ⟨a,e,⟨xs,hq⟩,q⟩:=q1;subst e;cases r1;obtain ⟨its,rv,p,hz⟩:=I1.list hq;refine wpAny_pyIter_list p.isList ?_;refine ⟨s1.heap.objs.size,[s1.heap.objs.size],_,_,H1,rfl,I1.kept (t':=s1.toks) λb o e=>waa _ e,zo2 a _,⟨_,waj _ rfl,rfl,rfl⟩,λb hb=>?_,q⟩;have e:b=s1.heap.objs.size:=by simpa using hb
 subst e;exact I1.fpOk (wal _) (I1.hok.fresh (wal _))
theorem zuP{l:Expr}{tl:TE}(hl:PE X l tl):PI X tg l (iTup X.K tl):=by
 intro pS s Y H R I h;refine thn (hl pS s Y H _ I h) λv s1 ⟨x,H1,I1,r1,q1⟩=>?_;obtain ⟨a,e,⟨xs,hq⟩,q⟩:=q1;subst e;cases r1;obtain ⟨its,rv,p,hz⟩:=I1.tuple hq;refine wpAny_pyIter_tuple (show s1.heap.IsTuple a its.toArray from p) ?_;refine ⟨s1.heap.objs.size,[s1.heap.objs.size],_,_,H1,rfl,I1.kept (t':=s1.toks) λb o e=>waa _ e,zmS a _,⟨_,waj _ rfl,rfl,rfl⟩,λb hb=>?_,q⟩;have e:b=s1.heap.objs.size:=by simpa using hb
 subst e;exact I1.fpOk (wal _) (I1.hok.fresh (wal _))
theorem zqW{pS:List (Addr×Obj)}{Y:St}{H:Hp}{s:Shared}{R:It->Hp->Prop}{E:Value->Shared->Prop}{lo hi:Int}{t u v:Tok}{tk:Nat}(I:Inv X pS Y H s)(h1:-(2 ^ 62)<=lo)(h2:lo<2 ^ 62)(h3:-(2 ^ 62)<=hi)(h4:hi<2 ^ 62)
  (q:R (Itr lo (hi-lo).toNat) H):wpAny (model X.prog X.w) X.A (pyIter (.ref s.heap.objs.size)) (PIE X pS Y tg R) E { s with heap:=s.heap.push { cls:=.type "range",data:=.fields #[.int lo t,.int hi u,.int 1 v] },toks:=tk }:=by
 refine wpAny_pyIter_range (IsRange.new ..) (small_one h1 h2 h3 h4) ?_;have I1:Inv X pS Y H { s with heap:=s.heap.push { cls:=.type "range",data:=.fields #[.int lo t,.int hi u,.int 1 v] },toks:=tk }:=I.kept λb o e=>waa _ e;refine ⟨(s.heap.push { cls:=.type "range",data:=.fields #[.int lo t,.int hi u,.int 1 v] }).objs.size,[(s.heap.push { cls:=.type "range",data:=.fields #[.int lo t,.int hi u,.int 1 v] }).objs.size],_,_,H,rfl,
  I1.kept (t':=tk) λb o e=>waa _ e,zmA _ lo (hi-lo).toNat,?_,λb hb=>?_,q⟩
 ·have e1:lo+((0:Nat):Int) * 1=lo:=by simp
  have e2:(((hi-lo).toNat:Nat):Int)-((0:Nat):Int)=Builtin.Range.rangeSize lo hi 1:=by rw[rangeSize_one];split <;> lia
  show IsRangeIter _ _ (lo+((0:Nat):Int) * 1) ((((hi-lo).toNat:Nat):Int)-((0:Nat):Int)) 1;rw[e1,e2];exact waj _ rfl
 ·have e:b=(s.heap.push { cls:=.type "range",data:=.fields #[.int lo t,.int hi u,.int 1 v] }).objs.size:=by simpa using hb
  subst e;exact I1.fpOk (wal _) (I1.hok.fresh (wal _))
def zwN(ta:TA):TI:=λY H R=>ta Y H λvs H1=>∃ j:Int,vs=[.int j]/\-(2 ^ 62)<=j/\j<2 ^ 62/\R (Itr 0 j.toNat) H1
theorem zoB{a:Expr}{ta:TA}{p pos:Pos}(hg:Gl X "range")(hm:X.mg "range"=none)(ha:PA X [a] ta)(hs:starEach [a] X.env=[(false,eval a X.env)]:=by rfl):PI X tg (.Call (.Name "range" p) [a] [] pos) (zwN ta):=by
 intro pS s Y H R I h;refine Call_ (zdq I hg hm boot_range (PyProof.Rows.callWith_type1 (thn (ha pos pS s Y H _ I h) λus s1 ⟨vs,H1,I1,r1,q1⟩=>?_) hs rfl));obtain ⟨j,e,q1,q2,q⟩:=q1;subst e;cases r1 with
 |cons r rr =>
  cases rr;obtain ⟨t,rfl⟩:=r;exact call_range_1 (zqW I1 xwl xwl q1 q2 (by simpa using q))
def tFor(wi:TI)(g:TG)(tb:TS):TS:=λD Y H=>wi Y H λJ H1=>∃ W:Nat->Nat->St->Hp->Prop,(∃ m,W 0 m Y H1)/\∀ i m Y H,W i m Y H ->
 (J.stop i H/\D.nx Y H)\/(J.go i H/\∃ N:St->Hp->Prop,(∀ Y' H',N Y' H'->∃ m',m'<m/\W (i+1) m' Y' H')/\∀ x H',J.yld i H x H'->g x Y H' λY2 H2=>tb { D with nx:=N,ct:=N,bk:=D.nx } Y2 H2)
def zeM(fp:List Addr)(h:Heap):List (Addr×Obj):=fp.filterMap λb=>(h.get? b).map λo=>(b,o)
theorem zdX{fp:List Addr}{h:Heap}{b:Addr}{o:Obj}(hb:b∈fp)(e:h.get? b=some o):(b,o)∈zeM fp h:=List.mem_filterMap.mpr ⟨b,hb,by rw[e];rfl⟩
theorem zoV{fp:List Addr}{h:Heap}{p:Addr×Obj}(hp:p∈zeM fp h):p.1∈fp/\h.get? p.1=some p.2:=by
 obtain ⟨b,hb,e⟩:=List.mem_filterMap.mp hp;cases q:h.get? b with
 |none=>rw[q] at e;cases e
 |some o =>
  rw[q] at e;have e':(b,o)=p:=waA e;subst e';exact ⟨hb,q⟩
theorem Inv.pinned{pS:List (Addr×Obj)}{Y:St}{H:Hp}{s:Shared}{fp:List Addr}(I:Inv X pS Y H s)(hf:∀ b∈fp,zeE X pS H b)(ho:∀ b∈fp,∃ o,s.heap.get? b=some o/\∀ v,o.data≠.cell v):Inv X (pS++zeM fp s.heap) Y H s :=
 I.pins_of λp hp=>(wax.mp hp).elim (λz=>I.pin p (waz _ z)) λz=>by obtain ⟨hb,e⟩:=zoV z;obtain ⟨f0,f1,f2,_⟩:=hf p.1 hb;obtain ⟨o,e',d⟩:=ho p.1 hb;rw[e] at e';cases e';exact ⟨e,f0,f1,f2,d⟩
theorem Inv.unpinned{pS pl:List (Addr×Obj)}{Y:St}{H:Hp}{s:Shared}(I:Inv X (pS++pl) Y H s):Inv X pS Y H s:=I.pins_of λp hp=>I.pin p (waz _ (waR _ hp))
theorem zvX{iter:Expr}{body:List Stmt}{wi:TI}{g:TG}{tb:TS}{pos:Pos}(hp:PassesOwn (model X.prog X.w) X.A X.env X.xe)(hc:X.calm=true)(hi:PI X tg iter wi)(hg:PG X tg g)(hb:PSs X body tb)
  (hs:∀ x,foldedSetIterable iter X.env x=pure x:=by intro _;rfl):PS X (.For tg iter body [] pos) (tFor wi g tb):=by
 intro pS s Y H D I h;refine wpAny_For (thn (hi pS s Y H _ I h) λv s1 h1=>thn h1 λitv s2 h2=>?_) hs;obtain ⟨it,fp,tn,J,H2,e,I2,T,st2,f2,W,⟨m0,w0⟩,turn⟩:=h2;subst e;have stat:∀{H':Hp},(∀ b∈fp,H' b=none)->∀ b∈fp,zeE X pS H' b:=λhn b hb=>⟨hn b hb,(f2 b hb).2⟩
 refine codeAny_forLoop_any (λn s'=>∃ i Y' H',Inv X pS Y' H' s'/\tn i s'.heap/\(∀ b∈fp,H' b=none)/\W i n Y' H') ?_ m0 ⟨0,Y,H2,I2,st2,λb hb=>(f2 b hb).1,w0⟩;rintro n s3 ⟨i,Y3,H3,I3,st3,fr3,w3⟩;rcases turn i n Y3 H3 w3 with ⟨stop,qn⟩|⟨go,N,hN,step⟩
 ·refine wpAny_passesOwn hp (thn (T.done X rfl rfl rfl hc i pS s3 Y3 H3 X.xe I3 (stat fr3) st3 stop) λr s4 ⟨hr,I4⟩=>?_);subst hr;exact wpAny_execs_nil ⟨Y3,H3,I4,qn⟩
 ·refine wpAny_passesOwn hp (thn (T.item X rfl rfl rfl hc i pS s3 Y3 H3 X.xe I3 (stat fr3) st3 go) λr s4 ⟨u,hr,h4⟩=>?_);subst hr;refine wpAny_passesOwn hp (thn h4 λ_ s5 ⟨x,H5,I5,r5,y5,st5,fr5⟩=>?_);have I5':=I5.pinned (stat fr5) (T.obj _ _ st5);refine wpAny_passesOwn hp (thn (hg _ s5 Y3 H5 x u _ I5' r5 (step x H5 y5)) λ_ s6 ⟨Y6,H6,I6,q6⟩=>?_);refine wpAny_passesOwn hp (thn (hb _ s6 Y6 H6 _ I6 q6) λf s7 q7=>?_);have again:∀{Y7:St}{H7:Hp},Inv X (pS++zeM fp s5.heap) Y7 H7 s7->N Y7 H7->∃ m,m<n/\∃ i Y' H',Inv X pS Y' H' s7/\tn i s7.heap/\(∀ b∈fp,H' b=none)/\W i m Y' H':=λ{Y7 H7} I7 n7=>by obtain ⟨m',hm,w7⟩:=hN Y7 H7 n7;refine ⟨m',hm,i+1,Y7,H7,I7.unpinned,T.keep _ _ _ st5 λb hb o e=>(I7.pin (b,o) (waz _ (waz _ (zdX hb e)))).1,λb hb=>?_,w7⟩;obtain ⟨o,e,d⟩:=T.obj _ _ st5 b hb;exact (I7.pin (b,o) (waz _ (waz _ (zdX hb e)))).2.1
  cases f with
  |next=>obtain ⟨Y7,H7,I7,n7⟩:=q7;exact again I7 n7
  |cont=>obtain ⟨Y7,H7,I7,n7⟩:=q7;exact again I7 n7
  |brk=>obtain ⟨Y7,H7,I7,q7⟩:=q7;exact ⟨Y7,H7,I7.unpinned,q7⟩
  |ret v=>obtain ⟨x7,Y7,H7,I7,r7,q7⟩:=q7;exact ⟨x7,Y7,H7,I7.unpinned,r7,q7⟩
end
end L2
namespace L2
open PySem PySem.Spec PyProof.Rows
abbrev R2:=V->V->Hp->VK->Prop
def OpR(X:Cx)(f:Value->Value->Sem Value)(r:R2):Prop :=
 ∀(pS:List (Addr×Obj))(s:Shared)(Y:St)(H:Hp)(x y:V)(v u:Value)(Q:VK),Inv X pS Y H s->zby x v->zby y u->r x y H Q ->
  wpAny (model X.prog X.w) X.A (f v u) (EP X pS Y Q) X.xe s
def UnR(X:Cx)(f:Value->Sem Value)(r:V->Hp->VK->Prop):Prop :=
 ∀(pS:List (Addr×Obj))(s:Shared)(Y:St)(H:Hp)(x:V)(v:Value)(Q:VK),Inv X pS Y H s->zby x v->r x H Q ->
  wpAny (model X.prog X.w) X.A (f v) (EP X pS Y Q) X.xe s
def zcd(X:Cx)(f:Value)(r:List V->Hp->VK->Prop):Prop :=
 ∀(pS:List (Addr×Obj))(s:Shared)(Y:St)(H:Hp)(xs:List V)(us:List Value)(Q:VK),Inv X pS Y H s->zaR xs us->r xs H Q ->
  wpAny (model X.prog X.w) X.A (call f us) (EP X pS Y Q) X.xe s
def tOp(r:R2)(ta tb:TE):TE:=λY H Q=>ta Y H λx H1=>tb Y H1 λy H2=>r x y H2 Q
def tUn(r:V->Hp->VK->Prop)(ta:TE):TE:=λY H Q=>ta Y H λx H1=>r x H1 Q
def rI(C:Int->Int->Prop)(g:Int->Int->V):R2:=λx y H Q=>∃ i j,x=.int i/\y=.int j/\C i j/\Q (g i j) H
def rI0(g:Int->Int->V):R2:=λx y H Q=>∃ i j,x=.int i/\y=.int j/\Q (g i j) H
def rU(g:Int->V):V->Hp->VK->Prop:=λx H Q=>∃ i,x=.int i/\Q (g i) H
section
variable{X:Cx}{a b c:Expr}{ta tb tc:TE}{pos:Pos}
theorem zw4(ha:PE X a ta)(hb:PE X b tb){pS:List (Addr×Obj)}{s:Shared}{Y:St}{H:Hp}{R:V->V->Hp->Prop}(I:Inv X pS Y H s)
  (h:ta Y H λx H1=>tb Y H1 λy H2=>R x y H2) {Q:Value->Shared->Prop} {f:Value->Value->Sem Value}
  (hf:∀ v u s2 x y H2,Inv X pS Y H2 s2->zby x v->zby y u->R x y H2->wpAny (model X.prog X.w) X.A (f v u) Q X.xe s2) :
  wpAny (model X.prog X.w) X.A (eval a X.env) (λv s₁=>wpAny (model X.prog X.w) X.A (eval b X.env) (λu s₂=>wpAny (model X.prog X.w) X.A (f v u) Q X.xe s₂) X.xe s₁) X.xe s:=by
 refine thn (ha pS s Y H _ I h) λv s1 ⟨x,H1,I1,r1,q1⟩=>?_;refine thn (hb pS s1 Y H1 _ I1 q1) λu s2 ⟨y,H2,I2,r2,q2⟩=>?_;exact hf v u s2 x y H2 I2 r1 r2 q2
theorem zvc{op:Operator}{r:R2}(ho:OpR X (binaryOp op) r)(ha:PE X a ta)(hb:PE X b tb):PE X (.BinOp a op b pos) (tOp r ta tb):=by intro pS s Y H Q I h;exact wpAny_BinOp (zw4 ha hb I h λv u s2 x y H2 I2 rx ry q=>ho pS s2 Y H2 x y v u Q I2 rx ry q)
theorem zvI{op:UnaryOp}{r:V->Hp->VK->Prop}(ho:UnR X (unaryOp op) r)(ha:PE X a ta):PE X (.UnaryOp op a pos) (tUn r ta):=by intro pS s Y H Q I h;exact UnaryOp_ (thn (ha pS s Y H _ I h) λv s1 ⟨x,H1,I1,r1,q1⟩=>ho pS s1 Y H1 x v Q I1 r1 q1)
theorem opI{f:Value->Value->Sem Value}{C:Int->Int->Prop}{g:Int->Int->Int}
  (rule:∀(i j:Int)(t u:Tok)(s:Shared)(Q:Value->Shared->Prop)(E:Value->Shared->Prop),C i j->Q (.int (g i j) s.toks) { s with toks:=s.toks+1 }->wpAny (model X.prog X.w) X.A (f (.int i t) (.int j u)) Q E s) :
  OpR X f (rI C λi j=>.int (g i j)):=by
 intro pS s Y H x y v u Q I rx ry h;obtain ⟨i,j,rfl,rfl,hc,q⟩:=h;obtain ⟨t,rfl⟩:=rx;obtain ⟨t',rfl⟩:=ry;exact rule i j t t' s _ _ hc ⟨.int (g i j),H,I.tok _,⟨_,rfl⟩,q⟩
theorem opI0{f:Value->Value->Sem Value}{g:Int->Int->Int}
  (rule:∀(i j:Int)(t u:Tok)(s:Shared)(Q:Value->Shared->Prop)(E:Value->Shared->Prop),Q (.int (g i j) s.toks) { s with toks:=s.toks+1 }->wpAny (model X.prog X.w) X.A (f (.int i t) (.int j u)) Q E s) :
  OpR X f (rI0 λi j=>.int (g i j)):=by
 intro pS s Y H x y v u Q I rx ry h;obtain ⟨i,j,rfl,rfl,q⟩:=h;obtain ⟨t,rfl⟩:=rx;obtain ⟨t',rfl⟩:=ry;exact rule i j t t' s _ _ ⟨.int (g i j),H,I.tok _,⟨_,rfl⟩,q⟩
theorem zwq{f:Value->Value->Sem Value}{g:Int->Int->Bool}
  (rule:∀(i j:Int)(t u:Tok)(s:Shared)(Q:Value->Shared->Prop)(E:Value->Shared->Prop),Q (.bool (g i j)) s->wpAny (model X.prog X.w) X.A (f (.int i t) (.int j u)) Q E s) :
  OpR X f (rI0 λi j=>.bl (g i j)):=by
 intro pS s Y H x y v u Q I rx ry h;obtain ⟨i,j,rfl,rfl,q⟩:=h;obtain ⟨t,rfl⟩:=rx;obtain ⟨t',rfl⟩:=ry;exact rule i j t t' s _ _ ⟨.bl (g i j),H,I,rfl,q⟩
def CDiv(i j:Int):Prop:=0<j/\j<1073741824
def CPow(i j:Int):Prop:=0<=j/\j<=1000000/\i.natAbs<2 ^ 64
def zwl(i j:Int):Prop:=(-(2 ^ 64)<i/\i<2 ^ 64)\/(-(2 ^ 64)<j/\j<2 ^ 64)
theorem zwl.ok{i j:Int}(h:zwl i j):IntMulOk i j:=by
 rcases h with ⟨h1,h2⟩|⟨h1,h2⟩
 ·exact .of_left (intBits_le_64 h1 h2)
 ·exact .of_right (intBits_le_64 h1 h2)
theorem zvh:OpR X (binaryOp .Add) (rI0 λi j=>.int (i+j)):=opI0 λ_ _ _ _ _ _ _ q=>add_int q
theorem zuE:OpR X (binaryOp .Sub) (rI0 λi j=>.int (i-j)):=opI0 λ_ _ _ _ _ _ _ q=>sub_int q
theorem zu8:OpR X (binaryOp .Mult) (rI zwl λi j=>.int (i * j)):=opI λ_ _ _ _ _ _ _ hc q=>mul_int q hc.ok
theorem zs6:OpR X (binaryOp .FloorDiv) (rI CDiv λi j=>.int (i / j)):=opI λi j _ _ _ _ _ hc q=>by have h1:(0:Int)<j:=hc.1;have h2:j<1073741824:=hc.2;exact floordiv_int xwl (by rw[Int.fdiv_eq_ediv_of_nonneg i xwl];exact q) (.inl (PyProof.noPylong_small xwl))
theorem zvp:OpR X (binaryOp .Mod) (rI (λ_ j=>0<j) λi j=>.int (i % j)):=opI λi j _ _ _ _ _ hc q=>by have h1:(0:Int)<j:=hc;exact mod_int' xwl (by rw[Int.fmod_eq_emod_of_nonneg i xwl];exact q)
theorem zwi:OpR X (binaryOp .Pow) (rI CPow λi j=>.int (i ^ j.toNat)):=opI λ_ _ _ _ _ _ _ hc q=>pow_int_small hc.1 hc.2.1 hc.2.2 q
theorem unI{f:Value->Sem Value}{g:Int->Int}
  (rule:∀(i:Int)(t:Tok)(s:Shared)(Q:Value->Shared->Prop)(E:Value->Shared->Prop),Q (.int (g i) s.toks) { s with toks:=s.toks+1 }->wpAny (model X.prog X.w) X.A (f (.int i t)) Q E s) :
  UnR X f (rU λi=>.int (g i)):=by
 intro pS s Y H x v Q I rx h;obtain ⟨i,rfl,q⟩:=h;obtain ⟨t,rfl⟩:=rx;exact rule i t s _ _ ⟨.int (g i),H,I.tok _,⟨_,rfl⟩,q⟩
theorem zrK:UnR X (unaryOp .USub) (rU λi=>.int (-i)):=unI λ_ _ _ _ _ q=>neg_int q
end
section
variable{X:Cx}{a b c:Expr}{ta tb tc:TE}{pos:Pos}
theorem zuK:OpR X (compareOp .Lt) (rI0 λi j=>.bl (decide (i<j))):=zwq λ_ _ _ _ _ _ _ q=>lt_int q
theorem zwO:OpR X (compareOp .LtE) (rI0 λi j=>.bl (decide (i<=j))):=zwq λ_ _ _ _ _ _ _ q=>le_int q
theorem zwR:OpR X (compareOp .Gt) (rI0 λi j=>.bl (decide (j<i))):=zwq λ_ _ _ _ _ _ _ q=>gt_int q
theorem zwH:OpR X (compareOp .GtE) (rI0 λi j=>.bl (decide (j<=i))):=zwq λ_ _ _ _ _ _ _ q=>ge_int q
theorem OpR.or{f:Value->Value->Sem Value}{r r':R2}(h:OpR X f r)(h':OpR X f r'):OpR X f (λx y H Q=>r x y H Q\/r' x y H Q):=by
 intro pS s Y H x y v u Q I rx ry q;rcases q with q|q
 ·exact h pS s Y H x y v u Q I rx ry q
 ·exact h' pS s Y H x y v u Q I rx ry q
theorem zhe(b:Expr){op:CmpOp}(h:op≠.In:=by decide)(h2:op≠.NotIn:=by decide):behindInMarks op b=false:=by
 have e1:(op == CmpOp.In)=false:=by cases op <;> first|rfl|exact absurd rfl h
 have e2:(op == CmpOp.NotIn)=false:=by cases op <;> first|rfl|exact absurd rfl h2
 cases b <;> simp[behindInMarks,e1,e2]
theorem zsy{op:CmpOp}{r:R2}(ho:OpR X (compareOp op) r)(ha:PE X a ta)(hb:PE X b tb)(hm:behindInMarks op b=false):PE X (.Compare a [op] [b] pos) (tOp r ta tb):=by intro pS s Y H Q I h;exact wpAny_Compare1 (zw4 ha hb I h λv u s2 x y H2 I2 rx ry q=>ho pS s2 Y H2 x y v u Q I2 rx ry q) hm
def zw3(t:TE):TT:=λY H Q=>t Y H λx H'=>∃ k,x=.bl k/\Q k H'
theorem zo0{op:CmpOp}{r:R2}(ho:OpR X (compareOp op) r)(ha:PE X a ta)(hb:PE X b tb)(hm:behindInMarks op b=false):PT X (.Compare a [op] [b] pos) (zw3 (tOp r ta tb)):=by
 intro pS s Y H Q I h;refine wpAny_isTrue_Compare1 (thn (ha pS s Y H _ I h) λv s1 ⟨x,H1,I1,r1,q1⟩=>thn (hb pS s1 Y H1 _ I1 q1) λu s2 ⟨y,H2,I2,r2,q2⟩ =>
  thn (ho pS s2 Y H2 x y v u _ I2 r1 r2 q2) λc s3 ⟨z,H3,I3,r3,k,e,q3⟩=>?_) hm
 subst e;cases r3;exact wpAny_truthy_bool ⟨H3,I3,q3⟩
def zrM(r r':R2)(ta tb tc:TE):TE:=λY H Q=>ta Y H λx H1=>tb Y H1 λy H2=>r x y H2 λz H3=>∃ k,z=.bl k /\
 (if k=true then tc Y H3 λw' H4=>r' y w' H4 Q else Q (.bl false) H3)
theorem zqy{op op':CmpOp}{r r':R2}(ho:OpR X (compareOp op) r)(ho':OpR X (compareOp op') r')(ha:PE X a ta)(hb:PE X b tb)(hc:PE X c tc)
  (hm:lastMarks [op,op'] [b,c]=false:=by with_unfolding_all rfl):PE X (.Compare a [op,op'] [b,c] pos) (zrM r r' ta tb tc):=by
 intro pS s Y H Q I h;refine Compare_chain (thn (ha pS s Y H _ I h) λv s1 ⟨x,H1,I1,r1,q1⟩=>chain_link (thn (hb pS s1 Y H1 _ I1 q1) λu s2 ⟨y,H2,I2,r2,q2⟩ =>
  thn (ho pS s2 Y H2 x y v u _ I2 r1 r2 q2) λd s3 ⟨z,H3,I3,r3,k,e,q3⟩=>?_)) hm
 subst e;cases r3;refine wpAny_truthy_bool ?_;cases k with
 |false=>exact ite_ff ⟨.bl false,H3,I3,rfl,q3⟩
 |true=>exact ite_tt (chain_last (thn (hc pS s3 Y H3 _ I3 q3) λw' s4 ⟨z',H4,I4,r4,q4⟩=>ho' pS s4 Y H4 y z' u w' Q I4 r2 r4 q4))
theorem zkc:(sizeLine:Nat)<2 ^ 63:=by rw[sizeLine_eq];decide
theorem zcG{x:V}{us:List Value}(r:zaR [x] us):∃ u,us=[u]/\zby x u:=by
 cases r with
 |cons r1 r2=>cases r2;exact ⟨_,rfl,r1⟩
theorem zpP{x y:V}{us:List Value}(r:zaR [x,y] us):∃ u w',us=[u,w']/\zby x u/\zby y w':=by
 cases r with
 |cons r1 r2 =>
  cases r2 with
  |cons r3 r4=>cases r4;exact ⟨_,_,rfl,r1,r3⟩
theorem zob(hc:X.calm=true):zcd X (.builtin "max") (λxs H Q=>∃ i j,xs=[.int i,.int j]/\Q (.int (if j > i then j else i)) H):=by
 intro pS s Y H xs us Q I r h;obtain ⟨i,j,rfl,q⟩:=h;obtain ⟨u,w',rfl,⟨t,rfl⟩,⟨t',rfl⟩⟩:=zpP r;refine max_two_ints (I.ok.hd hc) λh' tk k=>⟨_,H,I.kept k,?_,q⟩
 by_cases hj:j > i
 ·rw[if_pos hj,if_pos hj];exact ⟨_,rfl⟩
 ·rw[if_neg hj,if_neg hj];exact ⟨_,rfl⟩
theorem zn3(hc:X.calm=true):zcd X (.builtin "min") (λxs H Q=>∃ i j,xs=[.int i,.int j]/\Q (.int (if j<i then j else i)) H):=by
 intro pS s Y H xs us Q I r h;obtain ⟨i,j,rfl,q⟩:=h;obtain ⟨u,w',rfl,⟨t,rfl⟩,⟨t',rfl⟩⟩:=zpP r;refine min_two_ints (I.ok.hd hc) λh' tk k=>⟨_,H,I.kept k,?_,q⟩
 by_cases hj:j<i
 ·rw[if_pos hj,if_pos hj];exact ⟨_,rfl⟩
 ·rw[if_neg hj,if_neg hj];exact ⟨_,rfl⟩
end
end L2
namespace L2
open PySem PySem.Spec PyProof.Rows
structure ObjM(h:Heap)(x dx C:Addr)(mA:Str->Option Value):Prop where
 obj:h.get? x=some (W.instObj C dx)
 ns:h.Ns1 dx mA
 ne:dx≠x
section
variable{prog:Program}{w:World}{A:Around}{E:Value->Shared->Prop}{s:Shared}{K:W.Frag}{x dx C f:Addr}{mA:Str->Option Value}{name:Str}{v:Value}
end
section
variable{P:Program}{w:World}{H H':Hp}{h h':Heap}{a C dx:Addr}{fs fs':List (Str×V)}
end
structure Cls(K:W.Frag)(C:Addr):Prop where
 pg:W.plainGet K C Str.empty=true
 hd:W.hasDictIn K C=true
 po:W.plainOver K C=true
 sa:W.findIn K (.ref C) "__setattr__"=some (some (.builtin "object.__setattr__"))
theorem Cls.get{K:W.Frag}{C:Addr}(c:Cls K C)(f:Str):W.plainGet K C f=true:=c.pg
structure Con(K:W.Frag)(C:Addr)(f:Str)(v:V)(u:Value):Prop where
 at_:W.findIn K (.ref C) f=some (some u)
 rel:zby v u
 get:W.specialIn K u "__get__"=some none
 cp:W.copiedNames.contains f=false
structure Meth(K:W.Frag)(C:Addr)(m:Str)(f:Addr):Prop where
 at_:W.findIn K (.ref C) m=some (some (.ref f))
 fn:W.isFn K (.ref f)=true
 kp:W.keepIn K (.ref f)=true
section
variable{X:Cx}{pS:List (Addr×Obj)}{Y:St}{H:Hp}{s:Shared}{a C dx:Addr}{fs:List (Str×V)}{f:Str}{v:V}{A:Around}{E:Value->Shared->Prop}
theorem Inv.made(I:Inv X pS Y H s):Inv X pS Y (upd (upd H s.heap.objs.size (.own (s.heap.objs.size+1))) (s.heap.objs.size+1) (.ins C s.heap.objs.size []))
  { s with heap:=(s.heap.push W.emptyDict).push (W.instObj C s.heap.objs.size) }:=by
 have e1:(s.heap.push W.emptyDict).get? s.heap.objs.size=some W.emptyDict:=waj s.heap rfl;have e2:((s.heap.push W.emptyDict).push (W.instObj C s.heap.objs.size)).get? (s.heap.objs.size+1)=some (W.instObj C s.heap.objs.size):=by have:=waj (s.heap.push W.emptyDict) (o:=W.instObj C s.heap.objs.size) rfl;rwa [Heap.size_push] at this
 have e3:(s.heap.push W.emptyDict).Ns s.heap.objs.size (λ_=>none):=⟨W.emptyDict,#[],_,e1,rfl,(λe he=>absurd he xws),λ_=>rfl⟩
 have I1:=I.laid (a:=s.heap.objs.size) (o:=.own (s.heap.objs.size+1)) (h':=s.heap.push W.emptyDict) (t':=s.toks) (λb u q=>waa _ q) (wal _) ⟨_,e1⟩;refine I1.laid (a:=s.heap.objs.size+1) (o:=.ins C s.heap.objs.size []) (t':=s.toks) (λb u q=>waa _ q) (Nat.le_of_eq (Heap.size_push _ _)) ?_;have ne:s.heap.objs.size≠s.heap.objs.size+1:=waM (Nat.lt_succ_self _);refine ⟨by rw[zar ne,za1],Nat.zero_le _,ne,e2,λ_=>none,(Heap.Ns1.of_empty e3).at λo q=>waa _ q,λ_=>True.intro,λy hy=>absurd rfl hy⟩
end
section
variable{X:Cx}{o e value:Expr}{f:Str}{pos pos' tpos:Pos}{ta tv:TE}
end
section
variable{X:Cx}{pS:List (Addr×Obj)}{Y:St}{H:Hp}{s:Shared}{A:Around}{E:Value->Shared->Prop}{Q:Value->Shared->Prop}{c:Value}{b:Bool}
inductive zov(K:W.Frag)(H:Hp):V->Value->Prop where
 |non:zov K H .non (.type "NoneType")
 |bl (x:Bool):zov K H (.bl x) (.type "bool")
 |int (i:Int):zov K H (.int i) (.type "int")
 |str (x:Str):zov K H (.str x) (.type "str")
 |flt (x:UInt64):zov K H (.flt x) (.type "float")
 |lst {a:Addr} {xs:List V} (e:H a=some (.lst xs)):zov K H (.ref a) (.type "list")
 |frz {a:Addr} {o:Obj} {xs:List V} (e:H a=some (.frz o (.lst xs))):zov K H (.ref a) (.type "list")
 |tup {a:Addr} {xs:List V} (e:H a=some (.tup xs)):zov K H (.ref a) (.type "tuple")
 |dK {a:Addr} {kvs:List (Key×V)} (e:H a=some (.dK kvs)):zov K H (.ref a) (.type "dict")
 |dT {a:Addr} {kvs:List (List Key×V)} (e:H a=some (.dT kvs)):zov K H (.ref a) (.type "dict")
 |ins {a C dx:Addr} {fs:List (Str×V)} (e:H a=some (.ins C dx fs)) (cl:Cls K C) (ha:W.findIn K (.ref C) "__class__"=some (some (.builtin "object.__class__")))
   (hn:W.specialIn K (.builtin "object.__class__") "__get__"=some (some (.builtin "getset_descriptor.__get__"))) (htk:W.takesIn K (.builtin "object.__class__")=some true)
   (hm:W.mroIn K C (.type "object")=some true):zov K H (.ref a) (.ref C)
end
end L2
namespace L2
open PySem PySem.Spec PyProof.Rows
structure zew(k:Nat)(A:Around):Prop where
 hd:A.handled=none
 dp:A.depth+3 * k+5<recursionLimit
 un:A.units+16 * k+200<cLine
theorem zew.mono{j k:Nat}{A:Around}(r:zew k A)(h:j<=k):zew j A:=⟨r.hd,by have:=r.dp;lia,by have:=r.un;lia⟩
theorem zew.deeper{k:Nat}{A:Around}(r:zew (k+1) A)(env:Env):zew k (A.deeper env) :=
 ⟨r.hd,by have:=r.dp;show A.depth+1+3 * k+5<_;lia,by have:=r.un;show A.units+3+16 * k+200<_;lia⟩
theorem zew.in1{k:Nat}{A:Around}(r:zew (k+1) A):zew k A.in1 :=
 ⟨r.hd,by have:=r.dp;show A.depth+3 * k+5<_;lia,by have:=r.un;show A.units+1+16 * k+200<_;lia⟩
theorem zew.depth{k:Nat}{A:Around}(r:zew k A):A.depth<recursionLimit:=by have:=r.dp;lia
theorem zew.units{k:Nat}{A:Around}(r:zew k A):A.units+64<cLine:=by have:=r.un;lia
def tNil:TA:=λ_ H Q=>Q [] H
def zuN(ta:TE)(tr:TA):TA:=λY H Q=>ta Y H λx H1=>tr Y H1 λxs H2=>Q (x::xs) H2
section
variable{X:Cx}{e:Expr}{es:List Expr}{te:TE}{t:TA}{pos:Pos}
theorem zdH:PA X [] tNil:=λ_ _ _ _ H Q I h=>Calls.spliced_nil ⟨[],H,I,.nil,h⟩
theorem zbE(ha:PE X e te)(hr:PA X es t)(hs:starEach (e::es) X.env=(false,eval e X.env)::starEach es X.env:=by rfl):PA X (e::es) (zuN te t):=by intro pos pS s Y H Q I h;rw[hs];show wpAny _ _ (spliced ((false,eval e X.env)::backTo pos (starEach es X.env))) _ _ s;refine Calls.spliced_cons (thn (ha pS s Y H _ I h) λu s1 ⟨x,H1,I1,r1,q1⟩=>?_);exact thn (hr pos pS s1 Y H1 _ I1 q1) λus s2 ⟨xs,H2,I2,r2,q2⟩=>⟨x::xs,H2,I2,.cons r1 r2,q2⟩
def tTup(t:TA):TE:=λY H Q=>t Y H λxs H1=>xs.length<=sizeLine/\∀ p,H1 p=none->Q (.ref p) (upd H1 p (.tup xs))
def tLst(t:TA):TE:=λY H Q=>t Y H λxs H1=>xs.length<=sizeLine/\∀ p,H1 p=none->Q (.ref p) (upd H1 p (.lst xs))
theorem zvo{x1}(h:PA X es t):PE X (.Tuple es x1 pos) (tTup t):=by intro pS s Y H Q I hq;refine wpAny_Tuple_spliced (thn (h pos pS s Y H _ I hq) λus s1 ⟨xs,H1,I1,r,z,q⟩=>⟨by rw[<- r.length];exact z,?_⟩);have hf:H1 s1.heap.objs.size=none:=I1.hok.fresh (wal _);refine ⟨.ref s1.heap.objs.size,upd H1 s1.heap.objs.size (.tup xs),I1.laid (t':=s1.toks) (λb u e=>waa _ e) (wal _) ?_,rfl,q _ hf⟩;exact ⟨z,us,r,⟨_,waj _ rfl⟩⟩
theorem zv7(h:PA X es t):PE X (.List es pos) (tLst t):=by intro pS s Y H Q I hq;refine wpAny_List_spliced (thn (h pos pS s Y H _ I hq) λus s1 ⟨xs,H1,I1,r,z,q⟩=>⟨by rw[<- r.length];exact z,?_⟩);have hf:H1 s1.heap.objs.size=none:=I1.hok.fresh (wal _);refine ⟨.ref s1.heap.objs.size,upd H1 s1.heap.objs.size (.lst xs),I1.laid (t':=s1.toks) (λb u e=>waa _ e) (wal _) ?_,rfl,q _ hf⟩;exact ⟨z,us,0,r,waj _ rfl⟩
end
abbrev Sp:=List V->Hp->VK->XK->Prop
abbrev CXT:=List Env->Hp->Shared->XK->Value->Shared->Prop
structure zs0(P:Program)(w:World)(K:W.Frag)(mg:Str->Option Value)(base:Heap)(A:Around)(outer:List Env)(s:Shared)(H:Hp):Prop where
 frames:A.frames=some outer
 mod:Mod K mg base
 bs:∀ b o,base.get? b=some o->s.heap.get? b=some o/\H b=none
 bsz:base.objs.size<=s.heap.objs.size
 funs:s.heap.FunFrames base outer
 frf:∀ b∈frs outer,H b=none
 hok:HOk P w H s.heap
 bare:AllBare s.gens
def CE(outer:List Env)(P:Program)(w:World)(H:Hp)(s:Shared)(Q:VK)(u:Value)(s':Shared):Prop :=
 ∃ v H',s'.os=s.os/\AllBare s'.gens/\Un (frs outer) [] H H' s.heap s'.heap/\HOk P w H' s'.heap/\zby v u/\Q v H'
def CR(CX:CXT)(outer:List Env)(P:Program)(w:World)(H:Hp)(s:Shared)(Q:VK)(E:XK)(r:Result)(s':Shared):Prop :=
 match r with
 |.ok (.ret u)=>CE outer P w H s Q u s'
 |.ok _=>False
 |.error e=>CX outer H s E e s'
structure zf7(P:Program)(w:World)(K:W.Frag)(mg:Str->Option Value)(base:Heap)(CX:CXT)(k:Nat)(f:Addr)(fd:FuncData)(ps:List Str)(sp:Sp):Prop where
 len:∀ vs H Q E,sp vs H Q E->vs.length=ps.length
 run:∀(A:Around)(outer:List Env)(s:Shared)(H:Hp)(args:Args)(us:List Value)(vs:List V)(Q:VK)(E:XK),zew k A->zs0 P w K mg base A outer s H->BindsTo s fd args (ps.zip us)->zaR vs us->sp vs H Q E ->
  codeAny (model P w) A (.call (.ref f) args) (CR CX outer P w H s Q E) s
theorem zf7.mono{P:Program}{w:World}{K:W.Frag}{mg:Str->Option Value}{base:Heap}{CX:CXT}{j k:Nat}{f:Addr}{fd:FuncData}{ps:List Str}{sp:Sp}(F:zf7 P w K mg base CX j f fd ps sp)(h:j<=k) :
  zf7 P w K mg base CX k f fd ps sp:=⟨F.len,λA outer s H args us vs Q E hr=>F.run A outer s H args us vs Q E (hr.mono h)⟩
theorem zf7.imp{P:Program}{w:World}{K:W.Frag}{mg:Str->Option Value}{base:Heap}{CX:CXT}{k:Nat}{f:Addr}{fd:FuncData}{ps:List Str}{sp sp':Sp}(F:zf7 P w K mg base CX k f fd ps sp)
  (h:∀ vs H Q E,sp' vs H Q E->sp vs H Q E):zf7 P w K mg base CX k f fd ps sp' :=
 ⟨λvs H Q E q=>F.len vs H Q E (h _ _ _ _ q),λA outer s H args us vs Q E hr he hb hv hs=>F.run A outer s H args us vs Q E hr he hb hv (h _ _ _ _ hs)⟩
theorem zs0.in1{P:Program}{w:World}{K:W.Frag}{mg:Str->Option Value}{base:Heap}{A:Around}{outer:List Env}{s:Shared}{H:Hp}(e:zs0 P w K mg base A outer s H) :
  zs0 P w K mg base A.in1 outer s H:=⟨e.frames,e.mod,e.bs,e.bsz,e.funs,e.frf,e.hok,e.bare⟩
section
variable{X:Cx}{pS:List (Addr×Obj)}{Y:St}{H:Hp}{s s':Shared}
theorem Inv.env0(I:Inv X pS Y H s):zs0 X.prog X.w X.K X.mg X.base X.A X.stack s H :=
 ⟨I.ok.frames,I.ok.mod,I.bs,waN I.ok.bsz I.sz,I.stack,I.stkFree,I.hok,I.bare⟩
theorem Inv.after{Q:VK}{u:Value}(I:Inv X pS Y H s)(h:CE X.stack X.prog X.w H s Q u s'):EP X pS Y Q u s':=by obtain ⟨v,H',os,bare,un,hok,r,q⟩:=h;obtain ⟨hh,g,d,t,os'⟩:=s';obtain rfl:os'=s.os:=os;exact ⟨v,H',I.call (h':=hh) (g':=g) (d':=d) (t':=t) (ch:=[]) un hok bare (λb z=>absurd z xws),r,q⟩
end
def zue(sp:Sp)(dvs:List V)(E:XK)(t:TA):TE:=λY H Q=>t Y H λvs H1=>sp (vs++dvs) H1 Q E
def zgy(K:W.Frag)(fd:FuncData)(ps:List Str)(ds:List Value):Prop :=
 ∀(s:Shared)(us:List Value),K.In s.heap->(us++ds).length=ps.length->BindsTo s fd ⟨us,[]⟩ (ps.zip (us++ds))
theorem zgy.all{K:W.Frag}{fd:FuncData}{ps:List Str}(h:∀ us:List Value,us.length=ps.length->bindArgs fd ⟨us,[]⟩=pure (ps.zip us)):zgy K fd ps []:=λs us _ hl=>by rw[List.append_nil] at hl ⊢;exact .of_eq (h us hl)
def zd6(CX:CXT)(X:Cx)(E:XK):Prop:=∀(pS:List (Addr×Obj))(Y:St)(H:Hp)(s:Shared)(e:Value)(s':Shared),Inv X pS Y H s->CX X.stack H s E e s'->X.xe e s'
section
variable{X:Cx}{CX:CXT}{k:Nat}{f C:Addr}{fd:FuncData}{ps:List Str}{sp:Sp}{dvs:List V}{ds:List Value}{E:XK}{x m:Str}{p pos apos:Pos}{e o:Expr}{es:List Expr}{ta:TE}{t:TA}
theorem zrn{pS:List (Addr×Obj)}{Y:St}{H:Hp}{s:Shared}{Q:VK}{us:List Value}{vs:List V}(F:zf7 X.prog X.w X.K X.mg X.base CX k f fd ps sp)(hr:zew k X.A)(hb:zgy X.K fd ps ds)(hd:zaR dvs ds)(hx:zd6 CX X E)
  (I:Inv X pS Y H s) (r:zaR vs us) (h:sp (vs++dvs) H Q E):wpAny (model X.prog X.w) X.A (call (.ref f) us) (EP X pS Y Q) X.xe s:=by
 have r2:zaR (vs++dvs) (us++ds):=r.append hd;have hl:(us++ds).length=ps.length:=by rw[<- r2.length];exact F.len _ _ _ _ h
 refine wpAny_call (codeAny_mono (F.run X.A X.stack s H ⟨us,[]⟩ (us++ds) (vs++dvs) Q E hr I.env0 (hb s us I.kIn hl) r2 h) λr s' hq=>?_);cases r with
 |error e=>exact hx pS Y H s e s' I hq
 |ok fl =>
  cases fl with
  |ret u=>exact I.after hq
  |next=>exact waO hq
  |brk=>exact waO hq
  |cont=>exact waO hq
theorem znG(F:zf7 X.prog X.w X.K X.mg X.base CX k f fd ps sp)(hr:zew k X.A)(hg:Gl X x)(hm:X.mg x=some (.ref f))(hk:W.keepIn X.K (.ref f)=true)(hb:zgy X.K fd ps ds)(hd:zaR dvs ds)(hx:zd6 CX X E)
  (ha:PA X (e::es) t) (hdb:(x == ("__debug__" : Str))=false:=by decide) (he:starEach (e::es) X.env=(false,eval e X.env)::starEach es X.env:=by rfl) (hpl:(backTo pos (starEach es X.env)).any (·.1)=false:=by rfl) :
  PE X (.Call (.Name x p) (e::es) [] pos) (zue sp dvs E t):=by
 intro pS s Y H Q I h;refine wpAny_Call_Name_kw (zow I hg hm ?_ hdb);refine W.callWith_K (h₀:=X.base) I.ok.mod.kin hk (thn (ha pos pS s Y H _ I h) λus s1 ⟨vs,H1,I1,r,q⟩=>⟨I1.kIn,?_⟩) he hpl;exact zrn F hr hb hd hx I1 r q
structure Mk(K:W.Frag)(C f:Addr):Prop where
 makes:W.makesIn K C=true
 init:W.findIn K (.ref C) "__init__"=some (some (.ref f))
 fn:W.isFn K (.ref f)=true
 kp:W.keepIn K (.ref C)=true
end
def PK(X:Cx)(kws:List Keyword)(t:TA):Prop :=
 ∀(pos:Pos)(pS:List (Addr×Obj))(s:Shared)(Y:St)(H:Hp)(Q:List V->Hp->Prop),Inv X pS Y H s->t Y H Q->wpAny (model X.prog X.w) X.A (evalAll ((backToKw pos (keywordEach kws X.env)).map (·.2))) (AP X pS Y Q) X.xe s
section
variable{X:Cx}{CX:CXT}{k:Nat}{f C:Addr}{fd:FuncData}{ps ks:List Str}{sp:Sp}{E:XK}{x m:Str}{p pos apos kpos:Pos}{e o:Expr}{es:List Expr}{kws:List Keyword}{te ta:TE}{t tk:TA}{nm:Option Str}
theorem znL:PK X [] tNil:=λ_ _ _ _ H Q I h=>wpAny_evalAll_nil ⟨[],H,I,.nil,h⟩
theorem zle(ha:PE X e te)(hr:PK X kws t):PK X (⟨nm,e,kpos⟩::kws) (zuN te t):=by intro pos pS s Y H Q I h;show wpAny _ _ (evalAll ((do let v <- eval e X.env;standAt pos;pure v)::(backToKw pos (keywordEach kws X.env)).map (·.2))) _ _ s;refine wpAny_evalAll_cons (wab (thn (ha pS s Y H _ I h) λu s1 ⟨x,H1,I1,r1,q1⟩=>wab (wpAny_standAt (wad ?_))));exact thn (hr pos pS s1 Y H1 _ I1 q1) λus s2 ⟨xs,H2,I2,r2,q2⟩=>⟨x::xs,H2,I2,.cons r1 r2,q2⟩
structure KBinds(K:W.Frag)(fd:FuncData)(ps ks:List Str)(g:List Value->List Value->List Value)(gV:List V->List V->List V):Prop where
 to:∀(s:Shared)(us ws:List Value),K.In s.heap->(g us ws).length=ps.length->BindsTo s fd ⟨us,ks.zip ws⟩ (ps.zip (g us ws))
 rel:∀{vs:List V}{us:List Value}{zs:List V}{ws:List Value},zaR vs us->zaR zs ws->zaR (gV vs zs) (g us ws)
variable{g:List Value->List Value->List Value}{gV:List V->List V->List V}
end
structure za8(N P:List Str)(sc:Scope):Prop where
 kind:sc.kind=.function
 co:sc.isCoroutine=false
 gen:sc.isGenerator=false
 nd:N.Nodup
 pre:N.take P.length=P
 par:∀ x∈P,sc.names.lookup x=some .local\/sc.names.lookup x=some .cell
 nofree:∀ y∈sc.names,y.2≠.free
theorem zjw{kindOf:Str->Option NameKind}{x:Str}:∀{binds:List (Str×Value)}{m:Str->Option Value},(∀ v,(x,v)∉binds)->bindL kindOf binds m x=m x
 |[],_,_=>rfl
 | (n,v)::r,m,h=>by
  unfold bindL;rw[zjw λw hw=>h w (List.mem_cons_of_mem _ hw)];split
  ·have:x≠n:=by rintro rfl;exact h v wau
   simp[this]
  ·rfl
theorem zkl{kindOf:Str->Option NameKind}{x:Str}:∀{binds:List (Str×Value)}{m:Str->Option Value},(∀ v,(x,v)∉binds)->bindC kindOf binds m x=m x
 |[],_,_=>rfl
 | (n,v)::r,m,h=>by
  unfold bindC;rw[zkl λw hw=>h w (List.mem_cons_of_mem _ hw)];split
  ·rfl
  ·have:x≠n:=by rintro rfl;exact h v wau
   simp[this]
theorem zjV{kindOf:Str->Option NameKind}{x:Str}{v:Value}:∀{P:List Str}{vs:List Value}{i:Nat}{m:Str->Option Value},P.Nodup->P[i]? = some x->vs[i]? = some v->kindOf x=some .local ->
  bindL kindOf (P.zip vs) m x=some v
 |[],_,_,_,_,h,_,_=>by simp at h
 |_::_,[],_,_,_,_,h,_=>by simp at h
 |p::P,w::vs,0,m,nd,h1,h2,hk=>by simp at h1 h2;subst h1;subst h2;show bindL kindOf ((p,w)::P.zip vs) m p=_;unfold bindL;rw[zjw λv hv=>(List.nodup_cons.mp nd).1 (List.of_mem_zip hv).1,if_pos hk];simp
 |p::P,w::vs,i+1,m,nd,h1,h2,hk=>by show bindL kindOf ((p,w)::P.zip vs) m x=_;unfold bindL;exact zjV (i:=i) (List.nodup_cons.mp nd).2 (by simpa using h1) (by simpa using h2) hk
theorem zju{kindOf:Str->Option NameKind}{x:Str}{v:Value}:∀{P:List Str}{vs:List Value}{i:Nat}{m:Str->Option Value},P.Nodup->P[i]? = some x->vs[i]? = some v->kindOf x≠some .local ->
  bindC kindOf (P.zip vs) m x=some v
 |[],_,_,_,_,h,_,_=>by simp at h
 |_::_,[],_,_,_,_,h,_=>by simp at h
 |p::P,w::vs,0,m,nd,h1,h2,hk=>by simp at h1 h2;subst h1;subst h2;show bindC kindOf ((p,w)::P.zip vs) m p=_;unfold bindC;rw[zkl λv hv=>(List.nodup_cons.mp nd).1 (List.of_mem_zip hv).1,if_neg hk];simp
 |p::P,w::vs,i+1,m,nd,h1,h2,hk=>by show bindC kindOf ((p,w)::P.zip vs) m x=_;unfold bindC;exact zju (i:=i) (List.nodup_cons.mp nd).2 (by simpa using h1) (by simpa using h2) hk
def start(N:List Str)(vs:List V):St:=vs.map some++List.replicate (N.length-vs.length) none
def zpq(CX:CXT)(P:Program)(w:World)(K:W.Frag)(mg:Str->Option Value)(base:Heap)(N:List Str)(qual:Str)(scope:Scope)(f:Addr)(cd:Value)(A:Around)(outer:List Env)(s:Shared)(H:Hp)(E:XK):Cx where
 prog:=P
 w:=w
 K:=K
 mg:=mg
 base:=base
 A:=A.deeper (envOfC qual scope s.heap.objs.size f cd)
 N:=N
 s₀:=s
 H₀:=H
 env:=envOfC qual scope s.heap.objs.size f cd
 outer:=outer
 stack:=envOfC qual scope s.heap.objs.size f cd::outer
 ex:=[]
 calm:=true
 fn:=λ_=>true
 pn:=[]
 xe:=λe s'=>wpAny (model P w) (A.deeper (envOfC qual scope s.heap.objs.size f cd)) (leaving (envOfC qual scope s.heap.objs.size f cd) e) (λ_ s''=>CX outer H s E e s'') (λe' s''=>CX outer H s E e' s'') s'
theorem zlD{sc:Scope}{n:Nat}{x:Str}(h:sc.names.lookup x=some .cell):∃ c,(cellsFrom n sc.names []).lookup x=some c:=by have q:=W.cellsFrom_some sc.names n [] (.inl h);exact Option.isSome_iff_exists.mp q
theorem znD{CX:CXT}{P:Program}{w:World}{K:W.Frag}{mg:Str->Option Value}{base:Heap}{N ps:List Str}{qual:Str}{scope:Scope}{f:Addr}{cd:Value}{A:Around}{outer:List Env}{s s1:Shared}{H:Hp}{E:XK}{us:List Value}{vs:List V}
  (S:za8 N ps scope) (hd:A.handled=none) (e0:zs0 P w K mg base A outer s H) (hl:vs.length=ps.length) (r:zaR vs us)
  (x:InCallC s s.heap.objs.size (bindL (envOfC qual scope s.heap.objs.size f cd).kindOf (ps.zip us) λ_=>none) (cellsFrom (s.heap.objs.size+1) scope.names []) (bindC (envOfC qual scope s.heap.objs.size f cd).kindOf (ps.zip us) λ_=>none) s1) :
  Inv (zpq CX P w K mg base N qual scope f cd A outer s H E) [] (start N vs) H s1:=by
 have hpl:ps.length<=N.length:=by have:=congrArg List.length S.pre;rw[List.length_take] at this;lia
 obtain ⟨h1,tk,rfl,hk⟩:=x.done;have noA:∀ b:Addr,b∉(zpq CX P w K mg base N qual scope f cd A outer s H E).ex:=λb z=>absurd (show b∈([]:List Addr) from z) xws;refine ⟨⟨e0.mod,S.kind,rfl,rfl,wal _,λy z c h1 h2=>?_,λy hy=>?_,λy c _ h=>?_,λ_=>hd,Around.frames_deeper e0.frames,.inr ⟨rfl,rfl⟩,λb z=>absurd z (noA b),e0.bs,e0.bsz,λb _ _=>noA b,λb z=>absurd z (noA b),e0.funs,e0.frf⟩,
  rfl,e0.bare,Un.kept hk,⟨_,x.toInCall.ns,λi y v h1 h2 h3=>?_⟩,λy c h=>⟨_,x.cell y c h⟩,e0.hok.fresh (wal _),λy c h=>?_,λp hp=>absurd (show p∈([]:List (Addr×Obj)) from hp) xws,e0.hok.kept hk,?_⟩
 ·exact name_of_addr x.apart (PySem.mem_of_lookup h1) (PySem.mem_of_lookup h2)
 ·have hy:scope.names.lookup y=some .cell\/scope.names.lookup y=some .free:=hy;rcases hy with hy|hy
  ·exact zlD hy
  ·exact absurd rfl (S.nofree _ (PySem.mem_of_lookup hy))
 ·exact Nat.le_of_lt (x.above y c (PySem.mem_of_lookup h))
 ·have hi:i<vs.length:=by
   unfold start at h2;by_cases hi:i<vs.length
   ·exact hi
   ·rw[List.getElem?_append_right (by simpa using hi)] at h2;rw[List.getElem?_replicate] at h2;split at h2 <;> cases h2
  have ha:vs[i]? = some v:=by
   unfold start at h2;rw[List.getElem?_append_left (by simpa using hi),List.getElem?_map] at h2;cases e:vs[i]? with
   |none=>rw[e] at h2;cases h2
   |some a=>rw[e] at h2;cases h2;rfl
  obtain ⟨u,hu,rv⟩:=r.get ha;have hp:ps[i]? = some y:=by rw[<- S.pre,List.getElem?_take_of_lt xwl];exact h1
  have ndP:ps.Nodup:=by rw[<- S.pre];exact S.nd.sublist (List.take_sublist _ _)
  refine ⟨u,rv,?_⟩;rcases S.par y (waH hp) with k|k
  ·exact .inl ⟨k,zjV ndP hp hu k⟩
  ·obtain ⟨c,e⟩:=zlD (n:=s.heap.objs.size+1) k;refine .inr ⟨.inl k,c,e,?_⟩;have q:=x.cell y c e;rw[zju ndP hp hu (by show scope.names.lookup y≠_;rw[k];decide)] at q;exact q
 ·exact e0.hok.fresh (Nat.le_of_lt (x.above y c (PySem.mem_of_lookup h)))
 ·unfold start;show _=N.length;rw[List.length_append,List.length_map,List.length_replicate];lia
theorem zvJ{CX:CXT}{P:Program}{w:World}{K:W.Frag}{mg:Str->Option Value}{base:Heap}{k:Nat}{f:Addr}{name qual:Str}{params:Arguments}{body:List Stmt}{scope:Scope}{dV kV doc pm cdv ct oc:Value}{an od:Option Addr}
  {osl:Array (Option Value)} {N ps:List Str} {sp:Sp} (lk:K.lookup f=some ⟨oc,od,.func (W.fnOf name qual params body scope dV kV doc pm an cdv ct),osl⟩) (hcd:W.codeIn K cdv qual=true) (S:za8 N ps scope)
  (len:∀ vs H Q E,sp vs H Q E->vs.length=ps.length)
  (hbody:∀(A:Around)(outer:List Env)(s:Shared)(H:Hp)(vs:List V)(Q:VK)(E:XK),zew k (A.deeper (envOfC qual scope s.heap.objs.size f cdv))->sp vs H Q E ->
   ∃ t,PSs (zpq CX P w K mg base N qual scope f cdv A outer s H E) body t/\t { nx:=λ_ H'=>Q .non H',rt:=Q } (start N vs) H) :
  zf7 P w K mg base CX (k+1) f (W.fnOf name qual params body scope dV kV doc pm an cdv ct) ps sp:=by
 refine ⟨len,λA outer s H args us vs Q E hr e0 hb r hsp=>?_⟩;have hl:=len _ _ _ _ hsp;have KX:K.In s.heap:=e0.mod.kin.keeps λb o e=>(e0.bs b o e).1;have lim:s.heap.NoLimit:=e0.mod.nolimit.keeps λb o e=>(e0.bs b o e).1;have hkind:∀ y∈ps.zip us,scope.names.lookup y.1=some .local\/(scope.names.lookup y.1=some .cell/\((cellsFrom (s.heap.objs.size+1) scope.names []).lookup y.1).isSome=true):=λ⟨n,v⟩ hy=>by
  rcases S.par n (waQ hy).1 with q|q
  ·exact .inl q
  ·exact .inr ⟨q,W.cellsFrom_some _ _ _ (.inl q)⟩
 refine codeAny_call_function hr.depth (KX _ _ lk) rfl S.co S.gen rfl (W.codeRec_of KX hcd) (hb _ _ _ _ ?_);refine wpAny_newFunctionEnv_cells S.kind hkind λenv he s1 x=>?_;subst he;refine ⟨lim.keeps x.toInCall.keep,codeAny_func ?_⟩;obtain ⟨t,ht,hq⟩:=hbody A outer s H vs Q E (hr.deeper _) hsp;have I:Inv (zpq CX P w K mg base N qual scope f cdv A outer s H E) [] (start N vs) H s1:=znD S hr.hd e0 hl r x;refine wpAny_mono (ht [] s1 (start N vs) H _ I hq) (λfl s' hs=>?_) λe s' hs=>hs;have fin:∀{Y':St}{H':Hp}{v:V}{u:Value},Inv (zpq CX P w K mg base N qual scope f cdv A outer s H E) [] Y' H' s'->zby v u->Q v H'->CE outer P w H s Q u s' :=
  λ{Y' H' v u} J rv q=>⟨v,H',J.os,J.bare,J.base,J.hok,rv,q⟩
 cases fl with
 |ret u =>
  obtain ⟨v,Y',H',J,rv,q⟩:=hs;exact fin J rv q
 |next =>
  obtain ⟨Y',H',J,q⟩:=hs;exact fin (v:=V.non) (u:=Value.none) J rfl q
 |brk =>
  obtain ⟨_,_,_,q⟩:=hs;exact waO q
 |cont =>
  obtain ⟨_,_,_,q⟩:=hs;exact waO q
end L2
namespace L2
open PySem PySem.Spec PyProof.Rows
section
variable{X:Cx}{x:Str}{p pos:Pos}{e:Expr}{es:List Expr}{t:TA}{id T:String}{r:List V->Hp->VK->Prop}
def tCB(r:List V->Hp->VK->Prop)(t:TA):TE:=λY H Q=>t Y H λvs H1=>r vs H1 Q
theorem zgb(hc:zcd X (.builtin id) r)(hg:Gl X x)(hm:X.mg x=none)(hv:bootBuiltins x=some (.builtin id))(ha:PA X (e::es) t)(hn:x≠"__name__":=by decide)(hdb:(x == ("__debug__" : Str))=false:=by decide)
  (he:starEach (e::es) X.env=(false,eval e X.env)::starEach es X.env:=by rfl) (hpl:(backTo pos (starEach es X.env)).any (·.1)=false:=by rfl):PE X (.Call (.Name x p) (e::es) [] pos) (tCB r t):=by
 intro pS s Y H Q I h;refine wpAny_Call_Name_kw (zdq I hg hm hv ?_ hn hdb);exact PyProof.Rows.callWith_builtin1 (thn (ha pos pS s Y H _ I h) λus s1 ⟨vs,H1,I1,r1,q1⟩=>hc pS s1 Y H1 vs us Q I1 r1 q1) he hpl
theorem zgN(hc:zcd X (.type T) r)(hg:Gl X x)(hm:X.mg x=none)(hv:bootBuiltins x=some (.type T))(ha:PA X (e::es) t)(hn:x≠"__name__":=by decide)(hdb:(x == ("__debug__" : Str))=false:=by decide)
  (he:starEach (e::es) X.env=(false,eval e X.env)::starEach es X.env:=by rfl) (hpl:(backTo pos (starEach es X.env)).any (·.1)=false:=by rfl):PE X (.Call (.Name x p) (e::es) [] pos) (tCB r t):=by
 intro pS s Y H Q I h;refine wpAny_Call_Name_kw (zdq I hg hm hv ?_ hn hdb);exact PyProof.Rows.callWith_type1 (thn (ha pos pS s Y H _ I h) λus s1 ⟨vs,H1,I1,r1,q1⟩=>hc pS s1 Y H1 vs us Q I1 r1 q1) he hpl
end
end L2
namespace HT
open PySem PyProof.Rows
section
open PySem.SeqAt
open PySem.AutoSeq1 (wpAny_loadPart')
open PySem.MeetsSeq PySem.MeetsSeq2 PySem.MeetsSeq3
end
section
variable{prog:Program}{w:World}{A:Around}{E:Value->Shared->Prop}{s:Shared}
theorem cat_tup{t b:Addr}{vs ws:List Value}{Q:Value->Shared->Prop}(ht:IsTup s.heap t vs.toArray)(hb:IsTup s.heap b ws.toArray)(hv:vs≠[])
  (h1:ws=[]->Q (.ref t) s) (h2:ws≠[]->Q (.ref s.heap.objs.size) { s with heap:=s.heap.push { cls:=.type "tuple",data:=.seq (vs++ws).toArray } })
  (hsz:vs.length+ws.length<=sizeLine):wpAny (model prog w) A (binaryOp .Add (.ref t) (.ref b)) Q E s:=by
 obtain ⟨⟨cls,dd,data,sl⟩,ho,hc,n,hd⟩:=id ht;obtain ⟨⟨cls2,dd2,data2,sl2⟩,ho2,hc2,n2,hd2⟩:=id hb;simp only at hc hd hc2 hd2;subst hc hd hc2 hd2;have e:vs.toArray++ws.toArray=(vs++ws).toArray:=by simp
 by_cases hw:ws=[]
 ·exact concat_meets ⟨_,ho,rfl⟩ ⟨_,ho2,rfl⟩ noFill_tuple_add seq_tuple_add PySem.F.slot_tuple_add PySem.F.entry_tuple_add (PySem.F.args_tuple_add_2 _ _)
   (tuple_addW1 t b vs.toArray ws.toArray n n2 dd dd2 sl sl2 (by simpa using hv) (by simp[hw])) ⟨ho,ho2,h1 hw⟩
 ·refine concat_meets ⟨_,ho,rfl⟩ ⟨_,ho2,rfl⟩ noFill_tuple_add seq_tuple_add PySem.F.slot_tuple_add PySem.F.entry_tuple_add (PySem.F.args_tuple_add_2 _ _)
   (tuple_addW2 t b vs.toArray ws.toArray n n2 dd dd2 sl sl2 (by simpa using hv) (by simpa using hw) (by rw[List.size_toArray,List.size_toArray];exact hsz)) ⟨ho,ho2,?_⟩
  rw[e];exact h2 hw
def sIx(n d:Nat):Option Int->Nat
 |none=>d
 |some v=>if v<0 then (v+(n:Int)).toNat else min v.toNat n
theorem sIx_none(n d:Nat):sIx n d none=d:=rfl
theorem sIx_nat(n d k:Nat):sIx n d (some (k:Int))=min k n:=by show (if (k:Int)<0 then ((k:Int)+(n:Int)).toNat else min (k:Int).toNat n)=min k n;rw[if_neg xwl,Int.toNat_natCast]
end
end HT
namespace L2
open PySem PySem.Spec PyProof.Rows
abbrev TO:=St->Hp->(Option Int->Hp->Prop)->Prop
def PO(X:Cx)(e:Option Expr)(t:TO):Prop :=
 ∀(pS:List (Addr×Obj))(s:Shared)(Y:St)(H:Hp)(Q:Option Int->Hp->Prop),Inv X pS Y H s->t Y H Q ->
  wpAny (model X.prog X.w) X.A (evalPart e X.env) (λu s'=>∃ o H',Inv X pS Y H' s'/\IsPart u o/\Q o H') X.xe s
def zug:TO:=λ_ H Q=>Q none H
def zwA(t:TE):TO:=λY H Q=>t Y H λx H1=>∃ i,x=.int i/\Q (some i) H1
theorem intsAre_of{ns:List Int}:∀{us:List Value},zaR (ns.map V.int) us->IntsAre us ns:=by
 induction ns with
 |nil=>intro us r;rw[List.map_nil] at r;cases r;exact .nil
 |cons n ns ih =>
  intro us r;rw[List.map_cons] at r;cases r with
  |cons r1 r2 =>
   obtain ⟨t,e⟩:=r1;subst e;exact .cons n t (ih r2)
section
variable{X:Cx}{e:Expr}{te:TE}{lo hi:Option Expr}{tl th:TO}{pos p2:Pos}
theorem zuj:PO X none zug:=by intro pS s Y H Q I h;rw[evalPart_none];exact wad ⟨none,H,I,.none,h⟩
theorem ztm(h:PE X e te):PO X (some e) (zwA te):=by intro pS s Y H Q I hw;rw[evalPart_some];refine thn (h pS s Y H _ I hw) λu s1 ⟨x,H1,I1,r1,q1⟩=>?_;obtain ⟨i,rfl,q⟩:=q1;obtain ⟨t,rfl⟩:=r1;exact ⟨some i,H1,I1,.int i t,q⟩
def SlR(X:Cx)(r:V->Option Int->Option Int->Hp->VK->Prop):Prop :=
 ∀(pS:List (Addr×Obj))(s:Shared)(Y:St)(H:Hp)(x:V)(v vl vu:Value)(lo hi:Option Int)(sl:Addr)(Q:VK),Inv X pS Y H s->zby x v->s.heap.IsSliceOf sl vl vu .none->IsPart vl lo->IsPart vu hi->r x lo hi H Q ->
  ∃ T id,typeLookup (.type T) "__getitem__"=pure (some (.builtin id))/\s.TypeIs v T/\wpAny (model X.prog X.w) X.A (getItem v (.ref sl)) (EP X pS Y Q) X.xe s
theorem SlR.or{r r':V->Option Int->Option Int->Hp->VK->Prop}(h:SlR X r)(h':SlR X r'):SlR X (λx lo hi H Q=>r x lo hi H Q\/r' x lo hi H Q):=by
 intro pS s Y H x v vl vu lo hi sl Q I rx hs pl pu q;rcases q with q|q
 ·exact h pS s Y H x v vl vu lo hi sl Q I rx hs pl pu q
 ·exact h' pS s Y H x v vl vu lo hi sl Q I rx hs pl pu q
def tSl(r:V->Option Int->Option Int->Hp->VK->Prop)(te:TE)(tl th:TO):TE:=λY H Q=>te Y H λx H1=>tl Y H1 λl H2=>th Y H2 λu H3=>r x l u H3 Q
theorem zpt{r:V->Option Int->Option Int->Hp->VK->Prop}(hr:SlR X r)(he:PE X e te)(hl:PO X lo tl)(hu:PO X hi th):PE X (.Subscript e (.Slice lo hi none p2) pos) (tSl r te tl th):=by intro pS s Y H Q I h;refine Subscript_ (thn (he pS s Y H _ I h) λv s1 ⟨x,H1,I1,r1,q1⟩=>?_);refine wpAny_Slice (thn (hl pS s1 Y H1 _ I1 q1) λvl s2 ⟨l,H2,I2,pl,q2⟩=>thn (hu pS s2 Y H2 _ I2 q2) λvu s3 ⟨u,H3,I3,pu,q3⟩=>?_);rw[evalPart_none];refine wad ?_;have I4:Inv X pS Y H3 { s3 with heap:=s3.heap.push { cls:=.type "slice",data:=.fields #[vl,vu,.none] } }:=I3.kept (t':=s3.toks) λb ob q=>waa _ q;obtain ⟨T,id,hT,ht,hg⟩:=hr pS { s3 with heap:=s3.heap.push { cls:=.type "slice",data:=.fields #[vl,vu,.none] } } Y H3 x v vl vu l u s3.heap.objs.size Q I4 r1 (Heap.IsSliceOf.new ..) pl pu q3;show wpAny (model X.prog X.w) X.A (subscriptTail e (.Slice lo hi none p2) v (.ref s3.heap.objs.size)) (EP X pS Y Q) X.xe { s3 with heap:=s3.heap.push { cls:=.type "slice",data:=.fields #[vl,vu,.none] } };exact tail_any (ops:=[.ref s3.heap.objs.size,v]) ht hT hg (by with_unfolding_all rfl)
def ztA(xs:List V)(lo hi:Option Int):List V:=(xs.drop (HT.sIx xs.length 0 lo)).take (HT.sIx xs.length xs.length hi-HT.sIx xs.length 0 lo)
theorem zkV(xs:List V)(lo hi:Option Int):(ztA xs lo hi).length<=xs.length:=by unfold ztA;rw[List.length_take,List.length_drop];lia
def zw2(K:W.Frag):R2:=λx y H Q=>∃ a b xs ys,x=.ref a/\y=.ref b/\SqT K H a xs/\SqT K H b ys/\xs≠[]/\xs.length+ys.length<=sizeLine /\
 (ys=[]->Q (.ref a) H)/\(ys≠[]->∀ p,H p=none->Q (.ref p) (upd H p (.tup (xs++ys))))
theorem zaR.nil_iff{xs:List V}{us:List Value}(r:zaR xs us):us=[] ↔ xs=[]:=by
 cases r with
 |nil=>simp
 |cons _ _=>simp
theorem zsU:OpR X (binaryOp .Add) (zw2 X.K):=by intro pS s Y H x y v u Q I rx ry h;obtain ⟨a,b,xs,ys,rfl,rfl,ha,hb,hx,hz,q1,q2⟩:=h;cases rx;cases ry;obtain ⟨its,r1,p1,_⟩:=I.tuple ha;obtain ⟨its2,r2,p2,_⟩:=I.tuple hb;refine HT.cat_tup p1 p2 (λz=>hx (r1.nil_iff.mp z)) (λz=>⟨.ref a,H,I,rfl,q1 (r2.nil_iff.mp z)⟩) (λz=>?_) (by rw[<- r1.length,<- r2.length];exact hz);refine ⟨.ref s.heap.objs.size,_,I.laid (t':=s.toks) (o:=.tup (xs++ys)) (λb ob q=>waa _ q) (wal _) ?_,rfl,q2 (λw=>z (r2.nil_iff.mpr w)) _ (I.hok.fresh (wal _))⟩;exact ⟨by rw[List.length_append];exact hz,_,r1.append r2,_,waj _ rfl⟩
end
end L2
namespace L2
open PySem PySem.Spec PyProof.Rows
def ixN(n:Nat)(i:Int):Option Nat:=if 0<=i then (if i<n then some i.toNat else none) else if -(n:Int)<=i then some (i+n).toNat else none
def atI{α:Type}(xs:List α)(i:Int):Option α:=(ixN xs.length i).bind λj=>xs[j]?
theorem zlu{n:Nat}{i:Int}{j:Nat}(h:ixN n i=some j):seqIndex? i n=some j/\j<n/\-(n:Int)<=i/\i<n:=by
 unfold ixN at h;by_cases h0:0<=i
 ·rw[if_pos h0] at h;by_cases h1:i<n
  ·rw[if_pos h1] at h;have e:i.toNat=j:=waA h;exact ⟨by rw[seqIndex_of h0 h1,e],xwl,xwl,h1⟩
  ·rw[if_neg h1] at h;cases h
 ·rw[if_neg h0] at h;by_cases h1:-(n:Int)<=i
  ·rw[if_pos h1] at h;have e:(i+n).toNat=j:=waA h;exact ⟨by rw[seqIndex_neg xwl h1,e],xwl,h1,xwl⟩
  ·rw[if_neg h1] at h;cases h
theorem znT{α:Type}{xs:List α}{i:Int}{v:α}(h:atI xs i=some v):∃ j,seqIndex? i xs.length=some j/\xs[j]? = some v/\j<xs.length/\-(xs.length:Int)<=i/\i<xs.length:=by
 unfold atI at h;cases e:ixN xs.length i with
 |none=>rw[e] at h;cases h
 |some j =>
  rw[e] at h;obtain ⟨h1,h2,h3,h4⟩:=zlu e;exact ⟨j,h1,h,h2,h3,h4⟩
theorem zkQ{α:Type}{xs:List α}{j:Nat}{v:α}(h:xs[j]? = some v):atI xs (j:Int)=some v:=by
 have hj:j<xs.length:=(wam.mp h).1;have e:ixN xs.length (j:Int)=some j:=by unfold ixN;rw[if_pos xwl,if_pos xwl];simp
 unfold atI;rw[e];exact h
theorem zmq{α:Type}(xs:List α)(v:α):atI (xs++[v]) (-1)=some v:=by
 have hl:(xs++[v]).length=xs.length+1:=by simp
 have e:ixN (xs++[v]).length (-1)=some xs.length:=by unfold ixN;rw[hl,if_neg xwd,if_pos xwl];congr 1;lia
 unfold atI;rw[e];show (xs++[v])[xs.length]? = some v;simp
def ziK(b:Expr):Prop:=∀ o i,subscripted b false o i=operate [o,i] (getItem o i)
def IxR(X:Cx)(r:R2):Prop :=
 ∀(value slice:Expr)(pS:List (Addr×Obj))(s:Shared)(Y:St)(H:Hp)(x y:V)(v u:Value)(Q:VK),Inv X pS Y H s->zby x v->zby y u->r x y H Q ->
  subscripted slice false v u=operate [v,u] (getItem v u)->wpAny (model X.prog X.w) X.A (subscriptTail value slice v u) (EP X pS Y Q) X.xe s
def MtR(X:Cx)(id:String)(r:V->List V->Hp->VK->Prop):Prop :=
 ∀(pS:List (Addr×Obj))(s:Shared)(Y:St)(H:Hp)(x:V)(xs:List V)(v:Value)(us:List Value)(Q:VK),Inv X pS Y H s->zby x v->zaR xs us->r x xs H Q ->
  wpAny (model X.prog X.w) X.A (call (.builtin id) (v::us)) (EP X pS Y Q) X.xe s
section
variable{X:Cx}{a b:Expr}{ta tb:TE}{pos:Pos}
theorem IxR.or{r r':R2}(h:IxR X r)(h':IxR X r'):IxR X (λx y H Q=>r x y H Q\/r' x y H Q):=by
 intro value slice pS s Y H x y v u Q I rx ry q hs;rcases q with q|q
 ·exact h value slice pS s Y H x y v u Q I rx ry q hs
 ·exact h' value slice pS s Y H x y v u Q I rx ry q hs
theorem MtR.or{id:String}{r r':V->List V->Hp->VK->Prop}(h:MtR X id r)(h':MtR X id r'):MtR X id (λx xs H Q=>r x xs H Q\/r' x xs H Q):=by
 intro pS s Y H x xs v us Q I rx rs q;rcases q with q|q
 ·exact h pS s Y H x xs v us Q I rx rs q
 ·exact h' pS s Y H x xs v us Q I rx rs q
theorem zsR{r:R2}(hr:IxR X r)(ha:PE X a ta)(hb:PE X b tb)(hs:ziK b):PE X (.Subscript a b pos) (tOp r ta tb):=by intro pS s Y H Q I h;exact Subscript_ (zw4 ha hb I h λv u s2 x y H2 I2 rx ry q=>hr a b pS s2 Y H2 x y v u Q I2 rx ry q (hs _ _))
def rIxL(K:W.Frag):R2:=λx y H Q=>∃ p xs i v,x=.ref p/\y=.int i/\SqL K H p xs/\atI xs i=some v/\Q v H
def rIxT(K:W.Frag):R2:=λx y H Q=>∃ p xs i v,x=.ref p/\y=.int i/\SqT K H p xs/\atI xs i=some v/\Q v H
theorem zlh:IxR X (rIxL X.K):=by
 intro value slice pS s Y H x y v u Q I rx ry h hs;obtain ⟨p,xs,i,z,rfl,rfl,hq,he,q⟩:=h;cases rx;obtain ⟨t,rfl⟩:=ry;obtain ⟨its,r,pl,hz⟩:=I.list hq;obtain ⟨j,h1,h2,h3,h4,h5⟩:=znT he;obtain ⟨w,ew,rw'⟩:=r.get h2;have hl:=r.length;have hn:=zkc;have fin:EP X pS Y Q w s:=⟨z,H,I,rw',q⟩
 by_cases h0:0<=i
 ·have hj:i.toNat=j:=by rw[seqIndex_of h0 h5] at h1;exact waA h1
  exact item_listR pl.isList h0 xwl (by rw[hj];simpa using ew) fin hs
 ·have hj:(i+(its.toArray.size:Int)).toNat=j:=by rw[seqIndex_neg xwl h4] at h1;rw[List.size_toArray,<- hl];exact waA h1
  exact subscriptTail_builtinR (x:=w) pl.isList.typeIs slot_list_getitem.lookup
   (wpAny_getItem_list_neg (Q:=λr s'=>r=w/\EP X pS Y Q r s') pl.isList xwl (by rw[List.size_toArray] <;> lia) xwl (by rw[hj];simpa using ew) ⟨rfl,fin⟩) hs
theorem zwf:IxR X (rIxT X.K):=by
 intro value slice pS s Y H x y v u Q I rx ry h hs;obtain ⟨p,xs,i,z,rfl,rfl,hq,he,q⟩:=h;cases rx;obtain ⟨t,rfl⟩:=ry;obtain ⟨its,r,pl,hz⟩:=I.tuple hq;obtain ⟨j,h1,h2,h3,h4,h5⟩:=znT he;obtain ⟨w,ew,rw'⟩:=r.get h2;have hl:=r.length;have hn:=zkc;have fin:EP X pS Y Q w s:=⟨z,H,I,rw',q⟩
 exact subscriptTail_builtinR (x:=w) pl.typeIs slot_tuple_getitem.lookup
  (getItem_tuple (j:=j) (Q:=λr s'=>r=w/\EP X pS Y Q r s') pl xwl xwl (by rw[List.size_toArray,<- hl];exact h1) (by simpa using ew) ⟨rfl,fin⟩) hs
theorem zmV(its:List Value)(n j:Nat)(u:Value):Obj.mapSeq (·.setIfInBounds j u) { cls:=.type "list",data:=.seq its.toArray n }={ cls:=.type "list",data:=.seq (its.set j u).toArray n }:=by simp[Obj.mapSeq]
theorem Inv.lst{pS:List (Addr×Obj)}{Y:St}{H:Hp}{s:Shared}{p:Addr}{xs:List V}(I:Inv X pS Y H s)(h:H p=some (.lst xs)) :
  ∃(its:List Value)(n:Nat),zaR xs its/\s.heap.get? p=some { cls:=.type "list",data:=.seq its.toArray n }/\xs.length<=sizeLine:=by
 obtain ⟨z,its,n,r,e⟩:=I.hok p _ h;exact ⟨its,n,r,e,z⟩
theorem Inv.lstUpd{pS:List (Addr×Obj)}{Y:St}{H:Hp}{s:Shared}{p:Addr}{xs ys:List V}{its its':List Value}{n n':Nat}{f:Obj->Obj}(I:Inv X pS Y H s)(h:H p=some (.lst xs))
  (ho:s.heap.get? p=some { cls:=.type "list",data:=.seq its.toArray n }) (hf:f { cls:=.type "list",data:=.seq its.toArray n }={ cls:=.type "list",data:=.seq its'.toArray n' }) (r:zaR ys its') (hz:ys.length<=sizeLine) (t:Nat) :
  Inv X pS Y (upd H p (.lst ys)) { s with heap:=s.heap.update p f,toks:=t }:=by
 have e:(s.heap.update p f).get? p=some { cls:=.type "list",data:=.seq its'.toArray n' }:=by rw[Heap.get?_update_self f ho (by rw[hf] <;> rfl),hf]
 refine I.write (x:=p) (e:=p) (by rw[h];trivial) (.inl rfl) (λb u hb q=>(Heap.get?_update_other _ _ (Ne.symm hb)).trans q) ⟨_,e⟩ ?_;exact ⟨hz,its',n',r,e⟩
def zwW:V->V->V->Hp->(Hp->Prop)->Prop:=λo i v H Q=>∃ p xs k j,o=.ref p/\i=.int k/\H p=some (.lst xs)/\ixN xs.length k=some j/\Q (upd H p (.lst (xs.set j v)))
theorem zra:PSet X zwW:=by
 intro pS s Y H o i v ov iv u Q I ro ri rv h;obtain ⟨p,xs,k,j,rfl,rfl,hp,hj,q⟩:=h;cases ro;obtain ⟨t,rfl⟩:=ri;obtain ⟨its,n,r,ho,hz⟩:=I.lst hp;obtain ⟨h1,h2,h3,h4⟩:=zlu hj;have hl:=r.length;have hn:=zkc;have I':Inv X pS Y (upd H p (.lst (xs.set j v))) { s with heap:=s.heap.update p (Obj.mapSeq (·.setIfInBounds j u)) } :=
  I.lstUpd hp ho (zmV its n j u) (r.set rv j) (by rw[List.length_set];exact hz) s.toks
 by_cases h0:0<=k
 ·have hk:k.toNat=j:=by rw[seqIndex_of h0 h4] at h1;exact waA h1
  exact W.ki_setAt ho h0 xwl (by rw[List.size_toArray,<- hl];exact h4) (by rw[hk];exact ⟨_,I',q⟩)
 ·have hk:(k+(its.toArray.size:Int)).toNat=j:=by rw[seqIndex_neg xwl h3] at h1;rw[List.size_toArray,<- hl];exact waA h1
  exact W.ki_setBack ho xwl (by rw[List.size_toArray,<- hl];exact h3) xwl (by rw[hk];exact ⟨_,I',q⟩)
theorem zjY(lo hi:Option Int)(n:Nat):(sliceBounds lo hi none n).1=((HT.sIx n 0 lo:Nat):Int)/\(sliceBounds lo hi none n).2.1=((HT.sIx n n hi:Nat):Int)/\(sliceBounds lo hi none n).2.2=1:=by
 refine ⟨?_,?_,rfl⟩
 ·cases lo with
  |none=>simp[sliceBounds,HT.sIx]
  |some i =>
   simp only[sliceBounds,HT.sIx,Option.getD_none,show (1:Int) > 0 by decide,if_true];by_cases h:i<0
   ·simp only[h,if_true] <;> lia
   ·simp only[h,if_false] <;> lia
 ·cases hi with
  |none=>simp[sliceBounds,HT.sIx]
  |some i =>
   simp only[sliceBounds,HT.sIx,Option.getD_none,show (1:Int) > 0 by decide,if_true];by_cases h:i<0
   ·simp only[h,if_true] <;> lia
   ·simp only[h,if_false] <;> lia
theorem ziY(its:List Value)(lo hi:Option Int):slicePick its.toArray lo hi none=((its.drop (HT.sIx its.length 0 lo)).take (HT.sIx its.length its.length hi-HT.sIx its.length 0 lo)).toArray:=by obtain ⟨h1,h2,h3⟩:=zjY lo hi its.toArray.size;unfold slicePick;rw[h1,h2,h3];simp only[sliceRange_one,pick_run,waf] <;> rfl
def rSlL(K:W.Frag):V->Option Int->Option Int->Hp->VK->Prop:=λx lo hi H Q=>∃ a xs,x=.ref a/\SqL K H a xs/\∀ p,H p=none->Q (.ref p) (upd H p (.lst (ztA xs lo hi)))
theorem ztD:SlR X (rSlL X.K):=by intro pS s Y H x v vl vu lo hi sl Q I rx hs pl pu h;obtain ⟨a,xs,rfl,hx,q⟩:=h;cases rx;obtain ⟨its,r,ht,hz⟩:=I.list hx;have hlen:=r.length;refine ⟨"list",_,slot_list_getitem.lookup,ht.isList.typeIs,?_⟩;refine wpAny_getItem_list_slice ht.isList hs pl pu .none xws ?_ (by rw[List.size_toArray] <;> lia);rw[ziY,<- hlen];refine ⟨.ref s.heap.objs.size,_,I.laid (t':=s.toks) (o:=.lst (ztA xs lo hi)) (λb ob q=>waa _ q) (wal _) ?_,rfl,q _ (I.hok.fresh (wal _))⟩;exact ⟨waN (zkV xs lo hi) hz,_,0,(r.drop (HT.sIx xs.length 0 lo)).take (HT.sIx xs.length xs.length hi-HT.sIx xs.length 0 lo),waj _ rfl⟩
theorem zfA:zcd X (.builtin "len") (λxs H Q=>∃ p ys,xs=[.ref p]/\(SqL X.K H p ys\/SqT X.K H p ys)/\Q (.int ys.length) H):=by
 intro pS s Y H xs us Q I r h;obtain ⟨p,ys,rfl,hq,q⟩:=h;obtain ⟨u,rfl,rx⟩:=zcG r;cases rx;have hn:=zkc;rcases hq with hq|hq
 ·obtain ⟨its,r',pl,hz⟩:=I.list hq;have hlen:=r'.length;exact Calls.call_len_list pl.isList (by simp only[waf] <;> lia) ⟨.int ys.length,H,I.tok _,⟨s.toks+1,by rw[List.size_toArray,hlen]⟩,q⟩
 ·obtain ⟨its,r',pl,hz⟩:=I.tuple hq;have hlen:=r'.length;exact len_tuple pl (by simp only[waf] <;> lia) ⟨.int ys.length,H,I.tok _,⟨s.toks+1,by rw[List.size_toArray,hlen]⟩,q⟩
theorem zj4:zcd X (.builtin "len") (λxs H Q=>∃ z,xs=[.str z]/\z.length<=sizeLine/\Q (.int z.length) H):=by intro pS s Y H xs us Q I r h;obtain ⟨z,rfl,hz,q⟩:=h;obtain ⟨u,rfl,t,rfl⟩:=zcG r;have hn:=zkc;exact len_str xwl ⟨.int z.length,H,I.tok _,⟨_,rfl⟩,q⟩
theorem zcd.or{f:Value}{r r':List V->Hp->VK->Prop}(h:zcd X f r)(h':zcd X f r'):zcd X f (λxs H Q=>r xs H Q\/r' xs H Q):=by
 intro pS s Y H xs us Q I rs q;rcases q with q|q
 ·exact h pS s Y H xs us Q I rs q
 ·exact h' pS s Y H xs us Q I rs q
theorem zjZ:zcd X (.type "list") (λxs H Q=>∃ p ys,xs=[.ref p]/\(SqL X.K H p ys\/SqT X.K H p ys)/\∀ l,H l=none->Q (.ref l) (upd H l (.lst ys))):=by
 intro pS s Y H xs us Q I r h;obtain ⟨p,ys,rfl,hq,q⟩:=h;obtain ⟨u,rfl,rx⟩:=zcG r;cases rx;have fin:∀(its:List Value),zaR ys its->ys.length<=sizeLine->∀(h':Heap)(c':Nat),(∀ b o',s.heap.get? b=some o'->h'.get? b=some o') ->
   h'.get? s.heap.objs.size=some { cls:=.type "list",dict:=none,data:=.seq its.toArray c',slots:=#[] }->EP X pS Y Q (.ref s.heap.objs.size) { s with heap:=h' }:=λits r' hz h' c' kp e =>
  ⟨.ref s.heap.objs.size,_,I.laid (t':=s.toks) kp (wal _) (show zcE X.prog X.w _ h' _ (.lst ys) from ⟨hz,its,c',r',e⟩),rfl,q _ (I.hok.fresh (wal _))⟩
 rcases hq with hq|hq
 ·obtain ⟨its,r',pl,hz⟩:=I.list hq;have hlen:=r'.length;obtain ⟨o,ho,hc,n,hd⟩:=pl.isList;exact call_list_seq p (.inl rfl) ho hc hd (λh' c' kp e=>fin its r' hz h' c' kp e) (by simp only[waf] <;> lia)
 ·obtain ⟨its,r',pl,hz⟩:=I.tuple hq;have hlen:=r'.length;obtain ⟨o,ho,hc,n,hd⟩:=pl;exact call_list_seq p (.inr rfl) ho hc hd (λh' c' kp e=>fin its r' hz h' c' kp e) (by simp only[waf] <;> lia)
theorem ziP:zcd X (.type "tuple") (λxs H Q=>∃ p ys,xs=[.ref p]/\((SqL X.K H p ys/\∀ l,H l=none->Q (.ref l) (upd H l (.tup ys)))\/(SqT X.K H p ys/\Q (.ref p) H))):=by
 intro pS s Y H xs us Q I r h;obtain ⟨p,ys,rfl,h⟩:=h;obtain ⟨u,rfl,rx⟩:=zcG r;cases rx;rcases h with ⟨hq,q⟩|⟨hq,q⟩
 ·obtain ⟨its,r',pl,hz⟩:=I.list hq;have hlen:=r'.length;refine call_tuple_list pl.isList (λh' kp=>?_) (by simp only[waf] <;> lia);have I1:Inv X pS Y H { s with heap:=h' }:=I.kept (t':=s.toks) kp;have I2:Inv X pS Y (upd H h'.objs.size (.tup ys)) { s with heap:=h'.push { cls:=.type "tuple",data:=.seq its.toArray } } :=
   I1.laid (t':=s.toks) (λb o e=>waa _ e) (wal _) (show zcE X.prog X.w _ _ _ (.tup ys) from ⟨hz,its,r',_,waj _ rfl⟩)
  exact ⟨.ref h'.objs.size,_,I2,rfl,q _ (I1.hok.fresh (wal _))⟩
 ·obtain ⟨its,r',pl,hz⟩:=I.tuple hq;exact call_tuple_same pl ⟨.ref p,H,I,rfl,q⟩
def tyV(K:W.Frag)(T:String)(x:V)(H:Hp):Prop:=match x with
 |.str _=>T="str"
 |.int _=>T="int"
 |.ref p=>(T="list"/\∃ xs,SqL K H p xs)\/(T="tuple"/\∃ o,K.lookup p=some o/\o.cls=.type "tuple"/\o.dict=none) \/
   (T="dict"/\((∃ kvs,H p=some (.dK kvs))\/∃ kvs,H p=some (.dT kvs)))\/(T="set"/\∃ S n,H p=some (.set S n))
 |_=>False
theorem zwe{pS:List (Addr×Obj)}{Y:St}{H:Hp}{s:Shared}{T:String}{x:V}{v:Value}(I:Inv X pS Y H s)(r:zby x v)(ty:tyV X.K T x H) :
  s.TypeIs v T/\∀ a,v=.ref a->∃ ob,s.heap.get? a=some ob/\ob.dict=none:=by
 cases x with
 |str z =>
  obtain ⟨t,rfl⟩:=r;cases (show T="str" from ty);exact ⟨typeIs_str s z t,λ_ e=>nomatch e⟩
 |int i =>
  obtain ⟨t,rfl⟩:=r;cases (show T="int" from ty);exact ⟨typeIs_int s i t,λ_ e=>nomatch e⟩
 |ref p =>
  cases r;rcases ty with ⟨rfl,xs,hq⟩|⟨rfl,o,hk,hc,hd⟩|⟨rfl,hk⟩|⟨rfl,S,n,hk⟩
  ·obtain ⟨its,_,pl,_⟩:=I.list hq;refine ⟨pl.isList.typeIs,λa e=>?_⟩;cases e;obtain ⟨o,n,e,c,hd,_⟩:=pl;exact ⟨o,e,hd⟩
  ·refine ⟨⟨o,I.kIn p o hk,hc⟩,λa e=>?_⟩;cases e;exact ⟨o,I.kIn _ o hk,hd⟩
  ·have z:∃ o,s.heap.get? p=some o/\o.ExactDict:=by
    rcases hk with ⟨kvs,hk⟩|⟨kvs,hk⟩
    ·obtain ⟨_,_,_,_,o,_,_,e,ex,_⟩:=I.hok p _ hk;exact ⟨o,e,ex⟩
    ·obtain ⟨_,_,_,_,o,_,_,e,ex,_⟩:=I.hok p _ hk;exact ⟨o,e,ex⟩
   obtain ⟨o,e,ex⟩:=z;refine ⟨⟨o,e,ex.1⟩,λa e2=>?_⟩;cases e2;exact ⟨o,e,ex.2.1⟩
  ·obtain ⟨o,_,_,_,e,ex,_⟩:=I.hok p _ hk;refine ⟨⟨o,e,ex.1⟩,λa e2=>?_⟩;cases e2;exact ⟨o,e,ex.2.1⟩
 |_=>exact waO ty
def tBM(K:W.Frag)(T:String)(r:V->List V->Hp->VK->Prop)(to:TE)(t:TA):TE:=λY H Q=>to Y H λx H1=>tyV K T x H1/\t Y H1 λxs H2=>r x xs H2 Q
variable{o e:Expr}{es:List Expr}{to:TE}{t:TA}{name:Str}{apos cpos:Pos}{T id:String}{r:V->List V->Hp->VK->Prop}
theorem zot(pa:PlainAttrs T)(slot:Slot T name id)(hty:typeOf (.builtin id)=pure (.type "method_descriptor"))(hm:MtR X id r)(ho:PE X o to)(ha:PA X (e::es) t)
  (hbase:attributeBase o name X.env (eval o X.env)=eval o X.env:=by rfl)
  (hfew:((backTo cpos (starEach (e::es) X.env)).all (λx=>!x.1) && (backToKw cpos (keywordEach [] X.env)).all (λx=>x.1.isSome)
   && decide ((e::es).length+([]:List Keyword).length+(if ([]:List Keyword).isEmpty then 0 else 1)<30))=true:=by rfl)
  (hline:(apos.endLine == cpos.line)=true:=by rfl) (hs:starEach (e::es) X.env=(false,eval e X.env)::starEach es X.env:=by rfl) (hplain:(backTo cpos (starEach es X.env)).any (·.1)=false:=by rfl) :
  PE X (.Call (.Attribute o name apos) (e::es) [] cpos) (tBM X.K T r to t):=by
 intro pS s Y H Q I h;refine wpAny_Call_method_late hbase hfew hline rfl (thn (ho pS s Y H _ I h) λv s1 ⟨x,H1,I1,r1,ty,q1⟩=>?_);obtain ⟨h1,h2⟩:=zwe I1 r1 ty;refine ⟨T,id,pa,slot,hty,h1,h2,?_⟩;have hA:=ha cpos pS s1 Y H1 _ I1 q1;rw[hs] at hA ⊢;refine Calls.callWith_builtin (by show (false || (backTo cpos (starEach es X.env)).any (·.1))=false;rw[hplain] <;> rfl) (Calls.evalArgs_plain ?_);exact thn hA λus s2 ⟨vs,H2,I2,r2,q2⟩=>hm pS s2 Y H2 x vs v us Q I2 r1 r2 q2
end
end L2
namespace L2
open PySem PySem.Spec PyProof.Rows
def MtM(X:Cx)(id:String)(r:V->List V->Hp->VK->Prop):Prop :=
 ∀(pS:List (Addr×Obj))(s:Shared)(Y:St)(H:Hp)(x:V)(xs:List V)(v:Value)(us:List Value)(Q:VK),Inv X pS Y H s->zby x v->zaR xs us->r x xs H Q ->
  wpAny (model X.prog X.w) X.A (call (.builtin id) (v::us)) (EP X pS Y Q) X.xe s
theorem zaR.one:∀{x:V}{us:List Value},zaR [x] us->∃ u,us=[u]/\zby x u
 |_,_,.cons r .nil=>⟨_,rfl,r⟩
theorem zaR.eraseIdx:∀{xs:List V}{us:List Value}(i:Nat),zaR xs us->zaR (xs.eraseIdx i) (us.eraseIdx i)
 |_,_,_,.nil=>.nil
 |_,_,0,.cons _ t=>t
 |_,_,i+1,.cons r t=>.cons r (zaR.eraseIdx i t)
theorem zaR.reverse{xs:List V}{us:List Value}(h:zaR xs us):zaR xs.reverse us.reverse:=by
 induction h with
 |nil=>exact .nil
 |cons r t ih=>rw[List.reverse_cons,List.reverse_cons];exact zaR.append ih (.cons r .nil)
theorem zjW{α:Type}:∀(l:List α)(i:Nat),(l.eraseIdx i).length<=l.length
 |[],_=>wal _
 |_::_,0=>Nat.le_succ _
 |_::r,i+1=>Nat.succ_le_succ (zjW r i)
section
variable{X:Cx}{pS:List (Addr×Obj)}{Y:St}{H:Hp}{s:Shared}{l b:Addr}{xs ys zs:List V}
theorem Inv.lset{its its':List Value}{n:Nat}{f:Array Value->Array Value}{t':Nat}(I:Inv X pS Y H s)(hH:H l=some (.lst xs))
  (e:s.heap.get? l=some { cls:=.type "list",data:=.seq its.toArray n }) (hf:f its.toArray=its'.toArray) (hv:zaR ys its') (hz:ys.length<=sizeLine) :
  Inv X pS Y (upd H l (.lst ys)) { s with heap:=s.heap.update l (Obj.mapSeq f),toks:=t' }:=by
 have q:=PySem.IsL.update e f;rw[hf] at q;refine I.write (x:=l) (e:=l) (by rw[hH];exact trivial) (.inl rfl) (λb' u hb hu=>(Heap.get?_update_other s.heap (Obj.mapSeq f) (Ne.symm hb)).trans hu) ⟨_,q⟩ ?_;exact ⟨hz,its',_,hv,q⟩
theorem Inv.lnew{its:List Value}{t':Nat}(I:Inv X pS Y H s)(hv:zaR ys its)(hz:ys.length<=sizeLine) :
  Inv X pS Y (upd H s.heap.objs.size (.lst ys)) { s with heap:=s.heap.push { cls:=.type "list",data:=.seq its.toArray },toks:=t' } :=
 I.laid (λ_ _ q=>waa _ q) (wal _) ⟨hz,its,0,hv,waj _ rfl⟩
theorem Inv.fresh(I:Inv X pS Y H s):H s.heap.objs.size=none:=I.hok.fresh (wal _)
theorem Inv.lstM(I:Inv X pS Y H s)(hH:H l=some (.lst xs)):xs.length<=sizeLine/\∃(its:List Value)(n:Nat),zaR xs its/\xs.length=its.length/\s.heap.get? l=some { cls:=.type "list",data:=.seq its.toArray n }:=by obtain ⟨z,its,n,r,e⟩:=I.hok l _ hH;exact ⟨z,its,n,r,r.length,e⟩
theorem zl0{n:Nat}(h:n<=sizeLine):Builtin.List.listTooLong n=false:=by unfold Builtin.List.listTooLong;exact waw xwl
end
section
variable{X:Cx}
def ztR:V->List V->Hp->VK->Prop:=λx vs H Q=>∃ l xs y,x=.ref l/\vs=[y]/\H l=some (.lst xs)/\xs.length<sizeLine/\Q .non (upd H l (.lst (xs++[y])))
theorem zgB:MtM X "list.append" ztR:=by intro pS s Y H x vs v us Q I rx rv h;obtain ⟨l,xs,y,rfl,rfl,hH,hz,q⟩:=h;cases rx;obtain ⟨u,rfl,ru⟩:=rv.one;obtain ⟨z,its,n,r,hl,e⟩:=I.lstM hH;refine call_meets F.slot_list_append ⟨_,e,rfl⟩ F.entry_list_append (F.args_list_append_2 _ _) (PySem.list_append l its.toArray n u (by rw[List.size_toArray];lia)) ⟨e,?_⟩;refine ⟨.non,_,I.lset (its':=its++[u]) hH e xws (r.append (.cons ru .nil)) ?_,rfl,q⟩;rw[List.length_append,List.length_singleton];lia
def ztC:V->List V->Hp->VK->Prop:=λx vs H Q=>∃ l b xs zs,x=.ref l/\vs=[.ref b]/\H l=some (.lst xs)/\H b=some (.lst zs)/\xs.length+zs.length<=sizeLine/\Q .non (upd H l (.lst (xs++zs)))
theorem zny:MtM X "list.extend" ztC:=by
 intro pS s Y H x vs v us Q I rx rv h;obtain ⟨l,b,xs,zs,rfl,rfl,hH,hB,hz,q⟩:=h;cases rx;obtain ⟨u,rfl,ru⟩:=rv.one;cases ru;obtain ⟨z,its,n,r,hl,e⟩:=I.lstM hH;obtain ⟨z2,its2,n2,r2,hl2,e2⟩:=I.lstM hB;have hsz:its.toArray.size+its2.toArray.size<=sizeLine:=by rw[List.size_toArray,List.size_toArray];lia
 have hlong:¬ (!its.toArray.isEmpty && Builtin.List.listTooLong (its.toArray.size+its2.toArray.size))=true:=by rw[zl0 hsz,Bool.and_false];exact Bool.false_ne_true
 refine call_meets F.slot_list_extend ⟨_,e,rfl⟩ F.entry_list_extend (F.args_list_extend_2 _ _)
  (AutoSeq1.list_extend_list_list_0 l its.toArray n b its2.toArray n2 hlong (by rw[List.size_toArray];lia) xwl) ⟨e,e2,?_⟩
 refine ⟨.non,_,I.lset (its':=its++its2) hH e xws (r.append r2) ?_,rfl,q⟩;rw[List.length_append];lia
def zu0:V->List V->Hp->VK->Prop:=λx vs H Q=>∃ l xs i k y,x=.ref l/\vs=[.int i]/\H l=some (.lst xs)/\-(2 ^ 63)<=i/\i<2 ^ 63/\seqIndex? i xs.length=some k/\xs[k]? = some y/\Q y (upd H l (.lst (xs.eraseIdx k)))
theorem zpG:MtM X "list.pop" zu0:=by
 intro pS s Y H x vs v us Q I rx rv h;obtain ⟨l,xs,i,k,y,rfl,rfl,hH,h1,h2,hk,hy,q⟩:=h;cases rx;obtain ⟨u,rfl,ru⟩:=rv.one;obtain ⟨t,rfl⟩:=ru;obtain ⟨z,its,n,r,hl,e⟩:=I.lstM hH;obtain ⟨w,hw,rw'⟩:=r.get hy;refine call_meets F.slot_list_pop ⟨_,e,rfl⟩ F.entry_list_pop (F.args_list_pop_2 _ _)
  (MeetsSeq.list_pop_at l its.toArray n i t k w (fitsIndex_both h1 h2) (by rw[List.size_toArray,<- hl];exact hk) (by rw[<- Array.getElem?_toList];exact hw) (by rw[List.size_toArray];lia)) ⟨e,?_⟩
 refine ⟨y,_,I.lset (its':=its.eraseIdx k) hH e ?_ (r.eraseIdx k) ?_,rw',q⟩
 ·show its.toArray.eraseIdxIfInBounds k=(its.eraseIdx k).toArray;rw[List.eraseIdxIfInBounds_toArray]
 ·have:=zjW xs k;lia
def rCat:R2:=λx y H Q=>∃ l b xs zs,x=.ref l/\y=.ref b/\H l=some (.lst xs)/\H b=some (.lst zs)/\xs.length+zs.length<=sizeLine/\∀ p,H p=none->Q (.ref p) (upd H p (.lst (xs++zs)))
theorem zvl:OpR X (binaryOp .Add) rCat:=by
 intro pS s Y H x y v u Q I rx ry h;obtain ⟨l,b,xs,zs,rfl,rfl,hH,hB,hz,q⟩:=h;cases rx;cases ry;obtain ⟨z,its,n,r,hl,e⟩:=I.lstM hH;obtain ⟨z2,its2,n2,r2,hl2,e2⟩:=I.lstM hB;refine PySem.P.add_list e e2 ?_ (by rw[List.size_toArray,List.size_toArray];lia);have ea:its.toArray++its2.toArray=(its++its2).toArray:=by simp
 rw[ea];exact ⟨.ref _,_,I.lnew (t':=s.toks) (r.append r2) (by rw[List.length_append];lia),rfl,q _ I.fresh⟩
end
section
variable{prog:Program}{w:World}{A:Around}{E:Value->Shared->Prop}{s:Shared}
set_option maxRecDepth 100000 in
end
section
variable{X:Cx}
end
end L2
namespace Att
open PySem PySem.W PySem.Calls PyProof.Rows
theorem zgp{P:Params}{h:Heap}:∀(ns:List Int)(vs:List Value),WellAll P h vs (ns.map WData.int)->IntsAre vs ns:=by
 intro ns
 induction ns with
 |nil =>
  intro vs w;rw[List.map_nil] at w;cases w;exact .nil
 |cons n ns ih =>
  intro vs w;rw[List.map_cons] at w;cases w with
  |cons a b =>
   cases a;exact .cons _ _ (ih _ b)
theorem zpe{l:OpenLaw}{n:Nat}(hn:l.most=some n){P:Params}{h:Heap}{args:List WData}{vals:List Value}
  (hpre:l.row.toRowW.claim.pre args=true) (hwl:WellAll P h vals args) :
  ∃ a vs ns,vals=[Value.ref a]/\args=[WData.list (ns.map WData.int)]/\h.get? a=some { cls:=.type "list",data:=.seq vs.toArray }/\IntsAre vs ns/\ns.length<=n:=by
 have hsh:WShape.hasAll [] args [.list .int]=true:=(pre_splitW hpre).1;have hc:l.pre.holds [] { args:=args }=true:=(pre_splitW hpre).2;obtain ⟨d,r,rfl,h1,h2⟩:=hasAllW_cons hsh;obtain rfl:=hasAllW_nil h2;obtain ⟨xs,rfl,h3⟩:=hasW_list h1;obtain ⟨ns,rfl⟩:=items_int h3;have hlen:ns.length<=n:=by
  unfold OpenLaw.pre at hc;have h4:(WTm.not (.lt (.lit (.int (n:Int))) (.len (.arg 0)))).holds [] { args:=[.list (ns.map .int)] }=true:=by have h4:=(holds_andW hc).1;rw[hn] at h4;exact h4
  have h5:=condW_of h4 (w_not (w_lt w_lit (w_len_list (w_arg rfl))));rw[List.length_map] at h5;refine Nat.le_of_not_lt λq=>?_;have q':(n:Int)<((ns.length:Nat):Int):=by lia
  first
   | (rw[decide_eq_true q'] at h5;exact absurd h5 xwd)
   | (simp at h5;lia)
 cases hwl with
 |cons w1 w2 =>
  cases w2;cases w1 with
  |list ho hall=>exact ⟨_,_,ns,rfl,rfl,ho,zgp ns _ hall,hlen⟩
theorem zo8(l:OpenLaw)(args:List WData):l.row.toRowW.claim.post args (.bool true) args=true :=
 postW_of (r:=l.row.toRowW) (X:=(true == true))
  (show WShape.has [] (.bool true) .bool=true by first|rfl|decide|simp[WShape.has,WShape.arms,WShape.armsAll])
  (show (WTm.eq .res (.lit (.bool true))).value [] { args:=args,res:=some (.bool true),after:=args }=some (.bool (true == true)) from w_eq_bool (w_res rfl) w_lit) rfl
theorem attach_call{l:OpenLaw}{n:Nat}{q:Program}{loose:List Str}{XP:(Str->Option Value)->Heap->Prop}{YP:World->Heap->Prop}{d:DefRec}
  (hn:l.most=some n) (hdf:d.params.defaults=[])
  (call:∀(w:World)(s₀ s₁:Shared)(mg mb:Str->Option Value)(fa:Addr)(o:Obj)(pm cd doc:Value)(a:Addr)(vs:List Value)(ns:List Int),
   Ground q loose [] XP w s₀ mg mb s₁.heap->YP w s₁.heap ->
   s₁.heap.get? fa=some o->o.data=.func (docDef d.name d.params d.body d.scope pm cd doc)->s₁.heap.CodeRec cd d.name->mg d.name=some (.ref fa) ->
   s₁.heap.get? a=some { cls:=.type "list",data:=.seq vs.toArray }->IntsAre vs ns->ns.length<=n->s₁.gens=#[] ->
   codeAny (model l.prog w) callerA (.call (.ref fa) ⟨[.ref a],[]⟩) (λr s'=>r=.ok (.ret (.bool true))/\OldK s₁.heap s'.heap/\s'.os=s₁.os/\AllBare s'.gens) s₁) :
  WalkO q loose XP YP l.row.toRowW d [] (λf vs=>PySem.call f vs):=by
 intro w s₀ s₁ mg mb G Yq fa o pm cd doc dV kV ho hd hcd hD hmg hg args vals as hpre hlay hrd hwl hlo;obtain rfl:dV=.none:=Dflts.none hD hdf;obtain rfl:kV=.none:=Dflts.noKw hD;obtain ⟨a,vs,ns,rfl,rfl,hobj,hints,hlen⟩:=zpe hn hpre hwl;refine enter_call (codeAny_mono (call w s₀ s₁ mg mb fa o pm cd doc a vs ns G Yq ho (fd_plain hd) hcd hmg hobj hints hlen hg) λr s' hq=>?_);obtain ⟨rfl,h2,h3,h4⟩:=hq;exact ⟨.inl ⟨.bool true,.bool true,[],rfl,λ_=>rfl,.bool true,zo8 l _,λ_=>⟨List.Pairwise.nil,λ_ hm=>(nomatch hm)⟩⟩,h2,h3,h4⟩
section
variable{prog:Program}{w:World}{A:Around}{E:Value->Shared->Prop}{s:Shared}{K:Frag}
end
end Att
namespace L2
open PySem PySem.Spec PyProof.Rows
theorem vals_ints:∀{vs:List Value}{ns:List Int},IntsAre vs ns->zaR (ns.map V.int) vs
 |_,_,.nil=>.nil
 |_,_,.cons n t h=>.cons ⟨t,rfl⟩ (vals_ints h)
def zwG(H:Hp):Prop:=∀ b,H b=none\/∃ o xs,H b=some (.frz o (.lst xs))
theorem zpr{P:Program}{w:World}{K:W.Frag}{mg mb:Str->Option Value}{CX:CXT}{k:Nat}{fa a:Addr}{fd:FuncData}{x:Str}{sp:Sp}{s₁:Shared}{vs:List Value}{ns:List Int}
  (KX:K.In s₁.heap) (hns:s₁.heap.Ns mainGlobals mg) (hb:s₁.heap.Ns builtinsNs mb) (hbb:∀ x:Str,x≠"__name__"->mb x=bootBuiltins x) (hlim:s₁.heap.NoLimit) (hg:s₁.gens=#[])
  (ha:s₁.heap.get? a=some { cls:=.type "list",data:=.seq vs.toArray }) (hi:IntsAre vs ns) (hl:ns.length<=sizeLine) (hr:zew k callerA)
  (F:∀ base:Heap,K.In base->base.Ns mainGlobals mg->zf7 P w K mg base CX k fa fd [x] sp) (hbind:∀(s:Shared)(u:Value),BindsTo s fd ⟨[u],[]⟩ [(x,u)])
  (hsp:∀ H:Hp,zwG H->SqL K H a (ns.map V.int)->sp [.ref a] H (λv _=>v=.bl true) λ_ _ _=>False)
  (hCX:∀ H e s',CX [] H s₁ (λ_ _ _=>False) e s'->False) :
  codeAny (model P w) callerA (.call (.ref fa) ⟨[.ref a],[]⟩) (λr s'=>r=.ok (.ret (.bool true))/\OldK s₁.heap s'.heap/\s'.os=s₁.os/\AllBare s'.gens) s₁:=by
 have rv:=vals_ints hi;have lenV:=hi.length;have core:∀ H:Hp,zwG H->SqL K H a (ns.map V.int)->HOk P w H s₁.heap->(∀ b,H b≠none->b=a)->(H a≠none->K.lookup a=none) ->
   codeAny (model P w) callerA (.call (.ref fa) ⟨[.ref a],[]⟩) (λr s'=>r=.ok (.ret (.bool true))/\OldK s₁.heap s'.heap/\s'.os=s₁.os/\AllBare s'.gens) s₁:=by
  intro H hO hS hok hA hK;have base_of:∀{b:Addr}{o:Obj},s₁.heap.get? b=some o->H b=none->(zpS s₁.heap H).get? b=some o:=λe n=>zqf e n;have noA:∀{b:Addr}{o:Obj}{es:Array DictEntry}{ep:Nat},s₁.heap.get? b=some o->o.data=.dict es ep->H b=none:=λ{b o es ep} e d=>by
   cases q:H b with
   |none=>rfl
   |some u =>
    have e':b=a:=hA b (by rw[q];simp);subst e';rw[ha] at e;cases e;have d':Data.seq vs.toArray _=Data.dict es ep:=d;cases d'
  have nsK:∀{b:Addr}{m:Str->Option Value},s₁.heap.Ns b m->(zpS s₁.heap H).Ns b m:=λ{b m} ⟨o,es,ep,e,d,r⟩=>⟨o,es,ep,base_of e (noA e d),d,r⟩
  have hKb:K.In (zpS s₁.heap H):=λb o e=>base_of (KX b o e) (by
   cases q:H b with
   |none=>rfl
   |some u =>
    have e':b=a:=hA b (by rw[q];simp);subst e';rw[hK (by rw[q];simp)] at e;cases e)
  have hM:Mod K mg (zpS s₁.heap H):=⟨hKb,nsK hns,⟨mb,nsK hb,hbb⟩,let ⟨mc,h1,h2⟩:=hlim;⟨mc,nsK h1,h2⟩⟩
  have e0:zs0 P w K mg (zpS s₁.heap H) callerA [] s₁ H:=⟨rfl,hM,λb o e=>zsS e,Nat.le_of_eq (zos _ _),trivial,λb hb=>absurd (show b∈([]:List Addr) from hb) xws,hok,.of_eq hg⟩
  refine codeAny_mono ((F _ hKb (nsK hns)).run callerA [] s₁ H ⟨[.ref a],[]⟩ [.ref a] [.ref a] _ _ hr e0 (hbind s₁ (.ref a)) (.cons rfl .nil) (hsp H hO hS)) λr s' h=>?_;cases r with
  |error e=>exact (hCX H e s' h).elim
  |ok fl =>
   cases fl with
   |next=>exact waO h
   |brk=>exact waO h
   |cont=>exact waO h
   |ret u =>
    obtain ⟨v,H',os,bare,un,hok',r',q⟩:=h;have q':v=.bl true:=q;subst q';obtain rfl:u=Value.bool true:=r';refine ⟨rfl,OldK.of_keep λb o e=>?_,os,bare⟩;cases q:H b with
    |none=>exact un.keep b o e q (by intro z;exact absurd (show b∈([]:List Addr) from z) xws) xws
    |some u =>
     rcases hO b with z|⟨ob,xs,z⟩
     ·rw[q] at z;cases z
     ·have z2:=un.frzs b ob _ z;obtain ⟨e1,_⟩:=hok b _ z;obtain ⟨e2,_⟩:=hok' b _ z2;rw[e] at e1;cases e1;exact e2
 cases hk:K.lookup a with
 |some o =>
  have e:=KX a o hk;rw[ha] at e;cases e;refine core (λ_=>none) (λ_=>.inl rfl) (.inr ⟨_,vs.toArray,_,hk,rfl,rfl,rfl,by rw[List.size_toArray,lenV];exact hl,by simpa using rv⟩) (λb u z=>by have z':(none:Option HO)=some u:=z;cases z') (λb z=>absurd rfl z) λz=>absurd rfl z
 |none =>
  refine core (λb=>if b=a then some (.frz { cls:=.type "list",data:=.seq vs.toArray } (.lst (ns.map V.int))) else none) (λb=>?_) (.inl (.inr ⟨{ cls:=.type "list",data:=.seq vs.toArray },if_pos rfl⟩)) (λb u z=>?_) (λb z=>?_) λ_=>hk
  ·by_cases hb:b=a
   ·exact .inr ⟨_,_,if_pos hb⟩
   ·exact .inl (if_neg hb)
  ·by_cases hb:b=a
   ·have z':=(if_pos hb).symm.trans z;cases z';subst hb;exact ⟨ha,by rw[List.length_map];exact hl,vs,_,rv,ha⟩
   ·have z':=(if_neg hb).symm.trans z;cases z'
  ·by_cases hb:b=a
   ·exact hb
   ·exact absurd (if_neg hb) z
end L2
namespace L2
open PySem PySem.Spec PyProof.Rows
theorem walk_of{l:W.OpenLaw}{n k:Nat}{q:Program}{loose:List Str}{XP:(Str->Option Value)->Heap->Prop}{YP:World->Heap->Prop}{d:DefRec}{K:Params->W.Frag}{CX:World->CXT}{sp:World->Sp}{x:Str}
  (hn:l.most=some n) (hn2:n<=sizeLine) (hdf:d.params.defaults=[]) (hr:zew k callerA)
  (hY:∀(w:World)(h:Heap),YP w h->(K w.params).In h)
  (F:∀(w:World)(mg:Str->Option Value)(fa:Addr)(h:Heap),(K w.params).In h->h.Ns mainGlobals mg->mg d.name=some (.ref fa) ->
   ∃ fd:FuncData,(∀(s:Shared)(u:Value),BindsTo s fd ⟨[u],[]⟩ [(x,u)]) /\
    ∀ base:Heap,(K w.params).In base->base.Ns mainGlobals mg->zf7 l.prog w (K w.params) mg base (CX w) k fa fd [x] (sp w))
  (hsp:∀(w:World)(H:Hp)(a:Addr)(ns:List Int),ns.length<=n->zwG H->SqL (K w.params) H a (ns.map V.int)->sp w [.ref a] H (λv _=>v=.bl true) λ_ _ _=>False)
  (hCX:∀(w:World)(H:Hp)(s:Shared)(e:Value)(s':Shared),CX w [] H s (λ_ _ _=>False) e s'->False) :
  W.WalkO q loose XP YP l.row.toRowW d [] (λf vs=>PySem.call f vs):=by
 refine Att.attach_call hn hdf λw s₀ s₁ mg mb fa o pm cd doc a vs ns G Yq ho hd hcd hmg hobj hints hlen hg=>?_;have KX:=hY w _ Yq;obtain ⟨fd,hb,hF⟩:=F w mg fa _ KX G.T.g hmg;exact zpr KX G.T.g G.T.b G.T.builtins G.T.nolimit hg hobj hints (waN hlen hn2) hr hF hb (λH hO hS=>hsp w H a ns hlen hO hS) λH e s'=>hCX w H s₁ e s'
end L2
namespace L2
open PySem PySem.Spec PyProof.Rows
def zeC(s:Stmt):Arguments:=match s with
 |.FunctionDef _ a _ _ _ _ _ _ _ _=>a
 |_=>{ posonlyargs:=[],args:=[],vararg:=none,kwonlyargs:=[],kw_defaults:=[],kwarg:=none,defaults:=[] }
def zc7(s:Stmt):List Stmt:=match s with
 |.FunctionDef _ _ b _ _ _ _ _ _ _=>b
 |_=>[]
def zak(s:Stmt):Scope:=match s with
 |.FunctionDef _ _ _ _ _ _ sc _ _ _=>sc
 |_=>{ kind:=.function,names:=[],isGenerator:=false,isCoroutine:=false }
abbrev CX0:CXT:=λ_ _ _ _ _ _=>False
structure Fun(K:W.Frag)(x qual:Str)(st:Stmt)(f:Addr)(fd:FuncData):Prop where
 ex:∃(oc:Value)(od:Option Addr)(kV doc pm:Value)(an:Option Addr)(cdv ct:Value)(osl:Array (Option Value)),
  fd=W.fnOf x qual (zeC st) (zc7 st) (zak st) .none kV doc pm an cdv ct/\K.lookup f=some ⟨oc,od,.func fd,osl⟩/\W.codeIn K cdv qual=true
 kp:W.keepIn K (.ref f)=true
section
variable{P:Program}{w:World}{K:W.Frag}{mg:Str->Option Value}{base:Heap}
theorem Fun.ok{x qual:Str}{st:Stmt}{f:Addr}{fd:FuncData}{N ps:List Str}{k:Nat}{sp:Sp}(F:Fun K x qual st f fd)(S:za8 N ps (zak st))(len:∀ vs H Q E,sp vs H Q E->vs.length=ps.length)
  (hbody:∀(cdv:Value)(A:Around)(outer:List Env)(s:Shared)(H:Hp)(vs:List V)(Q:VK)(E:XK),zew k (A.deeper (envOfC qual (zak st) s.heap.objs.size f cdv))->sp vs H Q E ->
   ∃ t,PSs (zpq CX0 P w K mg base N qual (zak st) f cdv A outer s H E).nox (zc7 st) t/\t { nx:=λ_ H'=>Q .non H',rt:=Q } (start N vs) H):zf7 P w K mg base CX0 (k+1) f fd ps sp:=by
 obtain ⟨oc,od,kV,doc,pm,an,cdv,ct,osl,rfl,lk,hcd⟩:=F.ex;refine zvJ lk hcd S len λA outer s H vs Q E hr hsp=>?_;obtain ⟨t,h,q⟩:=hbody cdv A outer s H vs Q E hr hsp;exact ⟨t,h.nox,q⟩
theorem Fun.binds{x qual:Str}{st:Stmt}{f:Addr}{fd:FuncData}{ps:List Str}(F:Fun K x qual st f fd)
  (h:∀(kV doc pm:Value)(an:Option Addr)(cdv ct:Value)(us:List Value),us.length=ps.length->bindArgs (W.fnOf x qual (zeC st) (zc7 st) (zak st) .none kV doc pm an cdv ct) ⟨us,[]⟩=pure (ps.zip us)):zgy K fd ps []:=by
 obtain ⟨oc,od,kV,doc,pm,an,cdv,ct,osl,rfl,lk,hcd⟩:=F.ex;exact .all (h kV doc pm an cdv ct)
theorem zro{x qual:Str}{st:Stmt}{f:Addr}{oc:Value}{od an:Option Addr}{osl:Array (Option Value)}{kV doc pm cdv ct:Value}(l:K.lookup f=some ⟨oc,od,.func (W.fnOf x qual (zeC st) (zc7 st) (zak st) .none kV doc pm an cdv ct),osl⟩)
  (c:W.codeIn K cdv qual=true) (k:W.keepIn K (.ref f)=true):Fun K x qual st f (W.fnOf x qual (zeC st) (zc7 st) (zak st) .none kV doc pm an cdv ct):=⟨⟨oc,od,kV,doc,pm,an,cdv,ct,osl,rfl,l,c⟩,k⟩
end
section
variable{X:Cx}
end
theorem iteF{A B:Prop}(h:B):if false=true then A else B:=by rw[if_neg Bool.false_ne_true];exact h
theorem iteT{A B:Prop}(h:A):if true=true then A else B:=by rw[if_pos rfl];exact h
def zcz(H H':Hp):Prop:=∀ b o,H b=some o->H' b=some o
theorem zcz.refl(H:Hp):zcz H H:=λ_ _ h=>h
theorem zcz.trans{H H1 H2:Hp}(a:zcz H H1)(b:zcz H1 H2):zcz H H2:=λc o h=>b c o (a c o h)
theorem zcz.free{H H':Hp}(e:zcz H H'){l:Addr}(h:H' l=Option.none):H l=Option.none:=by
 cases q:H l with
 |none=>rfl
 |some o =>
  rw[e l o q] at h;cases h
theorem zcz.seq{K:W.Frag}{H H':Hp}{a:Addr}{xs:List V}(e:zcz H H')(h:SqL K H a xs):SqL K H' a xs:=by
 rcases h with (h|⟨o,h⟩)|h
 ·exact .inl (.inl (e _ _ h))
 ·exact .inl (.inr ⟨o,e _ _ h⟩)
 ·exact .inr h
section
variable{κ:Type} [DecidableEq κ]
def zoi(kvs:List (κ×V))(k:κ):Option V:=(kvs.find? λkv=>decide (kv.1=k)).map (·.2)
def zst(kvs:List (κ×V))(k:κ)(v:V):List (κ×V) :=
 if (kvs.any λkv=>decide (kv.1=k))=true then kvs.map (λkv=>if kv.1=k then (kv.1,v) else kv) else kvs++[(k,v)]
def zwb(kvs:List (κ×V))(k:κ):List (κ×V):=kvs.filter λkv=>decide (kv.1≠k)
theorem ziu{p:κ×V}{r:List (κ×V)}{k:κ}(e:p.1=k):zoi (p::r) k=some p.2:=by simp[zoi,List.find?_cons,e]
theorem zii{p:κ×V}{r:List (κ×V)}{k:κ}(e:¬ p.1=k):zoi (p::r) k=zoi r k:=by simp[zoi,List.find?_cons,e]
theorem zmb(k:κ):∀ kvs:List (κ×V),(kvs.any λkv=>decide (kv.1=k))=(zoi kvs k).isSome
 |[]=>rfl
 |p::r=>by
  rw[List.any_cons];by_cases e:p.1=k
  ·simp only[ziu e,wat e,Bool.true_or,Option.isSome_some]
  ·rw[zii e,decide_eq_false e,Bool.false_or];exact zmb k r
theorem zrH.isSome_eq{o:Option V}{u:Option Value}(r:zrH o u):o.isSome=u.isSome:=by
 cases o with
 |none=>cases u with
  |none=>rfl
  |some _=>exact (show False from r).elim
 |some _=>cases u with
  |none=>exact (show False from r).elim
  |some _=>rfl
theorem zrH.getD{o:Option V}{u:Option Value}{d:V}{d':Value}(r:zrH o u)(rd:zby d d'):zby (o.getD d) (u.getD d'):=by
 cases o with
 |none=>cases u with
  |none=>exact rd
  |some _=>exact (show False from r).elim
 |some _=>cases u with
  |none=>exact (show False from r).elim
  |some _=>exact r
theorem KV.val{kvs:List (κ×V)}{vs:List (κ×Value)}(r:KV kvs vs)(k:κ):zrH (zoi kvs k) (valueAt vs k):=by
 unfold KV at r
 induction r with
 |nil=>exact True.intro
 |@cons p q ps qs h t ih =>
  obtain ⟨h1,h2⟩:=h;by_cases e:p.1=k
  ·have e':q.1=k:=h1.symm.trans e;have b:valueAt (q::qs) k=some q.2:=by simp[valueAt,List.find?_cons,e']
   rw[ziu e,b];exact h2
  ·have e':¬ q.1=k:=λz=>e (h1.trans z);have b:valueAt (q::qs) k=valueAt qs k:=by simp[valueAt,List.find?_cons,e']
   rw[zii e,b];exact ih
theorem KV.any{kvs:List (κ×V)}{vs:List (κ×Value)}(r:KV kvs vs)(k:κ):(kvs.any λkv=>decide (kv.1=k))=vs.any λkv=>decide (kv.1=k):=by
 unfold KV at r
 induction r with
 |nil=>rfl
 |cons h t ih=>rw[List.any_cons,List.any_cons,ih,h.1]
theorem KV.repl{kvs:List (κ×V)}{vs:List (κ×Value)}(r:KV kvs vs)(k:κ){y:V}{u:Value}(ry:zby y u) :
  KV (kvs.map λkv=>if kv.1=k then (kv.1,y) else kv) (vs.map λkv=>if kv.1=k then (kv.1,u) else kv):=by
 unfold KV at r ⊢
 induction r with
 |nil=>exact .nil
 |@cons p q ps qs h t ih =>
  rw[List.map_cons,List.map_cons];refine .cons ?_ ih;obtain ⟨h1,h2⟩:=h;by_cases e:p.1=k
  ·rw[if_pos e,if_pos (h1.symm.trans e)];exact ⟨h1,ry⟩
  ·rw[if_neg e,if_neg (λz=>e (h1.trans z))];exact ⟨h1,h2⟩
theorem KV.put{kvs:List (κ×V)}{vs:List (κ×Value)}(r:KV kvs vs)(k:κ){y:V}{u:Value}(ry:zby y u):KV (zst kvs k y) (stored vs k u):=by
 unfold zst stored;rw[r.any k];by_cases e:(vs.any λkv=>decide (kv.1=k))=true
 ·rw[if_pos e,if_pos e];exact r.repl k ry
 ·rw[if_neg e,if_neg e];exact Paired.snoc r ⟨rfl,ry⟩
theorem KV.drop{kvs:List (κ×V)}{vs:List (κ×Value)}(r:KV kvs vs)(k:κ):KV (zwb kvs k) (without vs k):=by
 unfold KV at r ⊢;unfold zwb without
 induction r with
 |nil=>exact .nil
 |@cons p q ps qs h t ih =>
  obtain ⟨h1,h2⟩:=h;rw[List.filter_cons,List.filter_cons];by_cases e:p.1=k
  ·have a:¬ decide (p.1≠k)=true:=by simp[e]
   have b:¬ decide (q.1≠k)=true:=by simp[h1.symm.trans e]
   rw[if_neg a,if_neg b];exact ih
  ·have e':¬ q.1=k:=λz=>e (h1.trans z);have a:decide (p.1≠k)=true:=by simp[e]
   have b:decide (q.1≠k)=true:=by simp[e']
   rw[if_pos a,if_pos b];exact .cons ⟨h1,h2⟩ ih
theorem KV.length{kvs:List (κ×V)}{vs:List (κ×Value)}(r:KV kvs vs):kvs.length=vs.length:=Paired.length r
end
theorem zwM{P:Program}{w:World}{k:Key}{u:Value}(r:zby (kV k) u):(zf1 P w).is k u=true:=by
 cases k with
 |inl i=>obtain ⟨t,e⟩:=(show ∃ t,u=Value.int i t from r);subst e;exact zkG P w i t
 |inr x=>obtain ⟨t,e⟩:=(show ∃ t,u=Value.str x t from r);subst e;exact zli P w x t
theorem zeW{P:Program}{w:World}:∀{ks:List Key}{us:List Value},zaR (ks.map kV) us->ItemsAre (zf1 P w) ks us
 |[],_,r=>by rw[List.map_nil] at r;cases r;exact .nil
 |k::ks,_,r=>by
  rw[List.map_cons] at r;cases r with
  |cons h t=>exact .cons (zwM h) (zeW t)
abbrev KT(H:Hp):List (List Key×V)->List (List Key×Addr×Value)->Prop:=Paired λp q=>p.1=q.1/\H q.2.1=some (.tup (p.1.map kV))/\zby p.2 q.2.2
theorem KT.val{H:Hp}{kvs:List (List Key×V)}{xs:List (List Key×Addr×Value)}(r:KT H kvs xs)(k:List Key):zrH (zoi kvs k) ((atKey xs k).map (·.2)):=by
 induction r with
 |nil=>exact True.intro
 |@cons p q ps qs h t ih =>
  obtain ⟨h1,_,h2⟩:=h;by_cases e:p.1=k
  ·have e':q.1=k:=h1.symm.trans e;have b:atKey (q::qs) k=some q.2:=by simp[atKey,List.find?_cons,e']
   rw[ziu e,b];exact h2
  ·have e':¬ q.1=k:=λz=>e (h1.trans z);have b:atKey (q::qs) k=atKey qs k:=by simp[atKey,List.find?_cons,e']
   rw[zii e,b];exact ih
theorem KT.repl{H:Hp}{kvs:List (List Key×V)}{xs:List (List Key×Addr×Value)}(r:KT H kvs xs)(k:List Key){y:V}{u:Value}(ry:zby y u) :
  KT H (kvs.map λkv=>if kv.1=k then (kv.1,y) else kv) (xs.map (putAt k u)):=by
 induction r with
 |nil=>exact .nil
 |@cons p q ps qs h t ih =>
  rw[List.map_cons,List.map_cons];refine .cons ?_ ih;obtain ⟨h1,h2,h3⟩:=h;unfold putAt;by_cases e:p.1=k
  ·rw[if_pos e,if_pos (h1.symm.trans e)];exact ⟨h1,h2,ry⟩
  ·rw[if_neg e,if_neg (λz=>e (h1.trans z))];exact ⟨h1,h2,h3⟩
theorem KT.put{H:Hp}{kvs:List (List Key×V)}{xs:List (List Key×Addr×Value)}(r:KT H kvs xs)(k:List Key){b:Addr}{y:V}{u:Value}(hb:H b=some (.tup (k.map kV)))(ry:zby y u) :
  KT H (zst kvs k y) (storedH xs k b u):=by
 have e:(kvs.any λkv=>decide (kv.1=k))=(atKey xs k).isSome:=by rw[zmb,(r.val k).isSome_eq,Option.isSome_map]
 unfold zst storedH;rw[e];by_cases q:(atKey xs k).isSome=true
 ·rw[if_pos q,if_pos q];exact r.repl k ry
 ·rw[if_neg q,if_neg q];exact Paired.snoc r ⟨rfl,hb,ry⟩
theorem KT.keeps{H H':Hp}{kvs:List (List Key×V)}{xs:List (List Key×Addr×Value)}(r:KT H kvs xs)(ht:∀ b ys,H b=some (.tup ys)->H' b=some (.tup ys)):KT H' kvs xs :=
 Paired.mapP r λ_ _ z=>⟨z.1,ht _ _ z.2.1,z.2.2⟩
section
variable{P:Program}{w:World}{H:Hp}{h:Heap}{a:Addr}
end
def DGet(H:Hp)(a:Addr)(y:V)(r:Option V):Prop :=
 (∃ kvs k,Rd H a (.dK kvs)/\y=kV k/\r=zoi kvs k)\/∃ kvs k b,Rd H a (.dT kvs)/\y=.ref b/\H b=some (.tup (k.map kV))/\r=zoi kvs k
def DPut(H:Hp)(a:Addr)(y v:V)(H':Hp):Prop :=
 (∃ kvs k,H a=some (.dK kvs)/\y=kV k/\kvs.length<sizeLine/\H'=upd H a (.dK (zst kvs k v))) \/
 ∃ kvs k b,H a=some (.dT kvs)/\y=.ref b/\H b=some (.tup (k.map kV))/\kvs.length<sizeLine/\H'=upd H a (.dT (zst kvs k v))
theorem DGet.k{H:Hp}{a:Addr}{kvs:List (Key×V)}{k:Key}(e:H a=some (.dK kvs)):DGet H a (kV k) (zoi kvs k):=.inl ⟨kvs,k,.inl e,rfl,rfl⟩
theorem DPut.k{H:Hp}{a:Addr}{kvs:List (Key×V)}{k:Key}{v:V}(e:H a=some (.dK kvs))(hl:kvs.length<sizeLine):DPut H a (kV k) v (upd H a (.dK (zst kvs k v))):=.inl ⟨kvs,k,e,rfl,hl,rfl⟩
section
variable{X:Cx}{pS:List (Addr×Obj)}{Y:St}{H:Hp}{s:Shared}{a:Addr}{y v:V}{u r:Value}{o:Option V}{A:Around}{E:Value->Shared->Prop}
end
section
variable{X:Cx}{pS:List (Addr×Obj)}{Y:St}{H:Hp}{s:Shared}{a:Addr}{kvs:List (Key×V)}{k:Key}{u:Value}{A:Around}{E:Value->Shared->Prop}
end
section
variable{X:Cx}{o i e value:Expr}{pos pos' tpos:Pos}{td ty tv:TE}
end
section
variable{X:Cx}{pos:Pos}
end
structure M1(X:Cx)(o:Expr)(m:Str)(apos:Pos)(e:Expr)(cpos:Pos):Prop where
 base:attributeBase o m X.env (eval o X.env)=eval o X.env
 few:((backTo cpos (starEach [e] X.env)).all (λx=>!x.1) && (backToKw cpos (keywordEach [] X.env)).all (λx=>x.1.isSome)
  && decide (([e]:List Expr).length+([]:List Keyword).length+(if ([]:List Keyword).isEmpty then 0 else 1)<30))=true
 line:(apos.endLine == cpos.line)=true
 trees:backTo cpos (starEach [e] X.env)=[(false,eval e X.env)]
structure M2(X:Cx)(o:Expr)(m:Str)(apos:Pos)(e f:Expr)(cpos:Pos):Prop where
 base:attributeBase o m X.env (eval o X.env)=eval o X.env
 few:((backTo cpos (starEach [e,f] X.env)).all (λx=>!x.1) && (backToKw cpos (keywordEach [] X.env)).all (λx=>x.1.isSome)
  && decide (([e,f]:List Expr).length+([]:List Keyword).length+(if ([]:List Keyword).isEmpty then 0 else 1)<30))=true
 line:(apos.endLine == cpos.line)=true
 trees:backTo cpos (starEach [e,f] X.env)=[(false,eval e X.env),(false,eval f X.env)]
section
variable{X:Cx}{pS:List (Addr×Obj)}{Y:St}{H:Hp}{s:Shared}{a:Addr}{y d:V}{u r:Value}{o:Option V}{A:Around}{E:Value->Shared->Prop}
end
section
variable{X:Cx}{o e f:Expr}{apos cpos:Pos}{td ty tx:TE}
end
end L2
end
section
namespace PV
open PySem PySem.Spec L2
inductive Dt where
 |non|bl (b:Bool)|int (i:Int)|str (x:Str)|tup (l:List Dt)|lst (l:List Dt)|dct (ks:List (Int×Int))|scr (ns:List Int)
inductive B where
 |val (d:Dt)|own (l:List Dt)|own2 (l:List (List Dt))|dic (l:List (Int×Dt))|tab (q:Str)|opq|exc (C:Addr)
abbrev Ev:=List (Option B)
inductive R(α:Type) where
 |ok (a:α)|er (n:Nat)|no
def R.bind{α β:Type}(r:R α)(f:α->R β):R β:=match r with
 |.ok a=>f a
 |.er n=>.er n
 |.no=>.no
@[simp] theorem R.bind_ok {α β:Type} (a:α) (f:α->R β):(R.ok a).bind f=f a:=rfl
@[simp] theorem R.bind_er {α β:Type} (n:Nat) (f:α->R β):(R.er n).bind f=.er n:=rfl
@[simp] theorem R.bind_no {α β:Type} (f:α->R β):(R.no).bind f=.no:=rfl
theorem R.bind_assoc{α β γ:Type}(r:R α)(f:α->R β)(g:β->R γ):(r.bind f).bind g=r.bind λa=>(f a).bind g:=by
 cases r <;> rfl
def zhT(K:W.Frag)(H:Hp)(a:Addr)(xs:List V):Prop :=
 H a=some (.tup xs)\/∃(its:Array Value)(n:Nat),K.lookup a=some { cls:=.type "tuple",data:=.seq its n }/\its.size<=sizeLine/\zaR xs its.toList
theorem zhT.of{K:W.Frag}{H:Hp}{a:Addr}{xs:List V}(h:H a=some (.tup xs)):zhT K H a xs:=.inl h
theorem zhT.sq{K:W.Frag}{H:Hp}{a:Addr}{xs:List V}(h:zhT K H a xs):SqT K H a xs:=by
 rcases h with h|⟨its,n,h1,h2,h3⟩
 ·exact .inl (.inl h)
 ·exact .inr ⟨_,its,n,h1,rfl,rfl,h2,h3⟩
theorem zhT.same{K:W.Frag}{H H':Hp}{a:Addr}{xs:List V}(e:zcz H H')(h:zhT K H a xs):zhT K H' a xs:=h.elim (λz=>.inl (e _ _ z)) .inr
mutual
def Rep(K:W.Frag)(G:Hp):Dt->V->Prop
 |.non,v=>v=.non
 |.bl b,v=>v=.bl b
 |.int i,v=>v=.int i
 |.str x,v=>v=.str x
 |.tup l,v=>∃ a vs,v=.ref a/\zhT K G a vs/\za2 K G l vs
 |.lst l,v=>∃ a vs,v=.ref a/\G a=some (.lst vs)/\za2 K G l vs
 |.dct ks,v=>∃ a,v=.ref a/\G a=some (.dK (ks.map λp=>(.inl p.1,.int p.2)))
 |.scr ns,v=>∃ a,v=.ref a/\SqL K G a (ns.map V.int)
def za2(K:W.Frag)(G:Hp):List Dt->List V->Prop
 |[],vs=>vs=[]
 |d::ds,vs=>∃ v r,vs=v::r/\Rep K G d v/\za2 K G ds r
end
theorem zaE{K:W.Frag}{H H':Hp}{a:Addr}{xs:List V}(e:zcz H H')(h:SqT K H a xs):SqT K H' a xs:=by
 rcases h with (h|⟨o,h⟩)|h
 ·exact .inl (.inl (e _ _ h))
 ·exact .inl (.inr ⟨o,e _ _ h⟩)
 ·exact .inr h
mutual
theorem Rep.same{K:W.Frag}{G G':Hp}(e:zcz G G'):∀{d:Dt}{v:V},Rep K G d v->Rep K G' d v
 |.non,_,h=>by unfold Rep at h ⊢;exact h
 |.bl _,_,h=>by unfold Rep at h ⊢;exact h
 |.int _,_,h=>by unfold Rep at h ⊢;exact h
 |.str _,_,h=>by unfold Rep at h ⊢;exact h
 |.tup l,_,h=>by unfold Rep at h ⊢;obtain ⟨a,vs,h1,h2,h3⟩:=h;exact ⟨a,vs,h1,h2.same e,za2.same e h3⟩
 |.lst l,_,h=>by unfold Rep at h ⊢;obtain ⟨a,vs,h1,h2,h3⟩:=h;exact ⟨a,vs,h1,e _ _ h2,za2.same e h3⟩
 |.dct _,_,h=>by unfold Rep at h ⊢;obtain ⟨a,h1,h2⟩:=h;exact ⟨a,h1,e _ _ h2⟩
 |.scr ns,_,h=>by unfold Rep at h ⊢;obtain ⟨a,h1,h2⟩:=h;exact ⟨a,h1,e.seq h2⟩
theorem za2.same{K:W.Frag}{G G':Hp}(e:zcz G G'):∀{ds:List Dt}{vs:List V},za2 K G ds vs->za2 K G' ds vs
 |[],_,h=>by unfold za2 at h ⊢;exact h
 |d::ds,_,h=>by unfold za2 at h ⊢;obtain ⟨v,r,h1,h2,h3⟩:=h;exact ⟨v,r,h1,Rep.same e h2,za2.same e h3⟩
end
theorem za2.nil{K:W.Frag}{G:Hp}:za2 K G [] []:=by unfold za2;rfl
theorem za2.cons{K:W.Frag}{G:Hp}{d:Dt}{ds:List Dt}{v:V}{vs:List V}(h:Rep K G d v)(t:za2 K G ds vs):za2 K G (d::ds) (v::vs):=by unfold za2;exact ⟨v,vs,rfl,h,t⟩
theorem za2.nil_inv{K:W.Frag}{G:Hp}{vs:List V}(h:za2 K G [] vs):vs=[]:=by unfold za2 at h;exact h
theorem za2.cons_inv{K:W.Frag}{G:Hp}{d:Dt}{ds:List Dt}{vs:List V}(h:za2 K G (d::ds) vs):∃ v r,vs=v::r/\Rep K G d v/\za2 K G ds r:=by unfold za2 at h;exact h
theorem za2.length{K:W.Frag}{G:Hp}:∀{ds:List Dt}{vs:List V},za2 K G ds vs->ds.length=vs.length
 |[],_,h=>by rw[h.nil_inv];rfl
 |d::ds,_,h=>by obtain ⟨v,r,rfl,_,h3⟩:=h.cons_inv;simp[za2.length h3]
theorem za2.get{K:W.Frag}{G:Hp}:∀{ds:List Dt}{vs:List V}{i:Nat}{d:Dt},za2 K G ds vs->ds[i]? = some d->∃ v,vs[i]? = some v/\Rep K G d v
 |[],_,_,_,_,e=>by simp at e
 |d::ds,_,0,_,h,e=>by obtain ⟨v,r,rfl,h2,h3⟩:=h.cons_inv;simp at e;subst e;exact ⟨v,rfl,h2⟩
 |d::ds,_,i+1,_,h,e=>by obtain ⟨v,r,rfl,h2,h3⟩:=h.cons_inv;obtain ⟨u,e1,e2⟩:=za2.get (i:=i) h3 (by simpa using e);exact ⟨u,by simpa using e1,e2⟩
theorem za2.append{K:W.Frag}{G:Hp}:∀{ds es:List Dt}{vs us:List V},za2 K G ds vs->za2 K G es us->za2 K G (ds++es) (vs++us)
 |[],_,_,_,h,t=>by rw[h.nil_inv];exact t
 |d::ds,_,_,_,h,t=>by obtain ⟨v,r,rfl,h2,h3⟩:=h.cons_inv;exact za2.cons h2 (za2.append h3 t)
theorem za2.take{K:W.Frag}{G:Hp}:∀(n:Nat){ds:List Dt}{vs:List V},za2 K G ds vs->za2 K G (ds.take n) (vs.take n)
 |0,_,_,_=>by simpa using za2.nil
 |n+1,[],_,h=>by rw[h.nil_inv];simpa using za2.nil
 |n+1,d::ds,_,h=>by obtain ⟨v,r,rfl,h2,h3⟩:=h.cons_inv;exact za2.cons h2 (za2.take n h3)
theorem za2.drop{K:W.Frag}{G:Hp}:∀(n:Nat){ds:List Dt}{vs:List V},za2 K G ds vs->za2 K G (ds.drop n) (vs.drop n)
 |0,_,_,h=>h
 |n+1,[],_,h=>by rw[h.nil_inv];simpa using za2.nil
 |n+1,d::ds,_,h=>by obtain ⟨v,r,rfl,h2,h3⟩:=h.cons_inv;exact za2.drop n h3
theorem za2.reverse{K:W.Frag}{G:Hp}:∀{ds:List Dt}{vs:List V},za2 K G ds vs->za2 K G ds.reverse vs.reverse
 |[],_,h=>by rw[h.nil_inv];exact za2.nil
 |d::ds,_,h=>by obtain ⟨v,r,rfl,h2,h3⟩:=h.cons_inv;rw[List.reverse_cons,List.reverse_cons];exact (za2.reverse h3).append (za2.cons h2 za2.nil)
theorem za2.set{K:W.Frag}{G:Hp}{d:Dt}{v:V}(hv:Rep K G d v):∀(i:Nat){ds:List Dt}{vs:List V},za2 K G ds vs->za2 K G (ds.set i d) (vs.set i v)
 |_,[],_,h=>by rw[h.nil_inv];exact za2.nil
 |0,d'::ds,_,h=>by obtain ⟨v,r,rfl,h2,h3⟩:=h.cons_inv;exact za2.cons hv h3
 |i+1,d'::ds,_,h=>by obtain ⟨v,r,rfl,h2,h3⟩:=h.cons_inv;exact za2.cons h2 (za2.set hv i h3)
theorem za2.eraseIdx{K:W.Frag}{G:Hp}:∀(i:Nat){ds:List Dt}{vs:List V},za2 K G ds vs->za2 K G (ds.eraseIdx i) (vs.eraseIdx i)
 |_,[],_,h=>by rw[h.nil_inv];exact za2.nil
 |0,d'::ds,_,h=>by obtain ⟨v,r,rfl,h2,h3⟩:=h.cons_inv;exact h3
 |i+1,d'::ds,_,h=>by obtain ⟨v,r,rfl,h2,h3⟩:=h.cons_inv;exact za2.cons h2 (za2.eraseIdx i h3)
abbrev Wn:=Addr->Option Nat
structure zbj(G H:Hp)(w:Wn)(G' H':Hp)(w':Wn):Prop where
 g:zcz G G'
 fr:∀ b o,G' b=some o->G b≠none\/H b=none\/w b≠none
 h:∀ b o,H b=some o->w b=none->H' b=some o
 w:∀ b,w' b≠none->w b≠none\/H b=none
 k:∀ b,H' b=none->H b=none
theorem zbj.refl(G H:Hp)(w:Wn):zbj G H w G H w :=
 ⟨zcz.refl G,λb o e=>.inl (by rw[e];simp),λ_ _ e _=>e,λ_ e=>.inl e,λ_ e=>e⟩
theorem zbj.trans{G H G1 H1 G2 H2:Hp}{w w1 w2:Wn}(a:zbj G H w G1 H1 w1)(b:zbj G1 H1 w1 G2 H2 w2):zbj G H w G2 H2 w2:=by
 have hn:=a.k;refine ⟨a.g.trans b.g,λc o e=>?_,λc o e z=>?_,λc e=>?_,λc e=>a.k c (b.k c e)⟩
 ·rcases b.fr c o e with q|q|q
  ·cases q':G1 c with
   |none=>exact absurd q' q
   |some u=>exact a.fr c u q'
  ·exact .inr (.inl (hn c q))
  ·rcases a.w c q with z|z
   ·exact .inr (.inr z)
   ·exact .inr (.inl z)
 ·have e1:=a.h c o e z;refine b.h c o e1 ?_;cases q:w1 c with
  |none=>rfl
  |some k =>
   rcases a.w c (by rw[q];simp) with r|r
   ·exact absurd z r
   ·rw[e] at r;cases r
 ·rcases b.w c e with q|q
  ·exact a.w c q
  ·exact .inr (hn c q)
structure Cn where
 G₀:Hp
 H₀:Hp
 w₀:Wn
 pp:List Nat
 σ₀:St
 ex:Nat->Prop
 xv:Nat->Value
 nw:Bool
def RtG(nw:Bool)(K:W.Frag)(H0 G H:Hp)(w:Wn)(d:Dt)(v:V):Prop:=match nw with
 |false=>Rep K G d v
 |true=>∃ l p vs,d=.lst l/\v=.ref p/\H0 p=none/\H p=some (.lst vs)/\G p=none/\w p=none/\za2 K G l vs
def cHO(c:Addr)(q:Str):HO:=.ext λh=>h.CodeRec (.ref c) q
def xHO(l C:Addr):HO:=.ext λh=>∃ o vs,h.get? l=some o/\o.cls=.ref C/\o.data=.fields vs
def RB(K:W.Frag)(G H:Hp)(w:Wn)(i:Nat)(v:V):B->Prop
 |.val d=>Rep K G d v
 |.own ds=>∃ a vs,v=.ref a/\w a=some i/\H a=some (.lst vs)/\za2 K G ds vs
 |.own2 dss=>∃ a as,v=.ref a/\w a=some i/\H a=some (.lst (as.map V.ref))/\(a::as).Nodup/\Paired (λb ds=>w b=some i/\∃ vs,H b=some (.lst vs)/\za2 K G ds vs) as dss
 |.tab q=>∃ P ps,v=.ref P/\w P=some i/\H P=some (.tbl ps)/\TriplesOk ps.toList/\∀ pos cv,codeAmong pos ps.toList=some cv->∃ c,cv=.ref c/\G c=some (cHO c q)
 |.dic ds=>∃ a us,v=.ref a/\w a=some i/\H a=some (.dK us)/\Paired (λ(p:Int×Dt) (q:Key×V)=>q.1=.inl p.1/\Rep K G p.2 q.2) ds us
 |.opq=>True
 |.exc C=>∃ l,v=.ref l/\G l=some (xHO l C)
structure Rel(K:W.Frag)(C:Cn)(G:Hp)(w:Wn)(Z:Ev)(Y:St)(H:Hp):Prop where
 gh:zcz G H
 wg:∀ b,w b≠none->G b=none
 wh:∀ b,w b≠none->H b≠none
 len:Z.length = Y.length
 sl:∀ i b,Z[i]? = some (some b)->∃ v,Y[i]? = some (some v)/\RB K G H w i v b
 en:zbj C.G₀ C.H₀ C.w₀ G H w
 pin:∀ i∈C.pp,Y[i]? = C.σ₀[i]?
structure zeF(G H G' H':Hp):Prop where
 g:zcz G G'
 h:zcz H H'
 gh:zcz G' H'
 fr:∀ b o,G' b=some o->G b≠none\/H b=none
theorem zeF.refl{G H:Hp}(e:zcz G H):zeF G H G H:=⟨.refl _,.refl _,e,λb o q=>.inl (by rw[q];simp)⟩
theorem zeF.trans{G H G1 H1 G2 H2:Hp}(a:zeF G H G1 H1)(b:zeF G1 H1 G2 H2):zeF G H G2 H2 :=
 ⟨a.g.trans b.g,a.h.trans b.h,b.gh,λc o e=>by
  rcases b.fr c o e with q|q
  ·cases q':G1 c with
   |none=>exact absurd q' q
   |some u=>exact a.fr c u q'
  ·exact .inr (a.h.free q)⟩
theorem zeF.step{G H G' H':Hp}{w:Wn}(a:zeF G H G' H'):zbj G H w G' H' w :=
 ⟨a.g,λb o e=>(a.fr b o e).elim .inl λz=>.inr (.inl z),λb o e _=>a.h b o e,λ_ e=>.inl e,λ_ e=>a.h.free e⟩
theorem zdO{α β:Type}{F F':α->β->Prop}(f:∀ a b,F a b->F' a b):∀{l₁:List α}{l₂:List β},Paired F l₁ l₂->Paired F' l₁ l₂
 |_,_,.nil=>.nil
 |_,_,.cons r t=>.cons (f _ _ r) (zdO f t)
theorem RB.grow{K:W.Frag}{G H G' H':Hp}{w w':Wn}{i j:Nat}{v:V}{b:B}(g:zcz G G')(h:∀ a o,w a=some i->H a=some o->H' a=some o/\w' a=some j)(r:RB K G H w i v b):RB K G' H' w' j v b:=by
 cases b with
 |val d=>exact Rep.same g r
 |own ds =>
  obtain ⟨a,vs,h1,h2,h3,h4⟩:=r;obtain ⟨e1,e2⟩:=h a _ h2 h3;exact ⟨a,vs,h1,e2,e1,za2.same g h4⟩
 |own2 dss =>
  obtain ⟨a,as,h1,h2,h3,h4,h5⟩:=r;obtain ⟨e1,e2⟩:=h a _ h2 h3;refine ⟨a,as,h1,e2,e1,h4,zdO (λb ds ⟨q1,vs,q2,q3⟩=>?_) h5⟩;obtain ⟨e1,e2⟩:=h b _ q1 q2;exact ⟨e2,vs,e1,za2.same g q3⟩
 |tab q =>
  obtain ⟨P,ps,h1,h2,h3,h4,h5⟩:=r;obtain ⟨e1,e2⟩:=h P _ h2 h3;exact ⟨P,ps,h1,e2,e1,h4,λpos cv e=>let ⟨c,q1,q2⟩:=h5 pos cv e;⟨c,q1,g _ _ q2⟩⟩
 |dic ds =>
  obtain ⟨a,us,h1,h2,h3,h4⟩:=r;obtain ⟨e1,e2⟩:=h a _ h2 h3;exact ⟨a,us,h1,e2,e1,zdO (λp q z=>⟨z.1,Rep.same g z.2⟩) h4⟩
 |opq=>exact trivial
 |exc C =>
  obtain ⟨l,h1,h2⟩:=r;exact ⟨l,h1,g _ _ h2⟩
theorem Rel.grow{K:W.Frag}{C:Cn}{G H G' H':Hp}{w:Wn}{Z:Ev}{Y:St}(r:Rel K C G w Z Y H)(a:zeF G H G' H'):Rel K C G' w Z Y H':=by
 refine ⟨a.gh,λb e=>?_,λb e z=>r.wh b e (a.h.free z),r.len,λi b e=>?_,r.en.trans a.step,r.pin⟩
 ·cases q:G' b with
  |none=>rfl
  |some o =>
   rcases a.fr b o q with z|z
   ·exact absurd (r.wg b e) z
   ·exact absurd z (r.wh b e)
 ·obtain ⟨v,h1,h2⟩:=r.sl i b e;exact ⟨v,h1,h2.grow a.g λa' o e1 e2=>⟨a.h _ _ e2,e1⟩⟩
theorem zeF.new{G H:Hp}{p:Addr}{o:HO}(gh:zcz G H)(hp:H p=none):zeF G H (upd G p o) (upd H p o):=by
 refine ⟨λb u e=>?_,λb u e=>?_,λb u e=>?_,λb u e=>?_⟩
 ·rw[zar (zaq (gh b u e) hp)];exact e
 ·rw[zar (zaq e hp)];exact e
 ·by_cases hb:b=p
  ·subst hb;rw[za1] at e ⊢;exact e
  ·rw[zar hb] at e ⊢;exact gh b u e
 ·by_cases hb:b=p
  ·subst hb;exact .inr hp
  ·rw[zar hb] at e;exact .inl (by rw[e];simp)
theorem zeF.newH{G H:Hp}{p:Addr}{o:HO}(gh:zcz G H)(hp:H p=none):zeF G H G (upd H p o):=by
 refine ⟨.refl _,λb u e=>?_,λb u e=>?_,λb u e=>.inl (by rw[e];simp)⟩
 ·rw[zar (zaq e hp)];exact e
 ·rw[zar (zaq (gh b u e) hp)];exact gh b u e
def zbV{α:Type}(ex:Nat->Prop)(κ:α->Prop):R α->Prop
 |.ok a=>κ a
 |.er n=>ex n
 |.no=>False
def kE(K:W.Frag)(C:Cn)(Y:St)(Q:VK)(G H:Hp)(w:Wn)(a:Dt×Ev):Prop :=
 ∀ v G' H' w',zbj G H w G' H' w'->Rel K C G' w' a.2 Y H'->Rep K G' a.1 v->Q v H'
def kT(K:W.Frag)(C:Cn)(Y:St)(Q:Bool->Hp->Prop)(G H:Hp)(w:Wn)(a:Bool×Ev):Prop :=
 ∀ G' H' w',zbj G H w G' H' w'->Rel K C G' w' a.2 Y H'->Q a.1 H'
def kN(K:W.Frag)(C:Cn)(Y:St)(Q:VK)(G H:Hp)(w:Wn)(a:List Dt×Ev):Prop :=
 ∀ p vs G' H' w',zbj G H w G' H' w'->Rel K C G' w' a.2 Y H'->H p=none->H' p=some (.lst vs)->G' p=none->w' p=none->za2 K G' a.1 vs->Q (.ref p) H'
inductive Fl where
 |nx|bk|ct|rt (d:Dt)
def kS(K:W.Frag)(C:Cn)(D:zrG)(G H:Hp)(w:Wn)(a:Fl×Ev):Prop :=
 match a.1 with
 |.nx=>∀ Y' G' H' w',zbj G H w G' H' w'->Rel K C G' w' a.2 Y' H'->D.nx Y' H'
 |.bk=>∀ Y' G' H' w',zbj G H w G' H' w'->Rel K C G' w' a.2 Y' H'->D.bk Y' H'
 |.ct=>∀ Y' G' H' w',zbj G H w G' H' w'->Rel K C G' w' a.2 Y' H'->D.ct Y' H'
 |.rt d=>∀ v Y' G' H' w',zbj G H w G' H' w'->Rel K C G' w' a.2 Y' H'->RtG C.nw K C.H₀ G' H' w' d v->D.rt v H'
abbrev De:=Ev->R (Dt×Ev)
abbrev DT:=Ev->R (Bool×Ev)
abbrev DN:=Ev->R (List Dt×Ev)
abbrev DS:=Ev->R (Fl×Ev)
def tE(K:W.Frag)(C:Cn)(f:De):TE:=λY H Q=>∃ G w Z,Rel K C G w Z Y H/\zbV C.ex (kE K C Y Q G H w) (f Z)
def tT(K:W.Frag)(C:Cn)(f:DT):TT:=λY H Q=>∃ G w Z,Rel K C G w Z Y H/\zbV C.ex (kT K C Y Q G H w) (f Z)
def tN(K:W.Frag)(C:Cn)(f:DN):TE:=λY H Q=>∃ G w Z,Rel K C G w Z Y H/\zbV C.ex (kN K C Y Q G H w) (f Z)
def tS(K:W.Frag)(C:Cn)(f:DS):TS:=λD Y H=>∃ G w Z,Rel K C G w Z Y H/\zbV C.ex (kS K C D G H w) (f Z)
abbrev JE(X:Cx)(C:Cn)(e:Expr)(f:De):Prop:=PE X e (tE X.K C f)
abbrev JT(X:Cx)(C:Cn)(e:Expr)(f:DT):Prop:=PT X e (tT X.K C f)
abbrev JW(X:Cx)(C:Cn)(e:Expr)(f:DT):Prop:=PW X e (tT X.K C f)
abbrev JN(X:Cx)(C:Cn)(e:Expr)(f:DN):Prop:=PE X e (tN X.K C f)
abbrev JS(X:Cx)(C:Cn)(st:Stmt)(f:DS):Prop:=PS X st (tS X.K C f)
abbrev JSs(X:Cx)(C:Cn)(st:List Stmt)(f:DS):Prop:=PSs X st (tS X.K C f)
abbrev zpA(α:Type):=Hp->Hp->Wn->α->Prop
def Stp{α:Type}(κ:zpA α):Prop:=∀ G H w G1 H1 w1 a,zbj G H w G1 H1 w1->κ G H w a->κ G1 H1 w1 a
section
variable{K:W.Frag}{C:Cn}{Y:St}
theorem zbU{Q:VK}:Stp (λG H w=>kE K C Y Q G H w):=λ_ _ _ _ _ _ _ s k v G' H' w' s'=>k v G' H' w' (s.trans s')
theorem zrc{Q:Bool->Hp->Prop}:Stp (λG H w=>kT K C Y Q G H w):=λ_ _ _ _ _ _ _ s k G' H' w' s'=>k G' H' w' (s.trans s')
theorem zfI{Q:VK}:Stp (λG H w=>kN K C Y Q G H w):=λG H w G1 H1 w1 _ s k p vs G' H' w' s' r q1 q2 q3 q4 q5 =>
 k p vs G' H' w' (s.trans s') r (s.k p q1) q2 q3 q4 q5
theorem zdw{D:zrG}:Stp (λG H w=>kS K C D G H w):=λG H w G1 H1 w1 a s k=>by
 obtain ⟨f,Z⟩:=a;cases f with
 |nx=>exact λY' G' H' w' s'=>k Y' G' H' w' (s.trans s')
 |bk=>exact λY' G' H' w' s'=>k Y' G' H' w' (s.trans s')
 |ct=>exact λY' G' H' w' s'=>k Y' G' H' w' (s.trans s')
 |rt d=>exact λv Y' G' H' w' s'=>k v Y' G' H' w' (s.trans s')
theorem zbV.step{α:Type}{ex:Nat->Prop}{κ:zpA α}(st:Stp κ){G H G1 H1:Hp}{w w1:Wn}(s:zbj G H w G1 H1 w1):∀{r:R α},zbV ex (κ G H w) r->zbV ex (κ G1 H1 w1) r
 |.ok _,p=>st _ _ _ _ _ _ _ s p
 |.er _,p=>p
 |.no,p=>p
theorem zee{α:Type}{κ:zpA α}(st:Stp κ){G H:Hp}{w:Wn}{Z:Ev}{fa:De}{g:Dt×Ev->R α}{Q:VK}(r:Rel K C G w Z Y H)(p:zbV C.ex (κ G H w) ((fa Z).bind g))
  (k:∀ d Z1 v G1 H1 w1,Rel K C G1 w1 Z1 Y H1->zbj G H w G1 H1 w1->Rep K G1 d v->zbV C.ex (κ G1 H1 w1) (g (d,Z1))->Q v H1):tE K C fa Y H Q:=by
 refine ⟨G,w,Z,r,?_⟩;cases e:fa Z with
 |ok a =>
  rw[e] at p;intro v G' H' w' s' r' q;exact k a.1 a.2 v G' H' w' r' s' q (zbV.step st s' p)
 |er n=>rw[e] at p;exact p
 |no=>rw[e] at p;exact p
theorem zuq{α:Type}{κ:zpA α}(st:Stp κ){G H:Hp}{w:Wn}{Z:Ev}{fa:DT}{g:Bool×Ev->R α}{Q:Bool->Hp->Prop}(r:Rel K C G w Z Y H)(p:zbV C.ex (κ G H w) ((fa Z).bind g))
  (k:∀ b Z1 G1 H1 w1,Rel K C G1 w1 Z1 Y H1->zbj G H w G1 H1 w1->zbV C.ex (κ G1 H1 w1) (g (b,Z1))->Q b H1):tT K C fa Y H Q:=by
 refine ⟨G,w,Z,r,?_⟩;cases e:fa Z with
 |ok a =>
  rw[e] at p;intro G' H' w' s' r';exact k a.1 a.2 G' H' w' r' s' (zbV.step st s' p)
 |er n=>rw[e] at p;exact p
 |no=>rw[e] at p;exact p
theorem zxc{α:Type}{κ:zpA α}{G H:Hp}{w:Wn}{Z:Ev}{fa:DN}{g:List Dt×Ev->R α}{Q:VK}(r:Rel K C G w Z Y H)(p:zbV C.ex (κ G H w) ((fa Z).bind g))
  (k:∀ ds Z1 a vs G1 H1 w1,Rel K C G1 w1 Z1 Y H1->zbj G H w G1 H1 w1->H a=none->H1 a=some (.lst vs)->G1 a=none->w1 a=none->za2 K G1 ds vs->zbV C.ex (κ G H w) (g (ds,Z1))->Q (.ref a) H1):tN K C fa Y H Q:=by
 refine ⟨G,w,Z,r,?_⟩;cases e:fa Z with
 |ok a =>
  rw[e] at p;intro v vs G' H' w' s' r' q1 q2 q3 q4 q5;exact k a.1 a.2 v vs G' H' w' r' s' q1 q2 q3 q4 q5 p
 |er n=>rw[e] at p;exact p
 |no=>rw[e] at p;exact p
end
section
variable{X:Cx}
theorem _root_.L2.PE.weak{e:Expr}{t t':TE}(h:PE X e t)(k:∀ Y H Q,t' Y H Q->t Y H Q):PE X e t':=λpS s Y H Q I q=>h pS s Y H Q I (k Y H Q q)
theorem _root_.L2.PT.weak{e:Expr}{t t':TT}(h:PT X e t)(k:∀ Y H Q,t' Y H Q->t Y H Q):PT X e t':=λpS s Y H Q I q=>h pS s Y H Q I (k Y H Q q)
theorem _root_.L2.PW.weak{e:Expr}{t t':TT}(h:PW X e t)(k:∀ Y H Q,t' Y H Q->t Y H Q):PW X e t':=λwh pS s Y H Q I q=>h wh pS s Y H Q I (k Y H Q q)
theorem _root_.L2.PA.weak{e:List Expr}{t t':TA}(h:PA X e t)(k:∀ Y H Q,t' Y H Q->t Y H Q):PA X e t':=λpos pS s Y H Q I q=>h pos pS s Y H Q I (k Y H Q q)
theorem _root_.L2.PS.weak{e:Stmt}{t t':TS}(h:PS X e t)(k:∀ D Y H,t' D Y H->t D Y H):PS X e t':=λpS s Y H D I q=>h pS s Y H D I (k D Y H q)
theorem _root_.L2.PSs.weak{e:List Stmt}{t t':TS}(h:PSs X e t)(k:∀ D Y H,t' D Y H->t D Y H):PSs X e t':=λpS s Y H D I q=>h pS s Y H D I (k D Y H q)
end
section
variable{K:W.Frag}{C:Cn}{Y:L2.St}{G H:Hp}{w:Wn}{Z:Ev}{i:Nat}{v:V}
theorem Rel.freeze{d:Dt}{b0:B}(r:Rel K C G w Z Y H)(S:List Addr)(hS:∀ b∈S,w b=some i)(hi:Z[i]? = some (some b0))(hv:Y[i]? = some (some v))
  (hr:Rep K (λb=>if b∈S then H b else G b) d v) :
  Rel K C (λb=>if b∈S then H b else G b) (λb=>if b∈S then none else w b) (Z.set i (some (.val d))) Y H /\
   zbj G H w (λb=>if b∈S then H b else G b) H (λb=>if b∈S then none else w b):=by
 have gS:∀ b∈S,G b=none:=λb hb=>r.wg b (by rw[hS b hb];simp);have st:zbj G H w (λb=>if b∈S then H b else G b) H (λb=>if b∈S then none else w b):=by
  refine ⟨λb o e=>?_,λb o e=>?_,λb o e _=>e,λb e=>?_,λ_ e=>e⟩
  ·have:b∉S:=λz=>by rw[gS b z] at e;cases e
   simp[this,e]
  ·by_cases hb:b∈S
   ·exact .inr (.inr (by rw[hS b hb];simp))
   ·simp[hb] at e;exact .inl (by rw[e];simp)
  ·by_cases hb:b∈S
   ·simp[hb] at e
   ·simp[hb] at e;exact .inl e
 refine ⟨⟨λb o e=>?_,λb e=>?_,λb e=>?_,by simpa using r.len,λj b e=>?_,r.en.trans st,r.pin⟩,st⟩
 ·by_cases hb:b∈S
  ·simp[hb] at e;exact e
  ·simp[hb] at e;exact r.gh b o e
 ·by_cases hb:b∈S
  ·simp[hb] at e
  ·simp[hb] at e ⊢;exact r.wg b e
 ·by_cases hb:b∈S
  ·simp[hb] at e
  ·simp[hb] at e;exact r.wh b e
 ·by_cases hj:j=i
  ·subst hj;rw[List.getElem?_set_self (List.getElem?_eq_some_iff.mp hi).1] at e;cases e;exact ⟨v,hv,hr⟩
  ·rw[List.getElem?_set_ne (Ne.symm hj)] at e;obtain ⟨v',h1,h2⟩:=r.sl j b e;refine ⟨v',h1,h2.grow st.g λa o e1 e2=>⟨e2,?_⟩⟩;have:a∉S:=λz=>by rw[hS a z] at e1;exact hj (waA e1).symm
   simp[this,e1]
end
def zab(i:Nat):De:=λZ=>match Z[i]? with
 |some (some (.val d))=>.ok (d,Z)
 |_=>.no
def zlt(i:Nat):De:=λZ=>match Z[i]? with
 |some (some (.val d))=>.ok (d,Z)
 |some (some (.own ds))=>.ok (.lst ds,Z.set i (some (.val (.lst ds))))
 |some (some (.own2 dss))=>.ok (.lst (dss.map .lst),Z.set i (some (.val (.lst (dss.map .lst)))))
 |_=>.no
theorem zhc{K:W.Frag}{G:Hp}:∀{as:List Addr}{dss:List (List Dt)},Paired (λb ds=>∃ vs,G b=some (.lst vs)/\za2 K G ds vs) as dss->za2 K G (dss.map .lst) (as.map V.ref)
 |_,_,.nil=>za2.nil
 |a::as,ds::dss,.cons ⟨vs,h1,h2⟩ t=>za2.cons (by unfold Rep;exact ⟨a,vs,rfl,h1,h2⟩) (zhc t)
theorem zcA{α β:Type}{F:α->β->Prop}:∀{l₁:List α}{l₂:List β},Paired F l₁ l₂->∀ a∈l₁,∃ b,F a b
 |_,_,.cons r t,a,h=>by
  rcases wap.mp h with rfl|h
  ·exact ⟨_,r⟩
  ·exact zcA t a h
theorem zbq{α β:Type}{F F':α->β->Prop}:∀{l₁:List α}{l₂:List β},Paired F l₁ l₂->(∀ a b,a∈l₁->F a b->F' a b)->Paired F' l₁ l₂
 |_,_,.nil,_=>.nil
 |_,_,.cons r t,f=>.cons (f _ _ wau r) (zbq t λa b h=>f a b (wah _ h))
section
variable{X:Cx}{C:Cn}
theorem zaa(i:Nat){x:Str}{pos:Pos}(hN:X.N[i]? = some x:=by rfl)(hv:Vis X.env.scope x:=by exact xwV)(hd:(x == ("__debug__" : Str))=false:=by decide)
  (hcd:(x == ("__classdict__" : Str))=false:=by decide):JE X C (.Name x pos) (zab i):=(zdk hN hv hd hcd).weak λY H Q ⟨G,w,Z,r,p⟩=>by
 unfold zab at p;split at p
 ·rename_i d e;obtain ⟨v,h1,h2⟩:=r.sl i _ e;exact ⟨v,h1,p v G H w (.refl _ _ _) r h2⟩
 ·exact p.elim
theorem zhK(i:Nat){x:Str}{pos:Pos}(hN:X.N[i]? = some x:=by rfl)(hv:Vis X.env.scope x:=by exact xwV)(hd:(x == ("__debug__" : Str))=false:=by decide)
  (hcd:(x == ("__classdict__" : Str))=false:=by decide):JE X C (.Name x pos) (zlt i):=(zdk hN hv hd hcd).weak λY H Q ⟨G,w,Z,r,p⟩=>by
 unfold zlt at p;split at p
 ·rename_i d e;obtain ⟨v,h1,h2⟩:=r.sl i _ e;exact ⟨v,h1,p v G H w (.refl _ _ _) r h2⟩
 ·rename_i ds e;obtain ⟨v,h1,a,vs,rfl,h2,h3,h4⟩:=r.sl i _ e;have hr:Rep X.K (λb=>if b∈[a] then H b else G b) (.lst ds) (.ref a):=by
   unfold Rep;refine ⟨a,vs,rfl,(by simp[h3]),za2.same (λb o e=>?_) h4⟩;have:b≠a:=λz=>by subst z;rw[r.wg b (by rw[h2];simp)] at e;cases e
   simp[this,e]
  obtain ⟨r',s'⟩:=r.freeze [a] (λb hb=>by simp at hb;subst hb;exact h2) e h1 hr;exact ⟨_,h1,p _ _ _ _ s' r' hr⟩
 ·rename_i dss e;obtain ⟨v,h1,a,as,rfl,h2,h3,h4,h5⟩:=r.sl i _ e;have hS:∀ b∈a::as,w b=some i:=λb hb=>by
   rcases wap.mp hb with rfl|hb
   ·exact h2
   ·obtain ⟨_,z,_⟩:=zcA h5 b hb;exact z
  have sg:zcz G (λb=>if b∈a::as then H b else G b):=λb o e=>by
   have:b∉a::as:=λz=>by rw[r.wg b (by rw[hS b z];simp)] at e;cases e
   simp only[this,if_false];exact e
  have hr:Rep X.K (λb=>if b∈a::as then H b else G b) (.lst (dss.map .lst)) (.ref a):=by unfold Rep;refine ⟨a,as.map V.ref,rfl,(by simp[h3]),zhc (zbq h5 λb ds hb ⟨q1,vs,q2,q3⟩=>⟨vs,?_,za2.same sg q3⟩)⟩;simp[hb,q2]
  obtain ⟨r',s'⟩:=r.freeze (a::as) hS e h1 hr;exact ⟨_,h1,p _ _ _ _ s' r' hr⟩
 ·exact p.elim
def dC(d:Dt):De:=λZ=>.ok (d,Z)
theorem zat{i j pos}:JE X C (.Constant (.int i) j pos) (dC (.int i)):=PE.weak znX λY H Q ⟨G,w,Z,r,p⟩=>p _ G H w (.refl _ _ _) r (by unfold Rep;rfl)
theorem zgx{b j pos}:JE X C (.Constant (.bool b) j pos) (dC (.bl b)):=PE.weak zuQ λY H Q ⟨G,w,Z,r,p⟩=>p _ G H w (.refl _ _ _) r (by unfold Rep;rfl)
theorem zhg{x j pos}:JE X C (.Constant (.str x) j pos) (dC (.str x)):=PE.weak zvy λY H Q ⟨G,w,Z,r,p⟩=>p _ G H w (.refl _ _ _) r (by unfold Rep;rfl)
theorem zsn{x:Str}{i:Int}{t:Tok}{pos:Pos}(hg:Gl X x)(hm:X.mg x=some (.int i t))(hd:(x == ("__debug__" : Str))=false:=by decide):JE X C (.Name x pos) (dC (.int i)) :=
 (zoj (v:=.int i) hg hm ⟨t,rfl⟩ hd).weak λY H Q ⟨G,w,Z,r,p⟩=>p _ G H w (.refl _ _ _) r (by unfold Rep;rfl)
def dOp(g:Dt->Dt->R Dt)(fa fb:De):De:=λZ=>(fa Z).bind λa=>(fb a.2).bind λb=>(g a.1 b.1).bind λz=>.ok (z,b.2)
def Op2(K:W.Frag)(r:R2)(g:Dt->Dt->R Dt):Prop:=∀(G H:Hp)(x y:V)(dx dy z:Dt)(Q:VK),zcz G H->Rep K G dx x->Rep K G dy y->g dx dy=.ok z ->
 (∀ v G' H',zeF G H G' H'->Rep K G' z v->Q v H')->r x y H Q
def zix(g:Dt->Dt->R Dt):Prop:=∀ x y n,g x y≠.er n
variable{a b:Expr}{fa fb:De}{pos:Pos}
theorem zib{r:R2}{g:Dt->Dt->R Dt}{Y:L2.St}{H:Hp}{Q:VK}(h2:Op2 X.K r g)(he:zix g)(h:tE X.K C (dOp g fa fb) Y H Q):tOp r (tE X.K C fa) (tE X.K C fb) Y H Q:=by
 obtain ⟨G,w,Z,rr,p⟩:=h;refine zee (κ:=λG H w=>kE X.K C Y Q G H w) zbU rr p λd Z1 v G1 H1 w1 r1 s1 q1 p1=>?_;refine zee (κ:=λG H w=>kE X.K C Y Q G H w) zbU r1 p1 λd2 Z2 v2 G2 H2 w2 r2 s2 q2 p2=>?_;cases e:g d d2 with
 |ok z =>
  simp only[e,R.bind_ok] at p2;refine h2 G2 H2 v v2 d d2 z Q r2.gh (q1.same s2.g) q2 e λv3 G3 H3 gr q3=>?_;exact p2 v3 G3 H3 w2 gr.step (r2.grow gr) q3
 |er n=>exact absurd e (he _ _ _)
 |no=>simp only[e,R.bind_no] at p2;exact p2.elim
theorem zk8{op:Operator}{r:R2}{g:Dt->Dt->R Dt}(ho:OpR X (binaryOp op) r)(h2:Op2 X.K r g)(he:zix g)(ha:JE X C a fa)(hb:JE X C b fb):JE X C (.BinOp a op b pos) (dOp g fa fb) :=
 (zvc ho ha hb).weak λY H Q h=>zib h2 he h
theorem zvK{op:CmpOp}{r:R2}{g:Dt->Dt->R Dt}(ho:OpR X (compareOp op) r)(h2:Op2 X.K r g)(he:zix g)(ha:JE X C a fa)(hb:JE X C b fb)(hm:behindInMarks op b=false):JE X C (.Compare a [op] [b] pos) (dOp g fa fb) :=
 (zsy ho ha hb hm).weak λY H Q h=>zib h2 he h
def dTB(f:De):DT:=λZ=>(f Z).bind λa=>match a.1 with
 |.bl b=>.ok (b,a.2)
 |_=>.no
theorem zds{K:W.Frag}{G:Hp}{b:Bool}{v:V}(h:Rep K G (.bl b) v):v=.bl b:=by unfold Rep at h;exact h
theorem za3{K:W.Frag}{G:Hp}{b:Int}{v:V}(h:Rep K G (.int b) v):v=.int b:=by unfold Rep at h;exact h
theorem zf3{K:W.Frag}{G:Hp}{b:Str}{v:V}(h:Rep K G (.str b) v):v=.str b:=by unfold Rep at h;exact h
theorem zgO{K:W.Frag}{G:Hp}{v:V}(h:Rep K G .non v):v=.non:=by unfold Rep at h;exact h
theorem zcU{K:W.Frag}{G:Hp}{l:List Dt}{v:V}(h:Rep K G (.tup l) v):∃ a vs,v=.ref a/\zhT K G a vs/\za2 K G l vs:=by unfold Rep at h;exact h
theorem zb4{K:W.Frag}{G:Hp}{l:List Dt}{v:V}(h:Rep K G (.tup l) v):∃ a vs,v=.ref a/\SqT K G a vs/\za2 K G l vs:=by obtain ⟨a,vs,h1,h2,h3⟩:=zcU h;exact ⟨a,vs,h1,h2.sq,h3⟩
theorem zaK{K:W.Frag}{G:Hp}{l:List Dt}{v:V}(h:Rep K G (.lst l) v):∃ a vs,v=.ref a/\G a=some (.lst vs)/\za2 K G l vs:=by unfold Rep at h;exact h
theorem zkD{f:De}{Y:L2.St}{H:Hp}{Q:Bool->Hp->Prop}(h:tT X.K C (dTB f) Y H Q):tE X.K C f Y H λx H'=>∃ k,x=.bl k/\Q k H':=by
 obtain ⟨G,w,Z,r,p⟩:=h;refine zee (κ:=λG H w=>kT X.K C Y Q G H w) zrc r p λd Z1 v G1 H1 w1 r1 s1 q1 p1=>?_;cases d with
 |bl b=>exact ⟨b,zds q1,p1 G1 H1 w1 (.refl _ _ _) r1⟩
 |_=>exact p1.elim
theorem zh9{op:CmpOp}{r:R2}{g:Dt->Dt->R Dt}(ho:OpR X (compareOp op) r)(h2:Op2 X.K r g)(he:zix g)(ha:JE X C a fa)(hb:JE X C b fb)(hm:behindInMarks op b=false):JT X C (.Compare a [op] [b] pos) (dTB (dOp g fa fb)) :=
 (zo0 ho ha hb hm).weak λY H Q h=>by have h':=zkD h;exact zib h2 he h'
theorem zcC{e:Expr}{f:De}(h:JE X C e f)(he:∀ whole,isTrue e X.env whole=(do let v <- whole;standAt e.pos;holding [v] (truthy v)):=by intro _;rfl):JT X C e (dTB f) :=
 (zvN h he).weak λY H Q h=>zkD h
def zcK(f:DT):DT:=λZ=>(f Z).bind λa=>.ok (!a.1,a.2)
def zls(f g:DT):DT:=λZ=>(f Z).bind λa=>if a.1=true then g a.2 else .ok (false,a.2)
def zhy(f g:DT):DT:=λZ=>(f Z).bind λa=>if a.1=true then .ok (true,a.2) else g a.2
variable{tA tB':DT}{zaX:List Expr}
theorem zgJ(ha:JT X C a tA):JT X C (.UnaryOp .Not a pos) (zcK tA):=(zvq ha).weak λY H Q ⟨G,w,Z,r,p⟩ =>
 zuq (κ:=λG H w=>kT X.K C Y Q G H w) zrc r p λb Z1 G1 H1 w1 r1 s1 p1=>p1 G1 H1 w1 (.refl _ _ _) r1
theorem ztU(ha:JT X C a tA):JW X C (.BoolOp .And [a] pos) tA:=zt5 ha
theorem zjF(ha:JT X C a tA):JW X C (.BoolOp .Or [a] pos) tA:=zv9 ha
theorem zuZ(ha:JT X C a tA)(hb:JW X C (.BoolOp .And (b::zaX) pos) tB'):JW X C (.BoolOp .And (a::b::zaX) pos) (zls tA tB'):=(zvA ha hb).weak λY H Q ⟨G,w,Z,r,p⟩=>by
 refine zuq (κ:=λG H w=>kT X.K C Y Q G H w) zrc r p λb Z1 G1 H1 w1 r1 s1 p1=>?_;cases b with
 |true=>exact ⟨G1,w1,Z1,r1,p1⟩
 |false=>exact p1 G1 H1 w1 (.refl _ _ _) r1
theorem zjM(ha:JT X C a tA)(hb:JW X C (.BoolOp .Or (b::zaX) pos) tB'):JW X C (.BoolOp .Or (a::b::zaX) pos) (zhy tA tB'):=(zw7 ha hb).weak λY H Q ⟨G,w,Z,r,p⟩=>by
 refine zuq (κ:=λG H w=>kT X.K C Y Q G H w) zrc r p λb Z1 G1 H1 w1 r1 s1 p1=>?_;cases b with
 |true=>exact p1 G1 H1 w1 (.refl _ _ _) r1
 |false=>exact ⟨G1,w1,Z1,r1,p1⟩
theorem JW.jt{e:Expr}{f:DT}(h:JW X C e f):JT X C e f:=PW.pt h
def zkw(fa fb:De):De:=λZ=>(fa Z).bind λa=>match a.1 with
 |.bl true=>fb a.2
 |.bl false=>.ok (.bl false,a.2)
 |_=>.no
def dOr(fa fb:De):De:=λZ=>(fa Z).bind λa=>match a.1 with
 |.bl true=>.ok (.bl true,a.2)
 |.bl false=>fb a.2
 |_=>.no
def zwo(fa:De):De:=λZ=>(fa Z).bind λa=>match a.1 with
 |.bl b=>.ok (.bl (!b),a.2)
 |_=>.no
theorem zhS{op}{f:De}(h:JE X C a f):JE X C (.BoolOp op [a] pos) f:=zuV h
theorem zjf(ha:JE X C a fa)(hb:JE X C (.BoolOp .And (b::zaX) pos) fb):JE X C (.BoolOp .And (a::b::zaX) pos) (zkw fa fb):=(zvv ha hb).weak λY H Q ⟨G,w,Z,r,p⟩=>by
 refine zee (κ:=λG H w=>kE X.K C Y Q G H w) zbU r p λd Z1 v G1 H1 w1 r1 s1 q1 p1=>?_;cases d with
 |bl b =>
  refine ⟨b,zds q1,?_⟩;cases b with
  |true=>exact ⟨G1,w1,Z1,r1,p1⟩
  |false=>exact p1 _ G1 H1 w1 (.refl _ _ _) r1 (by unfold Rep;rfl)
 |_=>exact p1.elim
theorem zwz(ha:JE X C a fa)(hb:JE X C (.BoolOp .Or (b::zaX) pos) fb):JE X C (.BoolOp .Or (a::b::zaX) pos) (dOr fa fb):=(zwC ha hb).weak λY H Q ⟨G,w,Z,r,p⟩=>by
 refine zee (κ:=λG H w=>kE X.K C Y Q G H w) zbU r p λd Z1 v G1 H1 w1 r1 s1 q1 p1=>?_;cases d with
 |bl b =>
  refine ⟨b,zds q1,?_⟩;cases b with
  |true=>exact p1 _ G1 H1 w1 (.refl _ _ _) r1 (by unfold Rep;rfl)
  |false=>exact ⟨G1,w1,Z1,r1,p1⟩
 |_=>exact p1.elim
theorem zrD(ha:JE X C a fa):JE X C (.UnaryOp .Not a pos) (zwo fa):=(zuI ha).weak λY H Q ⟨G,w,Z,r,p⟩=>by
 refine zee (κ:=λG H w=>kE X.K C Y Q G H w) zbU r p λd Z1 v G1 H1 w1 r1 s1 q1 p1=>?_;cases d with
 |bl b=>exact ⟨b,zds q1,p1 _ G1 H1 w1 (.refl _ _ _) r1 (by unfold Rep;rfl)⟩
 |_=>exact p1.elim
def zum(t:DT)(fa fb:De):De:=λZ=>(t Z).bind λc=>if c.1=true then fa c.2 else fb c.2
theorem zvV{c:Expr}(hc:JT X C c tA)(ha:JE X C a fa)(hb:JE X C b fb):JE X C (.IfExp c a b pos) (zum tA fa fb):=(zq0 hc ha hb).weak λY H Q ⟨G,w,Z,r,p⟩=>by
 refine zuq (κ:=λG H w=>kE X.K C Y Q G H w) zbU r p λb Z1 G1 H1 w1 r1 s1 p1=>?_;cases b with
 |true=>exact ⟨G1,w1,Z1,r1,p1⟩
 |false=>exact ⟨G1,w1,Z1,r1,p1⟩
abbrev DA:=Ev->R (List Dt×Ev)
def kA(K:W.Frag)(C:Cn)(Y:L2.St)(Q:List V->Hp->Prop)(G H:Hp)(w:Wn)(a:List Dt×Ev):Prop :=
 ∀ vs G' H' w',zbj G H w G' H' w'->Rel K C G' w' a.2 Y H'->za2 K G' a.1 vs->Q vs H'
theorem zvw{K:W.Frag}{Y:L2.St}{Q:List V->Hp->Prop}:Stp (λG H w=>kA K C Y Q G H w):=λ_ _ _ _ _ _ _ s k v G' H' w' s'=>k v G' H' w' (s.trans s')
def tAd(K:W.Frag)(C:Cn)(f:DA):TA:=λY H Q=>∃ G w Z,Rel K C G w Z Y H/\zbV C.ex (kA K C Y Q G H w) (f Z)
abbrev JA(X:Cx)(C:Cn)(es:List Expr)(f:DA):Prop:=PA X es (tAd X.K C f)
def dA0:DA:=λZ=>.ok ([],Z)
def dA(fa:De)(fr:DA):DA:=λZ=>(fa Z).bind λa=>(fr a.2).bind λb=>.ok (a.1::b.1,b.2)
theorem zun{K:W.Frag}{Y:L2.St}{α:Type}{κ:zpA α}(st:Stp κ){G H:Hp}{w:Wn}{Z:Ev}{fa:DA}{g:List Dt×Ev->R α}{Q:List V->Hp->Prop}(r:Rel K C G w Z Y H)(p:zbV C.ex (κ G H w) ((fa Z).bind g))
  (k:∀ ds Z1 vs G1 H1 w1,Rel K C G1 w1 Z1 Y H1->zbj G H w G1 H1 w1->za2 K G1 ds vs->zbV C.ex (κ G1 H1 w1) (g (ds,Z1))->Q vs H1):tAd K C fa Y H Q:=by
 refine ⟨G,w,Z,r,?_⟩;cases e:fa Z with
 |ok a =>
  rw[e] at p;intro v G' H' w' s' r' q;exact k a.1 a.2 v G' H' w' r' s' q (zbV.step st s' p)
 |er n=>rw[e] at p;exact p
 |no=>rw[e] at p;exact p
theorem zaC:JA X C [] dA0:=PA.weak zdH λY H Q ⟨G,w,Z,r,p⟩=>p _ G H w (.refl _ _ _) r za2.nil
theorem zax{e:Expr}{es:List Expr}{fr:DA}(ha:JE X C e fa)(hr:JA X C es fr)(hs:starEach (e::es) X.env=(false,eval e X.env)::starEach es X.env:=by rfl):JA X C (e::es) (dA fa fr) :=
 (zbE ha hr hs).weak λY H Q ⟨G,w,Z,r,p⟩=>by refine zee (κ:=λG H w=>kA X.K C Y Q G H w) zvw r p λd Z1 v G1 H1 w1 r1 s1 q1 p1=>?_;refine zun (κ:=λG H w=>kA X.K C Y Q G H w) zvw r1 p1 λds Z2 vs G2 H2 w2 r2 s2 q2 p2=>?_;exact p2 _ G2 H2 w2 (.refl _ _ _) r2 (za2.cons (q1.same s2.g) q2)
def fits{α:Type}(l:List α):Bool:=decide (l.length<=16777216)
def zpo(f:DA):De:=λZ=>(f Z).bind λa=>if fits a.1=true then .ok (.tup a.1,a.2) else .no
def zdm(f:DA):DN:=λZ=>(f Z).bind λa=>if fits a.1=true then .ok (a.1,a.2) else .no
theorem zi8{α:Type}{l:List α}(h:fits l=true):l.length<=sizeLine:=by have:=of_decide_eq_true h;rw[show sizeLine=16777216 from by decide];exact this
theorem zjN{x1}{es:List Expr}{f:DA}(h:JA X C es f):JE X C (.Tuple es x1 pos) (zpo f):=(zvo h).weak λY H Q ⟨G,w,Z,r,p⟩=>by
 refine zun (κ:=λG H w=>kE X.K C Y Q G H w) zbU r p λds Z1 vs G1 H1 w1 r1 s1 q1 p1=>?_;by_cases hf:fits ds=true
 ·simp only[hf,if_true] at p1;refine ⟨by rw[<- q1.length];exact zi8 hf,λa ha=>?_⟩;have gr:zeF G1 H1 (upd G1 a (.tup vs)) (upd H1 a (.tup vs)):=.new r1.gh ha;exact p1 _ _ _ w1 gr.step (r1.grow gr) (by unfold Rep;exact ⟨a,vs,rfl,zhT.of za1,q1.same gr.g⟩)
 ·simp only[hf] at p1;exact p1.elim
theorem zcb{es:List Expr}{f:DA}(h:JA X C es f):JN X C (.List es pos) (zdm f):=(zv7 h).weak λY H Q ⟨G,w,Z,r,p⟩=>by
 refine zun (κ:=λG H w=>kN X.K C Y Q G H w) zfI r p λds Z1 vs G1 H1 w1 r1 s1 q1 p1=>?_;by_cases hf:fits ds=true
 ·simp only[hf,if_true] at p1;refine ⟨by rw[<- q1.length];exact zi8 hf,λa ha=>?_⟩;have gr:zeF G1 H1 G1 (upd H1 a (.lst vs)):=.newH r1.gh ha;exact p1 a vs _ _ w1 gr.step (r1.grow gr) ha za1 (r1.gh.free ha) (by
   cases z:w1 a with
   |none=>rfl
   |some k=>exact absurd ha (r1.wh a (by rw[z];simp))) q1
 ·simp only[hf] at p1;exact p1.elim
def dFz(f:DN):De:=λZ=>(f Z).bind λa=>.ok (.lst a.1,a.2)
theorem Rel.know{K:W.Frag}{Y:L2.St}{G H:Hp}{w:Wn}{Z:Ev}{p:Addr}{o:HO}(r:Rel K C G w Z Y H)(hp:H p=some o)(hg:G p=none)(hw:w p=none)(H0:Hp)(G0:Hp)(w0:Wn)(s:zbj G0 H0 w0 G H w)(h0:H0 p=none)
  (e0:C.H₀ p=none\/C.w₀ p≠none\/C.G₀ p≠none):Rel K C (upd G p o) w Z Y H/\zbj G0 H0 w0 (upd G p o) H w:=by
 have sg:zcz G (upd G p o):=λb u e=>by rw[zar (zaq e hg)];exact e
 have s1:∀{G1 H1:Hp}{w1:Wn},zbj G1 H1 w1 G H w->(H1 p=none\/w1 p≠none\/G1 p≠none)->zbj G1 H1 w1 (upd G p o) H w:=λs z=>by
  refine ⟨s.g.trans sg,λb u e=>?_,s.h,s.w,s.k⟩;by_cases hb:b=p
  ·subst hb;rcases z with z|z|z
   ·exact .inr (.inl z)
   ·exact .inr (.inr z)
   ·exact .inl z
  ·rw[zar hb] at e;exact s.fr b u e
 refine ⟨⟨λb u e=>?_,λb e=>?_,r.wh,r.len,λi b e=>?_,s1 r.en e0,r.pin⟩,s1 s (.inl h0)⟩
 ·by_cases hb:b=p
  ·subst hb;rw[za1] at e;cases e;exact hp
  ·rw[zar hb] at e;exact r.gh b u e
 ·by_cases hb:b=p
  ·subst hb;rw[hw] at e;exact absurd rfl e
  ·rw[zar hb];exact r.wg b e
 ·obtain ⟨v,h1,h2⟩:=r.sl i b e;exact ⟨v,h1,h2.grow sg λ_ _ e1 e2=>⟨e2,e1⟩⟩
end
section
variable{X:Cx}{C:Cn}{a b e:Expr}{fa fb:De}{pos:Pos}
theorem zaJ{f:DN}(h:JN X C e f):JE X C e (dFz f):=PE.weak h λY H Q ⟨G,w,Z,r,p⟩=>by
 refine zxc (κ:=λG H w=>kE X.K C Y Q G H w) r p λds Z1 a vs G1 H1 w1 r1 s1 h0 h1 h2 h3 q1 p1=>?_;obtain ⟨r',s'⟩:=r1.know h1 h2 h3 H G w s1 h0 (.inl (r.en.k a h0));have sg:zcz G1 (upd G1 a (.lst vs)):=λb u e=>by rw[zar (zaq e h2)];exact e
 exact p1 _ _ _ _ s' r' (by unfold Rep;exact ⟨a,vs,rfl,za1,q1.same sg⟩)
def zaG(f g:DS):DS:=λZ=>(f Z).bind λa=>match a.1 with
 |.nx=>g a.2
 |fl=>.ok (fl,a.2)
def dNx:DS:=λZ=>.ok (.nx,Z)
variable{st:Stmt}{zaX:List Stmt}{fs gs:DS}
theorem zaN:JSs X C [] dNx:=PSs.weak ztw λD Y H ⟨G,w,Z,r,p⟩=>p Y G H w (.refl _ _ _) r
theorem zae(h1:JS X C st fs)(h2:JSs X C zaX gs):JSs X C (st::zaX) (zaG fs gs):=PSs.weak (zq4 h1 h2) λD Y H ⟨G,w,Z,r,p⟩=>by
 refine ⟨G,w,Z,r,?_⟩;unfold zaG at p;cases e:fs Z with
 |ok x =>
  rw[e] at p;obtain ⟨fl,Z1⟩:=x;cases fl with
  |nx=>exact λY' G' H' w' s' r'=>⟨G',w',Z1,r',zbV.step zdw s' p⟩
  |bk=>exact p
  |ct=>exact p
  |rt d=>exact p
 |er n=>rw[e] at p;exact p
 |no=>rw[e] at p;exact p
theorem zah(h1:JS X C st fs):JSs X C [st] fs:=zte h1
def dEx(f:De):DS:=λZ=>(f Z).bind λa=>.ok (.nx,a.2)
theorem zc6(he:JE X C e fa)(hs:swapsWith e none pos.line X.env=pure false:=by rfl):JS X C (.Expr e pos) (dEx fa):=PS.weak (zuc he hs) λD Y H ⟨G,w,Z,r,p⟩ =>
 zee (κ:=λG H w=>kS X.K C D G H w) zdw r p λd Z1 v G1 H1 w1 r1 s1 q1 p1=>p1 Y G1 H1 w1 (.refl _ _ _) r1
def zaV(f:De):DS:=λZ=>(f Z).bind λa=>.ok (.rt a.1,a.2)
theorem za9(hn:C.nw=false)(he:JE X C e fa):JS X C (.Return (some e) pos) (zaV fa):=PS.weak (zsb he) λD Y H ⟨G,w,Z,r,p⟩ =>
 zee (κ:=λG H w=>kS X.K C D G H w) zdw r p λd Z1 v G1 H1 w1 r1 s1 q1 p1=>p1 v Y G1 H1 w1 (.refl _ _ _) r1 (by rw[hn];exact q1)
def zjH(f:DN):DS:=λZ=>(f Z).bind λa=>.ok (.rt (.lst a.1),a.2)
theorem zkC{f:DN}(hn:C.nw=true)(he:JN X C e f):JS X C (.Return (some e) pos) (zjH f):=PS.weak (zsb he) λD Y H ⟨G,w,Z,r,p⟩ =>
 zxc (κ:=λG H w=>kS X.K C D G H w) r p λds Z1 a vs G1 H1 w1 r1 s1 h0 h1 h2 h3 q1 p1=>p1 _ Y G1 H1 w1 s1 r1 (by rw[hn];exact ⟨ds,a,vs,rfl,rfl,r.en.k a h0,h1,h2,h3,q1⟩)
def dIf(c:DT)(f g:DS):DS:=λZ=>(c Z).bind λb=>if b.1=true then f b.2 else g b.2
theorem zbS{c:Expr}{A B:List Stmt}{tc:DT}(hc:JT X C c tc)(ha:JSs X C A fs)(hb:JSs X C B gs):JS X C (.If c A B pos) (dIf tc fs gs):=PS.weak (zxa hc ha hb) λD Y H ⟨G,w,Z,r,p⟩=>by
 refine zuq (κ:=λG H w=>kS X.K C D G H w) zdw r p λb Z1 G1 H1 w1 r1 s1 p1=>?_;cases b with
 |true=>exact ⟨G1,w1,Z1,r1,p1⟩
 |false=>exact ⟨G1,w1,Z1,r1,p1⟩
theorem Rel.setVal{K:W.Frag}{Y:L2.St}{G H:Hp}{w:Wn}{Z:Ev}{i:Nat}{d:Dt}{v:V}(r:Rel K C G w Z Y H)(hi:i < Z.length)(hp:i∉C.pp)(h:Rep K G d v):Rel K C G w (Z.set i (some (.val d))) (Y.set i (some v)) H:=by
 refine ⟨r.gh,r.wg,r.wh,by simpa using r.len,λj b e=>?_,r.en,λj hj=>?_⟩
 ·by_cases hj:j=i
  ·subst hj;rw[List.getElem?_set_self hi] at e;cases e;exact ⟨v,way (by rw[<- r.len];exact hi),h⟩
  ·rw[List.getElem?_set_ne (Ne.symm hj)] at e;obtain ⟨v',h1,h2⟩:=r.sl j b e;exact ⟨v',by rw[List.getElem?_set_ne (Ne.symm hj)];exact h1,h2⟩
 ·have:i≠j:=λz=>hp (z ▸ hj);rw[List.getElem?_set_ne this];exact r.pin j hj
theorem Rel.setOwn{K:W.Frag}{Y:L2.St}{G0 H0:Hp}{w0:Wn}{G H:Hp}{w:Wn}{Z:Ev}{i:Nat}{ds:List Dt}{p:Addr}{vs:List V}(r:Rel K C G w Z Y H)(hi:i < Z.length)(hpp:i∉C.pp)(hp:H p=some (.lst vs))(hg:G p=none)(hw:w p=none)
  (q:za2 K G ds vs) (s:zbj G0 H0 w0 G H w) (h0:H0 p=none) (en0:C.H₀ p=none) :
  Rel K C G (λb=>if b=p then some i else w b) (Z.set i (some (.own ds))) (Y.set i (some (.ref p))) H/\zbj G0 H0 w0 G H (λb=>if b=p then some i else w b):=by
 have s1:∀{G1 H1:Hp}{w1:Wn},zbj G1 H1 w1 G H w->H1 p=none->zbj G1 H1 w1 G H (λb=>if b=p then some i else w b):=λs z=>by
  refine ⟨s.g,s.fr,s.h,λb e=>?_,s.k⟩;by_cases hb:b=p
  ·subst hb;exact .inr z
  ·simp[hb] at e;exact s.w b e
 refine ⟨⟨r.gh,λb e=>?_,λb e=>?_,by simpa using r.len,λj b e=>?_,s1 r.en en0,λj hj=>?_⟩,s1 s h0⟩
 ·by_cases hb:b=p
  ·subst hb;exact hg
  ·simp[hb] at e;exact r.wg b e
 ·by_cases hb:b=p
  ·subst hb;rw[hp];simp
  ·simp[hb] at e;exact r.wh b e
 ·by_cases hj:j=i
  ·subst hj;rw[List.getElem?_set_self hi] at e;cases e;exact ⟨_,way (by rw[<- r.len];exact hi),p,vs,rfl,xws,hp,q⟩
  ·rw[List.getElem?_set_ne (Ne.symm hj)] at e;obtain ⟨v',h1,h2⟩:=r.sl j b e;refine ⟨v',by rw[List.getElem?_set_ne (Ne.symm hj)];exact h1,h2.grow (.refl _) λa o e1 e2=>⟨e2,?_⟩⟩;have:a≠p:=λz=>by subst z;rw[hw] at e1;cases e1
   simp[this,e1]
 ·have:i≠j:=λz=>hpp (z ▸ hj);rw[List.getElem?_set_ne this];exact r.pin j hj
def zbo(i:Nat)(f:De):DS:=λZ=>(f Z).bind λa=>if i<a.2.length then .ok (.nx,a.2.set i (some (.val a.1))) else .no
theorem zbp{i:Nat}{x:Str}{pos':Pos}(hN:X.N.Nodup)(hi:X.N[i]? = some x)(hx:Loc X.env.scope x)(hp:i∉C.pp)(he:JE X C e fa)(hs:swapsWith e (some (.Name x pos')) pos.line X.env=pure false:=by rfl)
  (hf:X.fn x=true\/X.env.scope.names.lookup x=some .local:=by exact xwA):JS X C (.Assign [.Name x pos'] e pos) (zbo i fa) :=
 PS.weak (zrw hN hi hx he hs) λD Y H ⟨G,w,Z,r,p⟩=>by
  refine zee (κ:=λG H w=>kS X.K C D G H w) zdw r p λd Z1 v G1 H1 w1 r1 s1 q1 p1=>?_;by_cases hl:i < Z1.length
  ·simp only[hl,if_true] at p1;exact p1 _ G1 H1 w1 (.refl _ _ _) (r1.setVal hl hp q1)
  ·simp only[hl,if_false] at p1;exact p1.elim
def zcN(i:Nat)(f:DN):DS:=λZ=>(f Z).bind λa=>if i<a.2.length then .ok (.nx,a.2.set i (some (.own a.1))) else .no
theorem zeD{i:Nat}{x:Str}{pos':Pos}{f:DN}(hN:X.N.Nodup)(hi:X.N[i]? = some x)(hx:Loc X.env.scope x)(hp:i∉C.pp)(he:JN X C e f)(hs:swapsWith e (some (.Name x pos')) pos.line X.env=pure false:=by rfl)
  (hf:X.fn x=true\/X.env.scope.names.lookup x=some .local:=by exact xwA):JS X C (.Assign [.Name x pos'] e pos) (zcN i f) :=
 PS.weak (zrw hN hi hx he hs) λD Y H ⟨G,w,Z,r,p⟩=>by
  refine zxc (κ:=λG H w=>kS X.K C D G H w) r p λds Z1 a vs G1 H1 w1 r1 s1 h0 h1 h2 h3 q1 p1=>?_;by_cases hl:i < Z1.length
  ·simp only[hl,if_true] at p1;obtain ⟨r',s'⟩:=r1.setOwn hl hp h1 h2 h3 q1 s1 h0 (r.en.k a h0);exact p1 _ _ _ _ s' r'
  ·simp only[hl,if_false] at p1;exact p1.elim
def zpn(i:Nat)(fb:De):De:=λZ=>match Z[i]? with
 |some (some _)=>(fb Z).bind λb=>match b.2[i]?,b.1 with
  |some (some (.own ds)),.int k=>match atI ds k with
   |some d=>.ok (d,b.2)
   |none=>.no
  |_,_=>.no
 |_=>.no
theorem zis{K:W.Frag}{G:Hp}{ds:List Dt}{vs:List V}{k:Int}{d:Dt}(h:za2 K G ds vs)(e:atI ds k=some d):∃ v,atI vs k=some v/\Rep K G d v:=by
 unfold atI at e ⊢;rw[<- h.length];cases q:ixN ds.length k with
 |none=>rw[q] at e;cases e
 |some j =>
  rw[q] at e;exact h.get e
theorem zgq(i:Nat){x:Str}{ps:Pos}(hN:X.N[i]? = some x:=by rfl)(hb:JE X C b fb)(hv:Vis X.env.scope x:=by exact xwV)(hd:(x == ("__debug__" : Str))=false:=by decide)
  (hcd:(x == ("__classdict__" : Str))=false:=by decide) (hs:ziK b:=by exact λ_ _=>rfl):JE X C (.Subscript (.Name x ps) b pos) (zpn i fb) :=
 PE.weak (zsR zlh (zdk hN hv hd hcd) hb hs) λY H Q ⟨G,w,Z,r,p⟩=>by
  unfold zpn at p;split at p
  ·rename_i b0 e0;obtain ⟨v0,h0,_⟩:=r.sl i b0 e0;refine ⟨v0,h0,?_⟩;refine zee (κ:=λG H w=>kE X.K C Y Q G H w) zbU r p λd Z1 v G1 H1 w1 r1 s1 q1 p1=>?_;dsimp only at p1;split at p1
   ·rename_i ds k e1;obtain ⟨v1,h1,a,vs,rfl,h2,h3,h4⟩:=r1.sl i _ e1;rw[h0] at h1;cases h1;split at p1
    ·rename_i d' e2;obtain ⟨v2,h5,h6⟩:=zis h4 e2;exact ⟨a,vs,k,v2,rfl,za3 q1,SqL.of h3,h5,p1 v2 G1 H1 w1 (.refl _ _ _) r1 h6⟩
    ·exact p1.elim
   ·exact p1.elim
  ·exact p.elim
end
def zoZ(K:W.Frag)(J:It)(G:Hp)(ds:List Dt):Prop:=∀(i:Nat)(G1 H:Hp),zcz G G1->zcz G1 H ->
 (∀ d,ds[i]? = some d->J.go i H/\∀ x H',J.yld i H x H'->∃ G2,zeF G1 H G2 H'/\Rep K G2 d x)/\(ds.length<=i->J.stop i H)
def kI(K:W.Frag)(C:Cn)(Y:L2.St)(Q:It->Hp->Prop)(G H:Hp)(w:Wn)(a:List Dt×Ev):Prop :=
 ∀ J G' H' w',zbj G H w G' H' w'->Rel K C G' w' a.2 Y H'->zoZ K J G' a.1->Q J H'
def tI(K:W.Frag)(C:Cn)(f:DA):TI:=λY H Q=>∃ G w Z,Rel K C G w Z Y H/\zbV C.ex (kI K C Y Q G H w) (f Z)
abbrev JI(X:Cx)(C:Cn)(tg iter:Expr)(f:DA):Prop:=PI X tg iter (tI X.K C f)
section
variable{X:Cx}{C:Cn}{tg iter:Expr}{fa:De}{pos:Pos}
theorem zws{K:W.Frag}{Y:L2.St}{α:Type}{κ:zpA α}(st:Stp κ){G H:Hp}{w:Wn}{Z:Ev}{fa:DA}{g:List Dt×Ev->R α}{Q:It->Hp->Prop}(r:Rel K C G w Z Y H)(p:zbV C.ex (κ G H w) ((fa Z).bind g))
  (k:∀ ds Z1 J G1 H1 w1,Rel K C G1 w1 Z1 Y H1->zbj G H w G1 H1 w1->zoZ K J G1 ds->zbV C.ex (κ G1 H1 w1) (g (ds,Z1))->Q J H1):tI K C fa Y H Q:=by
 refine ⟨G,w,Z,r,?_⟩;cases e:fa Z with
 |ok a =>
  rw[e] at p;intro v G' H' w' s' r' q;exact k a.1 a.2 v G' H' w' r' s' q (zbV.step st s' p)
 |er n=>rw[e] at p;exact p
 |no=>rw[e] at p;exact p
theorem PI.or{t t':TI}(h:PI X tg iter t)(h':PI X tg iter t'):PI X tg iter (λY H Q=>t Y H Q\/t' Y H Q):=λpS s Y H Q I q=>q.elim (h pS s Y H Q I) (h' pS s Y H Q I)
theorem PI.weak{t t':TI}(h:PI X tg iter t)(k:∀ Y H Q,t' Y H Q->t Y H Q):PI X tg iter t':=λpS s Y H Q I q=>h pS s Y H Q I (k Y H Q q)
def dIt(f:De):DA:=λZ=>(f Z).bind λa=>match a.1 with
 |.lst l=>.ok (l,a.2)
 |.tup l=>.ok (l,a.2)
 |_=>.no
theorem zwh{K:W.Frag}{G:Hp}{a:Addr}{vs:List V}{ds:List Dt}(hs:SqT K G a vs)(q:za2 K G ds vs):zoZ K (Itt K a) G ds:=λi G1 H s1 s2=>by refine ⟨λd e=>?_,λh=>⟨vs,zaE s2 (zaE s1 hs),by rw[<- q.length];exact h⟩⟩;obtain ⟨v,e1,e2⟩:=q.get e;refine ⟨⟨vs,v,zaE s2 (zaE s1 hs),e1⟩,λx H' y=>?_⟩;obtain ⟨rfl,y⟩:=y;have:=y vs (zaE s2 (zaE s1 hs));rw[e1] at this;cases this;exact ⟨G1,.refl s2,e2.same s1⟩
theorem zsO{K:W.Frag}{G:Hp}{a:Addr}{vs:List V}{ds:List Dt}(hs:SqL K G a vs)(q:za2 K G ds vs):zoZ K (Itl K a) G ds:=λi G1 H s1 s2=>by refine ⟨λd e=>?_,λh=>⟨vs,s2.seq (s1.seq hs),by rw[<- q.length];exact h⟩⟩;obtain ⟨v,e1,e2⟩:=q.get e;refine ⟨⟨vs,v,s2.seq (s1.seq hs),e1⟩,λx H' y=>?_⟩;obtain ⟨rfl,y⟩:=y;have:=y vs (s2.seq (s1.seq hs));rw[e1] at this;cases this;exact ⟨G1,.refl s2,e2.same s1⟩
theorem zck(h:JE X C iter fa):JI X C tg iter (dIt fa):=PI.weak (PI.or (zsX h) (zuP h)) λY H Q ⟨G,w,Z,r,p⟩=>by
 unfold dIt at p;cases e:fa Z with
 |ok x =>
  obtain ⟨d,Z1⟩:=x;cases d with
  |lst l =>
   rw[e] at p;refine .inl ⟨G,w,Z,r,?_⟩;rw[e];intro v G' H' w' s' r' q;obtain ⟨a,vs,rfl,h1,h2⟩:=zaK q;exact ⟨a,rfl,⟨vs,SqL.of (r'.gh _ _ h1)⟩,p _ G' H' w' s' r' (zsO (SqL.of h1) h2)⟩
  |tup l =>
   rw[e] at p;refine .inr ⟨G,w,Z,r,?_⟩;rw[e];intro v G' H' w' s' r' q;obtain ⟨a,vs,rfl,h1,h2⟩:=zb4 q;exact ⟨a,rfl,⟨vs,zaE r'.gh h1⟩,p _ G' H' w' s' r' (zwh h1 h2)⟩
  |_=>rw[e] at p;exact p.elim
 |er n=>rw[e] at p;exact .inl ⟨G,w,Z,r,by rw[e];exact p⟩
 |no=>rw[e] at p;exact p.elim
def zdl(lo:Int)(n:Nat):List Dt:=(List.range n).map λk=>.int (lo+(k:Nat))
theorem zuX{K:W.Frag}{G:Hp}{lo:Int}{n:Nat}:zoZ K (Itr lo n) G (zdl lo n):=λi G1 H s1 s2=>by
 refine ⟨λd e=>?_,λh=>show n<=i by simpa [zdl] using h⟩;unfold zdl at e;rw[List.getElem?_map] at e;by_cases hi:i<n
 ·rw[List.getElem?_range hi] at e;cases e;refine ⟨hi,λx H' y=>?_⟩;obtain ⟨rfl,rfl⟩:=y;exact ⟨G1,.refl s2,by unfold Rep;rfl⟩
 ·rw[List.getElem?_eq_none (by simpa using hi)] at e;cases e
def zg9(j:Int):Bool:=decide (-4611686018427387904<=j) && decide (j<4611686018427387904)
theorem zim{j:Int}(h:zg9 j=true):-(2 ^ 62)<=j/\j<2 ^ 62:=by unfold zg9 at h;rw[Bool.and_eq_true] at h;have h1:=of_decide_eq_true h.1;have h2:=of_decide_eq_true h.2;lia
def zfu(fa:De):DA:=λZ=>(fa Z).bind λa=>match a.1 with
 |.int j=>if zg9 j=true then .ok (zdl 0 j.toNat,a.2) else .no
 |_=>.no
theorem zgU{e:Expr}{p ps:Pos}(hg:Gl X "range")(hm:X.mg "range"=none)(he:JE X C e fa)(hs:starEach [e] X.env=[(false,eval e X.env)]:=by rfl):JI X C tg (.Call (.Name "range" p) [e] [] ps) (zfu fa) :=
 PI.weak (zoB hg hm (zax he zaC (by rw[hs];rfl)) hs) λY H Q ⟨G,w,Z,r,p⟩=>by
  unfold zfu at p;refine ⟨G,w,Z,r,?_⟩;unfold dA dA0;cases e:fa Z with
  |ok x =>
   obtain ⟨d,Z1⟩:=x;rw[e] at p;intro vs G' H' w' s' r' q;obtain ⟨v,t,rfl,q1,q2⟩:=q.cons_inv;rw[q2.nil_inv];cases d with
   |int j =>
    simp only[R.bind_ok] at p;by_cases hj:zg9 j=true
    ·simp only[hj,if_true] at p;exact ⟨j,by rw[za3 q1],(zim hj).1,(zim hj).2,p _ G' H' w' s' r' zuX⟩
    ·simp only[hj] at p;exact p.elim
   |_=>exact p.elim
  |er n=>rw[e] at p;exact p
  |no=>rw[e] at p;exact p
abbrev DG:=Dt->Ev->R Ev
def kG(K:W.Frag)(C:Cn)(Q:L2.St->Hp->Prop)(G H:Hp)(w:Wn)(Z:Ev):Prop :=
 ∀ Y' G' H' w',zbj G H w G' H' w'->Rel K C G' w' Z Y' H'->Q Y' H'
def tG(K:W.Frag)(C:Cn)(g:DG):TG:=λv Y H Q=>∃ G w Z d,Rel K C G w Z Y H/\Rep K G d v/\zbV C.ex (kG K C Q G H w) (g d Z)
abbrev JG(X:Cx)(C:Cn)(tg:Expr)(g:DG):Prop:=PG X tg (tG X.K C g)
theorem PG.weak{t t':TG}(h:PG X tg t)(k:∀ v Y H Q,t' v Y H Q->t v Y H Q):PG X tg t':=λpS s Y H v u Q I r q=>h pS s Y H v u Q I r (k v Y H Q q)
def zbv(i:Nat):DG:=λd Z=>if i < Z.length then .ok (Z.set i (some (.val d))) else .no
theorem zbd{i:Nat}{x:Str}(hN:X.N.Nodup)(hi:X.N[i]? = some x)(hx:Loc X.env.scope x)(hp:i∉C.pp)(hf:X.fn x=true\/X.env.scope.names.lookup x=some .local:=by exact xwA):JG X C (.Name x pos) (zbv i) :=
 PG.weak (zkO hN hi hx hf) λv Y H Q ⟨G,w,Z,d,r,q,p⟩=>by
  unfold zbv at p;by_cases hl:i < Z.length
  ·simp only[hl,if_true] at p;exact p _ G H w (.refl _ _ _) (r.setVal hl hp q)
  ·simp only[hl,if_false] at p;exact p.elim
def znI(i j:Nat):DG:=λd Z=>match d with
 |.tup [a,b]=>if i < Z.length/\j < Z.length then .ok ((Z.set i (some (.val a))).set j (some (.val b))) else .no
 |_=>.no
theorem zt2{i j k:Nat}{x y:Str}{p1 p2:Pos}(hc:X.calm=true)(hN:X.N.Nodup)(hi:X.N[i]? = some x)(hj:X.N[j]? = some y)(hx:Loc X.env.scope x)(hy:Loc X.env.scope y)(hp:i∉C.pp)(hq:j∉C.pp)
  (hf:X.fn x=true\/X.env.scope.names.lookup x=some .local:=by exact xwA) (hf2:X.fn y=true\/X.env.scope.names.lookup y=some .local:=by exact xwA)
  (hs1:(assignEach [.Name x p1,.Name y p2] X.env).map (·.2)=assign (.Name x p1) X.env::(assignEach [.Name y p2] X.env).map (·.2):=by rfl) (hs2:(assignEach [.Name y p2] X.env).map (·.2)=assign (.Name y p2) X.env::(assignEach [] X.env).map (·.2):=by rfl)
  (hn:(assignEach [.Name x p1,.Name y p2] X.env).length=2:=by rfl) (hst:(assignEach [.Name x p1,.Name y p2] X.env).findIdx? (·.1)=none:=by rfl):JG X C (.Tuple [.Name x p1,.Name y p2] k pos) (znI i j) :=
 PG.weak (zuC hc (zma (zkO hN hi hx hf) (zma (zkO hN hj hy hf2) zsD hs2) hs1) hn hst) λv Y H Q ⟨G,w,Z,d,r,q,p⟩=>by
  unfold znI at p;split at p
  ·rename_i a b;obtain ⟨ad,vs,rfl,h1,h2⟩:=zb4 q;obtain ⟨v1,t,rfl,q1,q2⟩:=h2.cons_inv;obtain ⟨v2,t2,rfl,q3,q4⟩:=q2.cons_inv;rw[q4.nil_inv] at h1;by_cases hl:i < Z.length/\j < Z.length
   ·simp only[hl,and_self,if_true] at p;have r1:=r.setVal hl.1 hp q1;have r2:=r1.setVal (i:=j) (by simpa using hl.2) hq q3;exact ⟨ad,_,rfl,zaE r.gh h1,rfl,v1,_,rfl,v2,_,rfl,rfl,p _ G H w (.refl _ _ _) r2⟩
   ·simp only[hl,if_false] at p;exact p.elim
  ·exact p.elim
def zpp(g:DG)(body:DS):List Dt->DS
 |[],Z=>.ok (.nx,Z)
 |d::r,Z=>(g d Z).bind λZ1=>(body Z1).bind λa=>match a.1 with
  |.nx=>zpp g body r a.2
  |.ct=>zpp g body r a.2
  |.bk=>.ok (.nx,a.2)
  |.rt v=>.ok (.rt v,a.2)
def zfV(fi:DA)(g:DG)(body:DS):DS:=λZ=>(fi Z).bind λa=>zpp g body a.1 a.2
theorem zek{body:List Stmt}{fi:DA}{g:DG}{fb:DS}(hp:PassesOwn (model X.prog X.w) X.A X.env X.xe)(hc:X.calm=true)(hi:JI X C tg iter fi)(hg:JG X C tg g)(hb:JSs X C body fb)
  (hs:∀ x,foldedSetIterable iter X.env x=pure x:=by intro _;rfl):JS X C (.For tg iter body [] pos) (zfV fi g fb) :=
 PS.weak (zvX hp hc hi hg hb hs) λD Y H ⟨G,w,Z,r,p⟩=>by
  refine zws (κ:=λG H w=>kS X.K C D G H w) zdw r p λds Z1 J G1 H1 w1 r1 s1 it p1=>?_;refine ⟨λi m Y' H'=>m=ds.length-i/\i<=ds.length/\∃ G' w' Z',zcz G1 G'/\Rel X.K C G' w' Z' Y' H'/\zbV C.ex (kS X.K C D G' H' w') (zpp g fb (ds.drop i) Z'),
   ⟨ds.length,xws,Nat.zero_le _,G1,w1,Z1,.refl _,r1,by simpa using p1⟩,?_⟩
  rintro i m Y2 H2 ⟨rfl,hi,G2,w2,Z2,s2,r2,p2⟩;obtain ⟨it1,it2⟩:=it i G2 H2 s2 r2.gh;by_cases hlt:i<ds.length
  ·have ed:ds.drop i=ds[i]::ds.drop (i+1):=List.drop_eq_getElem_cons hlt;obtain ⟨go,yl⟩:=it1 ds[i] (by simp[hlt]);rw[ed] at p2;refine .inr ⟨go,λY' H'=>(ds.length-(i+1))=ds.length-(i+1)/\i+1<=ds.length/\∃ G' w' Z',zcz G1 G'/\Rel X.K C G' w' Z' Y' H'/\zbV C.ex (kS X.K C D G' H' w') (zpp g fb (ds.drop (i+1)) Z'),
    λY' H' h=>⟨ds.length-(i+1),xwl,h⟩,λx H' y=>?_⟩
   obtain ⟨G3,gr,q3⟩:=yl x H' y;have r3:=r2.grow gr;have p3:=zbV.step (κ:=λG H w=>kS X.K C D G H w) zdw gr.step (w1:=w2) p2;refine ⟨G3,w2,Z2,ds[i],r3,q3,?_⟩;unfold zpp at p3;cases eg:g ds[i] Z2 with
   |ok Z3 =>
    rw[eg] at p3;intro Y4 G4 H4 w4 s4 r4;have p4:=zbV.step (κ:=λG H w=>kS X.K C D G H w) zdw s4 p3;refine ⟨G4,w4,Z3,r4,?_⟩;cases eb:fb Z3 with
    |ok z =>
     obtain ⟨fl,Z5⟩:=z;rw[R.bind_ok,eb] at p4;have sG:zcz G1 G4:=(s2.trans gr.g).trans s4.g;cases fl with
     |nx=>exact λY6 G6 H6 w6 s6 r6=>⟨rfl,hlt,G6,w6,Z5,sG.trans s6.g,r6,zbV.step (κ:=λG H w=>kS X.K C D G H w) zdw s6 p4⟩
     |ct=>exact λY6 G6 H6 w6 s6 r6=>⟨rfl,hlt,G6,w6,Z5,sG.trans s6.g,r6,zbV.step (κ:=λG H w=>kS X.K C D G H w) zdw s6 p4⟩
     |bk=>exact p4
     |rt v=>exact p4
    |er n=>rw[R.bind_ok,eb] at p4;exact p4
    |no=>rw[R.bind_ok,eb] at p4;exact p4
   |er n=>rw[eg] at p3;exact p3
   |no=>rw[eg] at p3;exact p3
  ·have e:i=ds.length:=by lia
   subst e;simp only[List.drop_length] at p2;exact .inl ⟨it2 (wal _),p2 Y2 G2 H2 w2 (.refl _ _ _) r2⟩
def zdr(c:DT)(body:DS):Nat->DS
 |0,_=>.no
 |n+1,Z=>(c Z).bind λt=>if t.1=true then (body t.2).bind λa=>match a.1 with
   |.nx=>zdr c body n a.2
   |.ct=>zdr c body n a.2
   |.bk=>.ok (.nx,a.2)
   |.rt v=>.ok (.rt v,a.2)
  else .ok (.nx,t.2)
theorem zqY(n:Nat){c:Expr}{body:List Stmt}{tc:DT}{fb:DS}(hp:PassesOwn (model X.prog X.w) X.A X.env X.xe)(hc:JT X C c tc)(hb:JSs X C body fb):JS X C (.While c body [] pos) (zdr tc fb n) :=
 PS.weak (zqX hp hc hb) λD Y H ⟨G,w,Z,r,p⟩=>by
  refine ⟨λm Y' H'=>∃ G' w' Z',Rel X.K C G' w' Z' Y' H'/\zbV C.ex (kS X.K C D G' H' w') (zdr tc fb m Z'),⟨n,G,w,Z,r,p⟩,?_⟩;rintro m Y1 H1 ⟨G1,w1,Z1,r1,p1⟩;cases m with
  |zero=>exact p1.elim
  |succ m =>
   unfold zdr at p1;refine zuq (κ:=λG H w=>kS X.K C D G H w) zdw r1 p1 λb Z2 G2 H2 w2 r2 s2 p2=>?_;cases b with
   |false=>exact p2 Y1 G2 H2 w2 (.refl _ _ _) r2
   |true =>
    refine ⟨λY' H'=>∃ G' w' Z',Rel X.K C G' w' Z' Y' H'/\zbV C.ex (kS X.K C D G' H' w') (zdr tc fb m Z'),λY' H' h=>⟨m,Nat.lt_succ_self _,h⟩,G2,w2,Z2,r2,?_⟩;have p2:zbV C.ex (kS X.K C D G2 H2 w2) ((fb Z2).bind λa=>match a.1 with
     |.nx=>zdr tc fb m a.2
     |.ct=>zdr tc fb m a.2
     |.bk=>.ok (.nx,a.2)
     |.rt v=>.ok (.rt v,a.2)):=p2
    cases eb:fb Z2 with
    |ok z =>
     obtain ⟨fl,Z5⟩:=z;rw[eb] at p2;cases fl with
     |nx=>exact λY6 G6 H6 w6 s6 r6=>⟨G6,w6,Z5,r6,zbV.step (κ:=λG H w=>kS X.K C D G H w) zdw s6 p2⟩
     |ct=>exact λY6 G6 H6 w6 s6 r6=>⟨G6,w6,Z5,r6,zbV.step (κ:=λG H w=>kS X.K C D G H w) zdw s6 p2⟩
     |bk=>exact p2
     |rt v=>exact p2
    |er n=>rw[eb] at p2;exact p2
    |no=>rw[eb] at p2;exact p2
end
abbrev FD:=List B->R (Dt×List B)
def znQ:B->Bool
 |.val _=>false
 |_=>true
def zcc(bs:List B):List Bool:=bs.map znQ
structure PRel(K:W.Frag)(G H:Hp)(w:Wn)(bs:List B)(vs:List V):Prop where
 gh:zcz G H
 wg:∀ b,w b≠none->G b=none
 wh:∀ b,w b≠none->H b≠none
 len:bs.length=vs.length
 sl:∀(j:Nat)(b:B)(v:V),bs[j]? = some b->vs[j]? = some v->RB K G H w j v b
structure zqs(K:W.Frag)(G H:Hp)(w:Wn)(ks:List Bool)(bs:List B)(vs:List V):Prop where
 gh:zcz G H
 wg:∀ b,w b≠none->G b=none
 wh:∀ b,w b≠none->H b≠none
 sl:∀(j:Nat)(v:V),ks[j]? = some true->vs[j]? = some v->∃ b,bs[j]? = some b/\RB K G H w j v b
def znj(nw:Bool)(K:W.Frag)(xv:Nat->Value)(ks:List Bool)(F:FD):Sp:=λvs H Q E=>∃ G w bs,vs.length=ks.length/\zcc bs=ks/\PRel K G H w bs vs /\
 match F bs with
 |.ok a=>∀ v G' H' w',zbj G H w G' H' w'->zqs K G' H' w' ks a.2 vs->RtG nw K H G' H' w' a.1 v->Q v H'
 |.er n=>∀ G' H' w',zbj G H w G' H' w'->E (xv n) none H'
 |.no=>False
def EXc(C:Cn):XK:=λu a H'=>a=none/\∃ n,u=C.xv n/\C.ex n/\∃ G' w',zbj C.G₀ C.H₀ C.w₀ G' H' w'
inductive Arg where
 |d (x:Dt)|s (i:Nat)
def zc9(K:W.Frag)(G:Hp)(Y:L2.St):List Arg->List V->Prop
 |[],vs=>vs=[]
 |.d x::r,vs=>∃ v t,vs=v::t/\Rep K G x v/\zc9 K G Y r t
 |.s i::r,vs=>∃ v t,vs=v::t/\Y[i]? = some (some v)/\zc9 K G Y r t
theorem zc9.same{K:W.Frag}{G G':Hp}{Y:L2.St}(e:zcz G G'):∀{as:List Arg}{vs:List V},zc9 K G Y as vs->zc9 K G' Y as vs
 |[],_,h=>h
 |.d _::_,_,⟨v,t,h1,h2,h3⟩=>⟨v,t,h1,h2.same e,zc9.same e h3⟩
 |.s _::_,_,⟨v,t,h1,h2,h3⟩=>⟨v,t,h1,h2,zc9.same e h3⟩
abbrev DAr:=Ev->R (List Arg×Ev)
def kAr(K:W.Frag)(C:Cn)(Y:L2.St)(Q:List V->Hp->Prop)(G H:Hp)(w:Wn)(a:List Arg×Ev):Prop :=
 ∀ vs G' H' w',zbj G H w G' H' w'->Rel K C G' w' a.2 Y H'->zc9 K G' Y a.1 vs->Q vs H'
def tAr(K:W.Frag)(C:Cn)(f:DAr):TA:=λY H Q=>∃ G w Z,Rel K C G w Z Y H/\zbV C.ex (kAr K C Y Q G H w) (f Z)
abbrev JAr(X:Cx)(C:Cn)(es:List Expr)(f:DAr):Prop:=PA X es (tAr X.K C f)
theorem zph{K:W.Frag}{C:Cn}{Y:L2.St}{Q:List V->Hp->Prop}:Stp (λG H w=>kAr K C Y Q G H w):=λ_ _ _ _ _ _ _ s k v G' H' w' s'=>k v G' H' w' (s.trans s')
theorem zqB{K:W.Frag}{C:Cn}{Y:L2.St}{α:Type}{κ:zpA α}(st:Stp κ){G H:Hp}{w:Wn}{Z:Ev}{fa:DAr}{g:List Arg×Ev->R α}{Q:List V->Hp->Prop}(r:Rel K C G w Z Y H)(p:zbV C.ex (κ G H w) ((fa Z).bind g))
  (k:∀ as Z1 vs G1 H1 w1,Rel K C G1 w1 Z1 Y H1->zbj G H w G1 H1 w1->zc9 K G1 Y as vs->zbV C.ex (κ G1 H1 w1) (g (as,Z1))->Q vs H1):tAr K C fa Y H Q:=by
 refine ⟨G,w,Z,r,?_⟩;cases e:fa Z with
 |ok a =>
  rw[e] at p;intro v G' H' w' s' r' q;exact k a.1 a.2 v G' H' w' r' s' q (zbV.step st s' p)
 |er n=>rw[e] at p;exact p
 |no=>rw[e] at p;exact p
def dR0:DAr:=λZ=>.ok ([],Z)
def dR(fa:De)(fr:DAr):DAr:=λZ=>(fa Z).bind λa=>(fr a.2).bind λb=>.ok (.d a.1::b.1,b.2)
def dRO(i:Nat)(fr:DAr):DAr:=λZ=>match Z[i]? with
 |some (some _)=>(fr Z).bind λb=>.ok (.s i::b.1,b.2)
 |_=>.no
section
variable{X:Cx}{C:Cn}{fa:De}{fr:DAr}{pos:Pos}
theorem zas:JAr X C [] dR0:=PA.weak zdH λY H Q ⟨G,w,Z,r,p⟩=>p _ G H w (.refl _ _ _) r rfl
theorem zad{e:Expr}{es:List Expr}(ha:JE X C e fa)(hr:JAr X C es fr)(hs:starEach (e::es) X.env=(false,eval e X.env)::starEach es X.env:=by rfl):JAr X C (e::es) (dR fa fr) :=
 PA.weak (zbE ha hr hs) λY H Q ⟨G,w,Z,r,p⟩=>by refine zee (κ:=λG H w=>kAr X.K C Y Q G H w) zph r p λd Z1 v G1 H1 w1 r1 s1 q1 p1=>?_;refine zqB (κ:=λG H w=>kAr X.K C Y Q G H w) zph r1 p1 λas Z2 vs G2 H2 w2 r2 s2 q2 p2=>?_;exact p2 _ G2 H2 w2 (.refl _ _ _) r2 ⟨v,vs,rfl,q1.same s2.g,q2⟩
theorem zej(i:Nat){x:Str}{ps:Pos}{es:List Expr}(hr:JAr X C es fr)(hN:X.N[i]? = some x:=by rfl)(hv:Vis X.env.scope x:=by exact xwV)(hd:(x == ("__debug__" : Str))=false:=by decide)
  (hcd:(x == ("__classdict__" : Str))=false:=by decide) (hs:starEach (.Name x ps::es) X.env=(false,eval (.Name x ps) X.env)::starEach es X.env:=by rfl):JAr X C (.Name x ps::es) (dRO i fr) :=
 PA.weak (zbE (zdk hN hv hd hcd) hr hs) λY H Q ⟨G,w,Z,r,p⟩=>by
  unfold dRO at p;split at p
  ·rename_i b e;obtain ⟨v,h1,_⟩:=r.sl i b e;refine ⟨v,h1,?_⟩;refine zqB (κ:=λG H w=>kAr X.K C Y Q G H w) zph r p λas Z2 vs G2 H2 w2 r2 s2 q2 p2=>?_;exact p2 _ G2 H2 w2 (.refl _ _ _) r2 ⟨v,vs,rfl,h1,q2⟩
  ·exact p.elim
end
def zrp(as:List Arg)(j:Nat):Option Nat:=match as[j]? with
 |some (.s i)=>some i
 |_=>none
def zd4(i:Nat):Nat->List Arg->Option Nat
 |_,[]=>none
 |j,.s i'::r=>if i'=i then some j else zd4 i (j+1) r
 |j,.d _::r=>zd4 i (j+1) r
def zdJ(as:List Arg)(i:Nat):Option Nat:=zd4 i 0 as
def zbi(as:List Arg):Nat->List Arg->Bool
 |_,[]=>true
 |j,.s i::r=>(zdJ as i == some j) && zbi as (j+1) r
 |j,.d _::r=>zbi as (j+1) r
def znk(as:List Arg):Bool:=zbi as 0 as
theorem zeA{as:List Arg}:∀{l:List Arg}{j k:Nat}{i:Nat},zbi as j l=true->l[k]? = some (.s i)->zdJ as i=some (j+k)
 |[],_,_,_,_,e=>by simp at e
 |.s i'::r,j,0,i,h,e=>by simp at e;subst e;unfold zbi at h;rw[Bool.and_eq_true] at h;simpa using h.1
 |.s i'::r,j,k+1,i,h,e=>by unfold zbi at h;rw[Bool.and_eq_true] at h;have:=zeA (k:=k) h.2 (by simpa using e);rw[this];congr 1;lia
 |.d x::r,j,0,i,h,e=>by simp at e
 |.d x::r,j,k+1,i,h,e=>by unfold zbi at h;have:=zeA (k:=k) h (by simpa using e);rw[this];congr 1;lia
theorem zfv{i:Nat}:∀{l:List Arg}{j m:Nat},zd4 i j l=some m->∃ k,m=j+k/\l[k]? = some (.s i)
 |[],_,_,h=>by simp[zd4] at h
 |.s i'::r,j,m,h=>by
  unfold zd4 at h;split at h
  ·rename_i e;subst e;cases h;exact ⟨0,rfl,rfl⟩
  ·obtain ⟨k,h1,h2⟩:=zfv h;exact ⟨k+1,xwl,by simpa using h2⟩
 |.d x::r,j,m,h=>by unfold zd4 at h;obtain ⟨k,h1,h2⟩:=zfv h;exact ⟨k+1,xwl,by simpa using h2⟩
theorem zqE{as:List Arg}{i j:Nat}(h:zdJ as i=some j):as[j]? = some (.s i):=by
 obtain ⟨k,h1,h2⟩:=zfv h;have:j=k:=by lia
 subst this;exact h2
theorem zl2{as:List Arg}{i j:Nat}(u:znk as=true)(h:as[j]? = some (.s i)):zdJ as i=some j:=by have:=zeA (j:=0) u h;simpa using this
def za6(Z:Ev):List Arg->R (List B)
 |[]=>.ok []
 |.d x::r=>(za6 Z r).bind λbs=>.ok (.val x::bs)
 |.s i::r=>match Z[i]? with
  |some (some b)=>if znQ b=true then (za6 Z r).bind λbs=>.ok (b::bs) else .no
  |_=>.no
def zhm(as:List Arg)(bs:List B):Nat->Ev->Ev
 |_,[]=>[]
 |i,o::r=>(match zdJ as i with|some j=>bs[j]?|none=>o)::zhm as bs (i+1) r
theorem zmh{as:List Arg}{bs:List B}:∀{Z:Ev}{k i:Nat},(zhm as bs k Z)[i]? = Z[i]?.map λo=>match zdJ as (k+i) with|some j=>bs[j]?|none=>o
 |[],_,_=>by simp[zhm]
 |o::r,k,0=>by simp[zhm]
 |o::r,k,i+1=>by
  have:=zmh (as:=as) (bs:=bs) (Z:=r) (k:=k+1) (i:=i);simp only[zhm,List.getElem?_cons_succ];rw[this];have e:k+1+i=k+(i+1):=by lia
  rw[e]
theorem zmi{as:List Arg}{bs:List B}:∀{Z:Ev}{k:Nat},(zhm as bs k Z).length = Z.length
 |[],_=>rfl
 |o::r,k=>by simp[zhm,zmi (Z:=r)]
def zag(F:FD)(fa:DAr):De:=λZ=>(fa Z).bind λa=>if znk a.1=true then (za6 a.2 a.1).bind λbs=>(F bs).bind λz=>.ok (z.1,zhm a.1 z.2 0 a.2) else .no
theorem zd3{Z:Ev}:∀{as:List Arg}{bs:List B}{j i:Nat},za6 Z as=.ok bs->as[j]? = some (.s i)->∃ b,Z[i]? = some (some b)/\bs[j]? = some b/\znQ b=true
 |[],bs,j,i,h,e=>by simp at e
 |.d x::r,bs,j,i,h,e=>by
  unfold za6 at h;cases q:za6 Z r with
  |ok l =>
   rw[q] at h;simp only[R.bind_ok,R.ok.injEq] at h;subst h;cases j with
   |zero=>simp at e
   |succ j =>
    obtain ⟨b,h1,h2,h3⟩:=zd3 (j:=j) q (by simpa using e);exact ⟨b,h1,by simpa using h2,h3⟩
  |er n=>rw[q] at h;simp at h
  |no=>rw[q] at h;simp at h
 |.s i'::r,bs,j,i,h,e=>by
  unfold za6 at h;split at h
  ·rename_i b eb;split at h
   ·rename_i ob;cases q:za6 Z r with
    |ok l =>
     rw[q] at h;simp only[R.bind_ok,R.ok.injEq] at h;subst h;cases j with
     |zero=>simp at e;subst e;exact ⟨b,eb,rfl,ob⟩
     |succ j =>
      obtain ⟨b,h1,h2,h3⟩:=zd3 (j:=j) q (by simpa using e);exact ⟨b,h1,by simpa using h2,h3⟩
    |er n=>rw[q] at h;simp at h
    |no=>rw[q] at h;simp at h
   ·cases h
  ·cases h
theorem zed{Z:Ev}:∀{as:List Arg}{n:Nat},za6 Z as≠.er n
 |[],n,h=>by simp[za6] at h
 |.d x::r,n,h=>by
  unfold za6 at h;cases q:za6 Z r with
  |ok l=>rw[q] at h;simp at h
  |er m=>exact zed q
  |no=>rw[q] at h;simp at h
 |.s i::r,n,h=>by
  unfold za6 at h;split at h
  ·split at h
   ·cases q:za6 Z r with
    |ok l=>rw[q] at h;simp at h
    |er m=>exact zed q
    |no=>rw[q] at h;simp at h
   ·cases h
  ·cases h
def wIn(w:Wn)(as:List Arg):Wn:=λb=>(w b).bind (zdJ as)
def zpD(w w':Wn)(as:List Arg):Wn:=λb=>match w' b with
 |some j=>zrp as j
 |none=>if (w b).bind (zdJ as)=none then w b else none
section
variable{K:W.Frag}{C:Cn}{Y:L2.St}{G H:Hp}{w:Wn}{Z:Ev}
theorem ziR(r:Rel K C G w Z Y H):∀{as l:List Arg}{vs:List V}{bs:List B}{k j:Nat}{b:B}{v:V},(∀ m i,l[m]? = some (.s i)->zdJ as i=some (k+m))->zc9 K G Y l vs->za6 Z l=.ok bs->bs[j]? = some b->vs[j]? = some v->RB K G H (wIn w as) (k+j) v b
 |as,[],vs,bs,k,j,b,v,hu,ha,hr,hb,hv=>by simp[za6] at hr;subst hr;simp at hb
 |as,.d x::l,vs,bs,k,j,b,v,hu,ha,hr,hb,hv=>by
  obtain ⟨v0,t,rfl,h2,h3⟩:=ha;unfold za6 at hr;cases q:za6 Z l with
  |ok l' =>
   rw[q] at hr;simp only[R.bind_ok,R.ok.injEq] at hr;subst hr;cases j with
   |zero=>simp at hb hv;subst hb;subst hv;exact h2
   |succ j =>
    have:=ziR r (as:=as) (k:=k+1) (j:=j) (λm i e=>by rw[hu (m+1) i (by simpa using e)];congr 1;lia) h3 q (by simpa using hb) (by simpa using hv);have e:k+1+j=k+(j+1):=by lia
    rw[e] at this;exact this
  |er n=>rw[q] at hr;simp at hr
  |no=>rw[q] at hr;simp at hr
 |as,.s i::l,vs,bs,k,j,b,v,hu,ha,hr,hb,hv=>by
  obtain ⟨v0,t,rfl,h2,h3⟩:=ha;unfold za6 at hr;split at hr
  ·rename_i b0 eb;split at hr
   ·rename_i ob;cases q:za6 Z l with
    |ok l' =>
     rw[q] at hr;simp only[R.bind_ok,R.ok.injEq] at hr;subst hr;cases j with
     |zero =>
      simp at hb hv;subst hb;subst hv;obtain ⟨v1,h4,h5⟩:=r.sl i _ eb;rw[h2] at h4;cases h4;exact h5.grow (.refl _) λa o e1 e2=>⟨e2,by unfold wIn;rw[e1];exact hu 0 i rfl⟩
     |succ j =>
      have:=ziR r (as:=as) (k:=k+1) (j:=j) (λm i e=>by rw[hu (m+1) i (by simpa using e)];congr 1;lia) h3 q (by simpa using hb) (by simpa using hv);have e:k+1+j=k+(j+1):=by lia
      rw[e] at this;exact this
    |er n=>rw[q] at hr;simp at hr
    |no=>rw[q] at hr;simp at hr
   ·cases hr
  ·cases hr
theorem zfU:∀{as:List Arg}{vs:List V}{bs:List B},zc9 K G Y as vs->za6 Z as=.ok bs->bs.length=vs.length
 |[],vs,bs,ha,hr=>by simp[za6] at hr;subst hr;cases ha;rfl
 |.d x::l,vs,bs,ha,hr=>by
  obtain ⟨v0,t,rfl,h2,h3⟩:=ha;unfold za6 at hr;cases q:za6 Z l with
  |ok l'=>rw[q] at hr;simp only[R.bind_ok,R.ok.injEq] at hr;subst hr;simp[zfU h3 q]
  |er n=>rw[q] at hr;simp at hr
  |no=>rw[q] at hr;simp at hr
 |.s i::l,vs,bs,ha,hr=>by
  obtain ⟨v0,t,rfl,h2,h3⟩:=ha;unfold za6 at hr;split at hr
  ·split at hr
   ·cases q:za6 Z l with
    |ok l'=>rw[q] at hr;simp only[R.bind_ok,R.ok.injEq] at hr;subst hr;simp[zfU h3 q]
    |er n=>rw[q] at hr;simp at hr
    |no=>rw[q] at hr;simp at hr
   ·cases hr
  ·cases hr
theorem zgz:∀{as:List Arg}{vs:List V}{j i:Nat},zc9 K G Y as vs->as[j]? = some (.s i)->∃ v,vs[j]? = some v/\Y[i]? = some (some v)
 |[],_,_,_,_,e=>by simp at e
 |.d x::l,vs,j,i,ha,e=>by
  obtain ⟨v0,t,rfl,h2,h3⟩:=ha;cases j with
  |zero=>simp at e
  |succ j=>obtain ⟨v,e1,e2⟩:=zgz (j:=j) h3 (by simpa using e);exact ⟨v,by simpa using e1,e2⟩
 |.s i'::l,vs,j,i,ha,e=>by
  obtain ⟨v0,t,rfl,h2,h3⟩:=ha;cases j with
  |zero=>simp at e;subst e;exact ⟨v0,rfl,h2⟩
  |succ j=>obtain ⟨v,e1,e2⟩:=zgz (j:=j) h3 (by simpa using e);exact ⟨v,by simpa using e1,e2⟩
theorem Rel.back{as:List Arg}{vs:List V}{bs bs':List B}{ks:List Bool}{G' H':Hp}{w':Wn}(r:Rel K C G w Z Y H)(u:znk as=true)(ha:zc9 K G Y as vs)(hr:za6 Z as=.ok bs)(hk:zcc bs=ks)
  (s:zbj G H (wIn w as) G' H' w') (pb:zqs K G' H' w' ks bs' vs):Rel K C G' (zpD w w' as) (zhm as bs' 0 Z) Y H'/\zbj G H w G' H' (zpD w w' as):=by
 have wi:∀ b,wIn w as b≠none->w b≠none:=λb e z=>e (by unfold wIn;rw[z];rfl);have wi2:∀ b,w b=none->wIn w as b=none:=λb z=>by unfold wIn;rw[z];rfl
 have st:zbj G H w G' H' (zpD w w' as):=by
  refine ⟨s.g,λb o e=>?_,λb o e z=>s.h b o e (wi2 b z),λb e=>?_,s.k⟩
  ·rcases s.fr b o e with q|q|q
   ·exact .inl q
   ·exact .inr (.inl q)
   ·exact .inr (.inr (wi b q))
  ·unfold zpD at e;split at e
   ·rename_i j ej;rcases s.w b (by rw[ej];simp) with q|q
    ·exact .inl (wi b q)
    ·exact .inr q
   ·split at e
    ·exact .inl e
    ·exact absurd rfl e
 have keep:∀ a o,w a≠none->(w a).bind (zdJ as)=none->H a=some o->H' a=some o/\w' a=none/\G' a=none:=λa o e1 e2 e3=>by
  have e4:wIn w as a=none:=e2;have e5:=s.h a o e3 e4;have e6:w' a=none:=by
   cases q:w' a with
   |none=>rfl
   |some j =>
    rcases s.w a (by rw[q];simp) with z|z
    ·exact absurd e4 z
    ·rw[e3] at z;cases z
  refine ⟨e5,e6,?_⟩;cases q:G' a with
  |none=>rfl
  |some o' =>
   rcases s.fr a o' q with z|z|z
   ·exact absurd (r.wg a e1) z
   ·rw[e3] at z;cases z
   ·exact absurd e4 z
 refine ⟨⟨pb.gh,λb e=>?_,λb e=>?_,by rw[zmi];exact r.len,λi b e=>?_,r.en.trans st,r.pin⟩,st⟩
 ·unfold zpD at e;split at e
  ·rename_i j ej;exact pb.wg b (by rw[ej];simp)
  ·split at e
   ·rename_i e2;cases q:H b with
    |none=>exact absurd q (r.wh b e)
    |some o=>exact (keep b o e e2 q).2.2
   ·exact absurd rfl e
 ·unfold zpD at e;split at e
  ·rename_i j ej;exact pb.wh b (by rw[ej];simp)
  ·split at e
   ·rename_i e2;cases q:H b with
    |none=>exact absurd q (r.wh b e)
    |some o=>rw[(keep b o e e2 q).1];simp
   ·exact absurd rfl e
 ·rw[zmh,Nat.zero_add] at e;cases q:zdJ as i with
  |some j =>
   have ej:=zqE q;obtain ⟨v,e1,e2⟩:=zgz ha ej;obtain ⟨b0,h1,h2,h3⟩:=zd3 hr ej;have hkj:ks[j]? = some true:=by rw[<- hk];unfold zcc;rw[List.getElem?_map,h2];simp[h3]
   obtain ⟨b',h4,h5⟩:=pb.sl j v hkj e1;rw[h1] at e;simp only[q,Option.map_some] at e;rw[h4] at e;have e':b'=b:=by simpa using e
   subst e';refine ⟨v,e2,h5.grow (.refl _) λa o q1 q2=>⟨q2,?_⟩⟩;unfold zpD zrp;rw[q1];simp only;rw[ej]
  |none =>
   cases e1:Z[i]? with
   |none=>rw[e1] at e;simp at e
   |some o0 =>
    rw[e1] at e;simp only[q,Option.map_some,Option.some.injEq] at e;subst e;obtain ⟨v,h1,h2⟩:=r.sl i b e1;refine ⟨v,h1,h2.grow s.g λa o q1 q2=>?_⟩;have z:(w a).bind (zdJ as)=none:=by rw[q1];exact q
    obtain ⟨k1,k2,_⟩:=keep a o (by rw[q1];simp) z q2;refine ⟨k1,?_⟩;unfold zpD;rw[k2];simp only;rw[if_pos z];exact q1
end
section
variable{X:Cx}{C:Cn}{CX:CXT}{k:Nat}{f:Addr}{fd:FuncData}{ps:List Str}{ks:List Bool}{Fd:FD}{x:Str}{p pos:Pos}{e:Expr}{es:List Expr}{far:DAr}
theorem zoX{Y:L2.St}{H:Hp}{Q:VK}(h:tE X.K C (zag Fd far) Y H Q)(hks:∀ bs,Fd bs≠.no->zcc bs=ks):zue (znj false X.K C.xv ks Fd) [] (EXc C) (tAr X.K C far) Y H Q:=by
 obtain ⟨G,w,Z,r,p⟩:=h;refine zqB (κ:=λG H w=>kE X.K C Y Q G H w) zbU r p λas Z1 vs G1 H1 w1 r1 s1 q1 p1=>?_;rw[List.append_nil];by_cases hu:znk as=true
 ·simp only[hu,if_true] at p1;cases er:za6 Z1 as with
  |ok bs =>
   rw[er,R.bind_ok] at p1;have hk:zcc bs=ks:=by refine hks bs λz=>?_;rw[z] at p1;exact p1
   have hl:bs.length=vs.length:=zfU q1 er;refine ⟨G1,wIn w1 as,bs,by rw[<- hk,<- hl];simp[zcc],hk,⟨r1.gh,λb e=>r1.wg b λz=>e (by unfold wIn;rw[z];rfl),λb e=>r1.wh b λz=>e (by unfold wIn;rw[z];rfl),hl,λj b v e1 e2=>?_⟩,?_⟩
   ·have:=ziR r1 (as:=as) (k:=0) (j:=j) (λm i e=>by rw[Nat.zero_add];exact zl2 hu e) q1 er e1 e2;rw[Nat.zero_add] at this;exact this
   ·cases ef:Fd bs with
    |ok z =>
     rw[ef,R.bind_ok] at p1;intro v G' H' w' s' pb q;obtain ⟨r',st⟩:=r1.back hu q1 er hk s' pb;exact p1 v G' H' _ st r' q
    |er n =>
     rw[ef] at p1;intro G' H' w' s';refine ⟨rfl,n,rfl,p1,G',λ_=>none,r1.en.trans ⟨s'.g,λb o e=>?_,λb o e z=>s'.h b o e (by unfold wIn;rw[z];rfl),λb e=>absurd rfl e,s'.k⟩⟩;rcases s'.fr b o e with q|q|q
     ·exact .inl q
     ·exact .inr (.inl q)
     ·exact .inr (.inr λz=>q (by unfold wIn;rw[z];rfl))
    |no=>rw[ef] at p1;exact p1.elim
  |er n=>exact absurd er zed
  |no=>rw[er] at p1;exact p1.elim
 ·simp only[hu] at p1;exact p1.elim
theorem zsQ(F:zf7 X.prog X.w X.K X.mg X.base CX k f fd ps (znj false X.K C.xv ks Fd))(hr:zew k X.A)(hg:Gl X x)(hm:X.mg x=some (.ref f))(hk:W.keepIn X.K (.ref f)=true)(hb:zgy X.K fd ps [])(hx:zd6 CX X (EXc C))(hks:∀ bs,Fd bs≠.no->zcc bs=ks)
  (ha:JAr X C (e::es) far) (hdb:(x == ("__debug__" : Str))=false:=by decide) (he:starEach (e::es) X.env=(false,eval e X.env)::starEach es X.env:=by rfl) (hpl:(backTo pos (starEach es X.env)).any (·.1)=false:=by rfl) :
  JE X C (.Call (.Name x p) (e::es) [] pos) (zag Fd far) :=
 PE.weak (znG F hr hg hm hk hb .nil hx ha hdb he hpl) λY H Q h=>zoX h hks
def zb1(F:FD)(fa:DAr):DN:=λZ=>(fa Z).bind λa=>if znk a.1=true then (za6 a.2 a.1).bind λbs=>(F bs).bind λz=>match z.1 with
  |.lst l=>.ok (l,zhm a.1 z.2 0 a.2)
  |_=>.no
 else .no
theorem znh{Y:L2.St}{H:Hp}{Q:VK}(h:tN X.K C (zb1 Fd far) Y H Q)(hks:∀ bs,Fd bs≠.no->zcc bs=ks):zue (znj true X.K C.xv ks Fd) [] (EXc C) (tAr X.K C far) Y H Q:=by
 obtain ⟨G,w,Z,r,p⟩:=h;refine zqB (κ:=λG H w=>kN X.K C Y Q G H w) zfI r p λas Z1 vs G1 H1 w1 r1 s1 q1 p1=>?_;rw[List.append_nil];by_cases hu:znk as=true
 ·simp only[hu,if_true] at p1;cases er:za6 Z1 as with
  |ok bs =>
   rw[er,R.bind_ok] at p1;have hk:zcc bs=ks:=by refine hks bs λz=>?_;rw[z] at p1;exact p1
   have hl:bs.length=vs.length:=zfU q1 er;refine ⟨G1,wIn w1 as,bs,by rw[<- hk,<- hl];simp[zcc],hk,⟨r1.gh,λb e=>r1.wg b λz=>e (by unfold wIn;rw[z];rfl),λb e=>r1.wh b λz=>e (by unfold wIn;rw[z];rfl),hl,λj b v e1 e2=>?_⟩,?_⟩
   ·have:=ziR r1 (as:=as) (k:=0) (j:=j) (λm i e=>by rw[Nat.zero_add];exact zl2 hu e) q1 er e1 e2;rw[Nat.zero_add] at this;exact this
   ·cases ef:Fd bs with
    |ok z =>
     rw[ef,R.bind_ok] at p1;intro v G' H' w' s' pb q;obtain ⟨r',st⟩:=r1.back hu q1 er hk s' pb;obtain ⟨l,pp,us,e1,e2,e3,e4,e5,e6,e7⟩:=q;subst e2;rw[e1] at p1;refine p1 pp us G' H' _ st r' e3 e4 e5 ?_ e7;have w1p:w1 pp=none:=by
      cases zz:w1 pp with
      |none=>rfl
      |some k=>exact absurd e3 (r1.wh pp (by rw[zz];simp))
     unfold zpD;rw[e6,w1p];rfl
    |er n =>
     rw[ef] at p1;intro G' H' w' s';refine ⟨rfl,n,rfl,p1,G',λ_=>none,r1.en.trans ⟨s'.g,λb o e=>?_,λb o e z=>s'.h b o e (by unfold wIn;rw[z];rfl),λb e=>absurd rfl e,s'.k⟩⟩;rcases s'.fr b o e with q|q|q
     ·exact .inl q
     ·exact .inr (.inl q)
     ·exact .inr (.inr λz=>q (by unfold wIn;rw[z];rfl))
    |no=>rw[ef] at p1;exact p1.elim
  |er n=>exact absurd er zed
  |no=>rw[er] at p1;exact p1.elim
 ·simp only[hu] at p1;exact p1.elim
theorem zs7(F:zf7 X.prog X.w X.K X.mg X.base CX k f fd ps (znj true X.K C.xv ks Fd))(hr:zew k X.A)(hg:Gl X x)(hm:X.mg x=some (.ref f))(hk:W.keepIn X.K (.ref f)=true)(hb:zgy X.K fd ps [])(hx:zd6 CX X (EXc C))(hks:∀ bs,Fd bs≠.no->zcc bs=ks)
  (ha:JAr X C (e::es) far) (hdb:(x == ("__debug__" : Str))=false:=by decide) (he:starEach (e::es) X.env=(false,eval e X.env)::starEach es X.env:=by rfl) (hpl:(backTo pos (starEach es X.env)).any (·.1)=false:=by rfl) :
  JN X C (.Call (.Name x p) (e::es) [] pos) (zb1 Fd far) :=
 PE.weak (znG F hr hg hm hk hb .nil hx ha hdb he hpl) λY H Q h=>znh h hks
def za5:List Bool->Ev->R (List B)
 |[],_=>.ok []
 |false::ks,_::Z=>(za5 ks Z).bind λl=>.ok (.val .non::l)
 |true::ks,some b::Z=>(za5 ks Z).bind λl=>.ok (b::l)
 |_,_=>.no
def zay(nw:Bool)(ks:List Bool)(m:Nat)(body:DS):FD:=λbs=>if zcc bs=ks then (body (bs.map some++List.replicate m none)).bind λa=>match a.1 with
  |.nx=>if nw=true then .no else (za5 ks a.2).bind λl=>.ok (.non,l)
  |.rt d=>(za5 ks a.2).bind λl=>.ok (d,l)
  |_=>.no
 else .no
theorem zav{nw:Bool}{ks:List Bool}{m:Nat}{body:DS}:∀ bs,zay nw ks m body bs≠.no->zcc bs=ks:=λbs h=>by
 unfold zay at h;by_cases e:zcc bs=ks
 ·exact e
 ·rw[if_neg e] at h;exact absurd rfl h
theorem zes:∀{ks:List Bool}{Z:Ev}{l:List B}{j:Nat},za5 ks Z=.ok l->ks[j]? = some true->∃ b,l[j]? = some b/\Z[j]? = some (some b)
 |[],_,_,_,_,e=>by simp at e
 |false::ks,[],l,j,h,e=>by simp[za5] at h
 |true::ks,[],l,j,h,e=>by simp[za5] at h
 |false::ks,o::Z,l,j,h,e=>by
  unfold za5 at h;cases q:za5 ks Z with
  |ok l' =>
   rw[q] at h;simp only[R.bind_ok,R.ok.injEq] at h;subst h;cases j with
   |zero=>simp at e
   |succ j=>obtain ⟨b,h1,h2⟩:=zes (j:=j) q (by simpa using e);exact ⟨b,by simpa using h1,by simpa using h2⟩
  |er n=>rw[q] at h;simp at h
  |no=>rw[q] at h;simp at h
 |true::ks,none::Z,l,j,h,e=>by simp[za5] at h
 |true::ks,some b::Z,l,j,h,e=>by
  unfold za5 at h;cases q:za5 ks Z with
  |ok l' =>
   rw[q] at h;simp only[R.bind_ok,R.ok.injEq] at h;subst h;cases j with
   |zero=>exact ⟨b,rfl,rfl⟩
   |succ j=>obtain ⟨b,h1,h2⟩:=zes (j:=j) q (by simpa using e);exact ⟨b,by simpa using h1,by simpa using h2⟩
  |er n=>rw[q] at h;simp at h
  |no=>rw[q] at h;simp at h
theorem zdV:∀{ks:List Bool}{Z:Ev}{n:Nat},za5 ks Z≠.er n
 |[],_,_,h=>by simp[za5] at h
 |false::ks,[],n,h=>by simp[za5] at h
 |true::ks,[],n,h=>by simp[za5] at h
 |false::ks,o::Z,n,h=>by
  unfold za5 at h;cases q:za5 ks Z with
  |ok l'=>rw[q] at h;simp at h
  |er m=>exact zdV q
  |no=>rw[q] at h;simp at h
 |true::ks,none::Z,n,h=>by simp[za5] at h
 |true::ks,some b::Z,n,h=>by
  unfold za5 at h;cases q:za5 ks Z with
  |ok l'=>rw[q] at h;simp at h
  |er m=>exact zdV q
  |no=>rw[q] at h;simp at h
def zpK(ks:List Bool):List Nat:=(List.range ks.length).filter λj=>ks[j]? == some true
def zrP(CX:CXT)(P:Program)(w:World)(K:W.Frag)(mg:Str->Option Value)(base:Heap):Prop :=
 ∀(N:List Str)(qual:Str)(scope:Scope)(f:Addr)(cdv:Value)(A:Around)(outer:List Env)(s:Shared)(H:Hp)(E E':XK),scope.kind=.function->(∀ u a H',E' u a H'->E u a H') ->
  zd6 CX (zpq CX P w K mg base N qual scope f cdv A outer s H E) E'
theorem zaF{P:Program}{w:World}{K:W.Frag}{mg:Str->Option Value}{base:Heap}:zrP CX0 P w K mg base:=λ_ _ _ _ _ _ _ _ _ _ _ _ _ _ _ _ _ _ _ _ h=>h.elim
theorem zaD{P:Program}{w:World}{K:W.Frag}{mg:Str->Option Value}{base:Heap}{xq qual:Str}{st:Stmt}{N:List Str}{xv:Nat->Value}{m:Nat}{fb:DS}(nw:Bool)(lv:zrP CX P w K mg base)(F:Fun K xq qual st f fd)(S:za8 N ps (zak st))(hl:ps.length=ks.length)(hm:N.length=ks.length+m)
  (hbody:∀(X:Cx)(C:Cn),(∃ cdv A outer s H E,X=zpq CX P w K mg base N qual (zak st) f cdv A outer s H E)->C.pp=zpK ks->C.xv=xv->C.nw=nw->zew k X.A->zd6 CX X (EXc C)->PassesOwn (model X.prog X.w) X.A X.env X.xe->JSs X C (zc7 st) fb) :
  zf7 P w K mg base CX (k+1) f fd ps (znj nw K xv ks (zay nw ks m fb)):=by
 obtain ⟨oc,od,kV,doc,pm,an,cdv,ct,osl,rfl,lk,hcd⟩:=F.ex;refine zvJ lk hcd S (λvs H Q E ⟨_,_,_,h,_⟩=>h.trans hl.symm) λA outer s H vs Q E hr hsp=>?_;obtain ⟨G,w0,bs,hv,hk,pr,hF⟩:=hsp;let X:=zpq CX P w K mg base N qual (zak st) f cdv A outer s H E;let C:Cn:=⟨G,H,w0,zpK ks,L2.start N vs,λn=>zay nw ks m fb bs=.er n,xv,nw⟩
 have hE:∀ u a H',EXc C u a H'->E u a H':=λu a H' ⟨ea,n,eu,en,G',w',s'⟩=>by subst ea;subst eu;have en':zay nw ks m fb bs=.er n:=en;rw[en'] at hF;exact hF G' H' w' s'
 have hb:=hbody X C ⟨cdv,A,outer,s,H,E,rfl⟩ rfl rfl rfl hr (lv N qual (zak st) f cdv A outer s H E (EXc C) S.kind hE) PassesOwn.leaving;refine ⟨_,hb,G,w0,bs.map some++List.replicate m none,?_,?_⟩
 ·refine ⟨pr.gh,pr.wg,pr.wh,?_,λi b e=>?_,.refl _ _ _,λi _=>rfl⟩
  ·unfold L2.start;simp only[wav,wag,List.length_replicate];have:=pr.len;lia
  ·have hi:i<bs.length:=by
    by_cases hi:i<bs.length
    ·exact hi
    ·rw[List.getElem?_append_right (by simpa using hi),List.getElem?_replicate] at e;split at e <;> cases e
   rw[List.getElem?_append_left (by simpa using hi),List.getElem?_map] at e;have eb:bs[i]? = some b:=by
    cases q:bs[i]? with
    |none=>rw[q] at e;cases e
    |some z=>rw[q] at e;cases e;rfl
   have hiv:i<vs.length:=by rw[<- pr.len];exact hi
   refine ⟨vs[i],?_,pr.sl i b vs[i] eb (by simp[hiv])⟩;unfold L2.start;rw[List.getElem?_append_left (by simpa using hiv),List.getElem?_map];simp[hiv]
 ·have hF':match zay nw ks m fb bs with
   |.ok a=>∀ v G' H' w',zbj G H w0 G' H' w'->zqs K G' H' w' ks a.2 vs->RtG nw K H G' H' w' a.1 v->Q v H'
   |.er n=>∀ G' H' w',zbj G H w0 G' H' w'->E (xv n) none H'
   |.no=>False:=hF
  have er:zay nw ks m fb bs=(fb (bs.map some++List.replicate m none)).bind λa=>match a.1 with
   |.nx=>if nw=true then .no else (za5 ks a.2).bind λl=>.ok (.non,l)
   |.rt d=>(za5 ks a.2).bind λl=>.ok (d,l)
   |_=>.no:=by unfold zay;rw[if_pos hk]
  have back:∀{Z':Ev}{l:List B}{Y':L2.St}{G' H':Hp}{w':Wn},za5 ks Z'=.ok l->Rel K C G' w' Z' Y' H'->zqs K G' H' w' ks l vs:=λ{Z' l Y' G' H' w'} eb r'=>by
   refine ⟨r'.gh,r'.wg,r'.wh,λj v e1 e2=>?_⟩;obtain ⟨b,h1,h2⟩:=zes eb e1;obtain ⟨v',h3,h4⟩:=r'.sl j b h2;have hj:j<ks.length:=(wam.mp e1).1;have hp:Y'[j]? = (L2.start N vs)[j]? := r'.pin j (by show j∈zpK ks;unfold zpK;rw[List.mem_filter];exact ⟨List.mem_range.mpr hj,by simp[e1]⟩)
   have hs:(L2.start N vs)[j]? = some (some v):=by unfold L2.start;rw[List.getElem?_append_left (by simpa using (List.getElem?_eq_some_iff.mp e2).1),List.getElem?_map,e2];rfl
   rw[hp,hs] at h3;cases h3;exact ⟨b,h1,h4⟩
  cases ef:fb (bs.map some++List.replicate m none) with
  |ok z =>
   obtain ⟨fl,Z'⟩:=z;rw[ef,R.bind_ok] at er;cases fl with
   |nx =>
    cases nw with
    |true=>rw[er] at hF';exact hF'.elim
    |false =>
     intro Y' G' H' w' s' r';have er:zay false ks m fb bs=(za5 ks Z').bind λl=>.ok (.non,l):=er;cases eb:za5 ks Z' with
     |ok l =>
      rw[er] at hF';simp only[eb,R.bind_ok] at hF';exact hF' _ G' H' w' s' (back eb r') (by unfold RtG Rep;rfl)
     |er n=>exact absurd eb zdV
     |no=>rw[er] at hF';simp only[eb,R.bind_no] at hF'
   |rt d =>
    intro v Y' G' H' w' s' r' q;cases eb:za5 ks Z' with
    |ok l =>
     rw[er] at hF';simp only[eb,R.bind_ok] at hF';exact hF' _ G' H' w' s' (back eb r') q
    |er n=>exact absurd eb zdV
    |no=>rw[er] at hF';simp only[eb,R.bind_no] at hF'
   |bk=>rw[er] at hF';exact hF'.elim
   |ct=>rw[er] at hF';exact hF'.elim
  |er n =>
   show zay nw ks m fb bs=.er n;rw[er,ef];rfl
  |no=>rw[er,ef] at hF';exact hF'.elim
theorem xwQ{P:Program}{w:World}{K:W.Frag}{mg:Str->Option Value}{base:Heap}{xq qual:Str}{st:Stmt}{N:List Str}{xv:Nat->Value}{m:Nat}{fb:DS}(nw:Bool)(lv:zrP CX P w K mg base)(F:Fun K xq qual st f fd)(S:za8 N ps (zak st))(hl:ps.length=ks.length)(hm:N.length=ks.length+m)
  (hbody:∀ cdv A outer s H E cG cH cw cσ cex,nw=nw->zew k (zpq CX P w K mg base N qual (zak st) f cdv A outer s H E).A->zd6 CX (zpq CX P w K mg base N qual (zak st) f cdv A outer s H E) (EXc (⟨cG,cH,cw,zpK ks,cσ,cex,xv,nw⟩:Cn))->PassesOwn (model (zpq CX P w K mg base N qual (zak st) f cdv A outer s H E).prog (zpq CX P w K mg base N qual (zak st) f cdv A outer s H E).w) (zpq CX P w K mg base N qual (zak st) f cdv A outer s H E).A (zpq CX P w K mg base N qual (zak st) f cdv A outer s H E).env (zpq CX P w K mg base N qual (zak st) f cdv A outer s H E).xe->JSs (zpq CX P w K mg base N qual (zak st) f cdv A outer s H E) (⟨cG,cH,cw,zpK ks,cσ,cex,xv,nw⟩:Cn) (zc7 st) fb) :
  zf7 P w K mg base CX (k+1) f fd ps (znj nw K xv ks (zay nw ks m fb)):=zaD nw lv F S hl hm λX ⟨cG,cH,cw,_,cσ,cex,_,_⟩ ⟨cdv,A,outer,s,H,E,e⟩ h1 h2 h3=>by subst e;dsimp only at h1 h2 h3;subst h1 h2 h3;exact hbody cdv A outer s H E cG cH cw cσ cex rfl
end
mutual
def zez:Dt->PyData
 |.non=>.none
 |.bl b=>.bool b
 |.int i=>.int i
 |.str x=>.str x
 |.tup l=>.tuple (zef l)
 |.lst l=>.list (zef l)
 |.dct _=>.dict []
 |.scr ns=>.list (ns.map .int)
def zef:List Dt->List PyData
 |[]=>[]
 |d::ds=>zez d::zef ds
end
def okN:Nat->Dt->Bool
 |_,.non=>true
 |_,.bl _=>true
 |_,.int _=>true
 |_,.str x=>PySem.PyData.strOk x
 |0,.tup _=>false
 |0,.lst _=>false
 |n+1,.tup l=>l.all (okN n)
 |n+1,.lst l=>l.all (okN n)
 |_,.dct _=>false
 |_,.scr _=>false
mutual
def eqD:Dt->Dt->Bool
 |.non,.non=>true
 |.bl a,.bl b=>a == b
 |.bl a,.int j=>(if a then 1 else 0) == j
 |.int i,.bl b=>i == (if b then 1 else 0)
 |.int i,.int j=>i == j
 |.str x,.str y=>x == y
 |.lst xs,.lst ys=>zf0 xs ys
 |.tup xs,.tup ys=>zf0 xs ys
 |_,_=>false
def zf0:List Dt->List Dt->Bool
 |[],[]=>true
 |x::xs,y::ys=>eqD x y && zf0 xs ys
 |_,_=>false
end
theorem zio{n:Nat}(ih:∀ d,okN n d=true->(zez d).canLay0=true/\(zez d).depth<=n):∀ l:List Dt,l.all (okN n)=true->PyData.canLayAll0 (zef l)=true/\PyData.depthAll (zef l)<=n
 |[],_=>by simp[zef,PyData.canLayAll0,PyData.depthAll]
 |d::ds,h=>by simp only[List.all_cons,wae] at h;obtain ⟨h1,h2⟩:=ih d h.1;obtain ⟨h3,h4⟩:=zio ih ds h.2;simp only[zef,PyData.canLayAll0,PyData.depthAll,h1,h3,Bool.and_self,true_and];lia
theorem zjU:∀(n:Nat)(d:Dt),okN n d=true->(zez d).canLay0=true/\(zez d).depth<=n
 |n,.non,_=>by simp[zez,PyData.canLay0,PyData.depth]
 |n,.bl _,_=>by simp[zez,PyData.canLay0,PyData.depth]
 |n,.int _,_=>by simp[zez,PyData.canLay0,PyData.depth]
 |n,.str x,h=>by
  have h:PySem.PyData.strOk x=true:=by cases n <;> simpa [okN] using h
  simp[zez,PyData.canLay0,PyData.depth,h]
 |0,.tup _,h=>by simp[okN] at h
 |0,.lst _,h=>by simp[okN] at h
 |n+1,.tup l,h=>by obtain ⟨h1,h2⟩:=zio (zjU n) l (by simpa [okN] using h);simp only[zez,PyData.canLay0,PyData.depth,h1,true_and];lia
 |n+1,.lst l,h=>by obtain ⟨h1,h2⟩:=zio (zjU n) l (by simpa [okN] using h);simp only[zez,PyData.canLay0,PyData.depth,h1,true_and];lia
 |n,.dct _,h=>by cases n <;> simp[okN] at h
 |n,.scr _,h=>by cases n <;> simp[okN] at h
mutual
theorem zlY:∀(n:Nat)(x y:Dt),okN n x=true->okN n y=true->PyData.eqv (zez x) (zez y)=eqD x y
 |n,.non,y,h,h'=>by cases y <;> first|(cases n <;> simp[okN] at h';done)|simp[zez,PyData.eqv,eqD]
 |n,.bl _,y,h,h'=>by cases y <;> first|(cases n <;> simp[okN] at h';done)|simp[zez,PyData.eqv,eqD]
 |n,.int _,y,h,h'=>by cases y <;> first|(cases n <;> simp[okN] at h';done)|simp[zez,PyData.eqv,eqD]
 |n,.str _,y,h,h'=>by cases y <;> first|(cases n <;> simp[okN] at h';done)|simp[zez,PyData.eqv,eqD]
 |0,.tup _,y,h,h'=>by simp[okN] at h
 |0,.lst _,y,h,h'=>by simp[okN] at h
 |n+1,.tup l,y,h,h'=>by
  cases y with
  |tup l'=>simp only[zez,PyData.eqv,eqD];exact zkS n l l' (by simpa [okN] using h) (by simpa [okN] using h')
  |dct _=>simp[okN] at h'
  |scr _=>simp[okN] at h'
  |_=>simp[zez,PyData.eqv,eqD]
 |n+1,.lst l,y,h,h'=>by
  cases y with
  |lst l'=>simp only[zez,PyData.eqv,eqD];exact zkS n l l' (by simpa [okN] using h) (by simpa [okN] using h')
  |dct _=>simp[okN] at h'
  |scr _=>simp[okN] at h'
  |_=>simp[zez,PyData.eqv,eqD]
 |n,.dct _,y,h,h'=>by cases n <;> simp[okN] at h
 |n,.scr _,y,h,h'=>by cases n <;> simp[okN] at h
theorem zkS:∀(n:Nat)(x y:List Dt),x.all (okN n)=true->y.all (okN n)=true->PyData.eqvAll (zef x) (zef y)=zf0 x y
 |n,[],[],_,_=>by simp[zef,PyData.eqvAll,zf0]
 |n,[],_::_,_,_=>by simp[zef,PyData.eqvAll,zf0]
 |n,_::_,[],_,_=>by simp[zef,PyData.eqvAll,zf0]
 |n,a::as,b::bs,h,h'=>by simp only[List.all_cons,wae] at h h';simp only[zef,PyData.eqvAll,zf0];rw[zlY n a b h.1 h'.1,zkS n as bs h.2 h'.2]
end
section
variable{X:Cx}{pS:List (Addr×Obj)}{Y:L2.St}{H:Hp}{s:Shared}
mutual
theorem zcQ(I:L2.Inv X pS Y H s):∀(n:Nat)(d:Dt)(v:V)(u:Value),okN n d=true->Rep X.K H d v->zby v u->∃ as,Reads s.heap u (zez d) as
 |n,.non,v,u,_,h,r=>by rw[zgO h] at r;cases r;exact ⟨[],by simp only[zez];exact .none⟩
 |n,.bl b,v,u,_,h,r=>by rw[zds h] at r;cases r;exact ⟨[],by simp only[zez];exact .bool _⟩
 |n,.int b,v,u,_,h,r=>by rw[za3 h] at r;obtain ⟨t,rfl⟩:=r;exact ⟨[],by simp only[zez];exact .int _ _⟩
 |n,.str b,v,u,_,h,r=>by rw[zf3 h] at r;obtain ⟨t,rfl⟩:=r;exact ⟨[],by simp only[zez];exact .str _ _⟩
 |0,.tup l,v,u,hk,h,r=>by simp[okN] at hk
 |0,.lst l,v,u,hk,h,r=>by simp[okN] at hk
 |n+1,.tup l,v,u,hk,h,r=>by obtain ⟨a,vs,rfl,h1,h2⟩:=zb4 h;cases r;obtain ⟨its,rv,⟨o,e,c,k,dd⟩,_⟩:=I.tuple h1;obtain ⟨as,q⟩:=zey I n l vs its (by simpa [okN] using hk) h2 rv;exact ⟨as,by simp only[zez];exact .tuple e c dd (by simpa using q)⟩
 |n+1,.lst l,v,u,hk,h,r=>by obtain ⟨a,vs,rfl,h1,h2⟩:=zaK h;cases r;obtain ⟨its,rv,⟨o,k,e,c,_,dd⟩,_⟩:=I.list (SqL.of h1);obtain ⟨as,q⟩:=zey I n l vs its (by simpa [okN] using hk) h2 rv;exact ⟨a::as,by simp only[zez];exact .list e c dd (by simpa using q)⟩
 |n,.dct _,v,u,hk,h,r=>by cases n <;> simp[okN] at hk
 |n,.scr _,v,u,hk,h,r=>by cases n <;> simp[okN] at hk
theorem zey(I:L2.Inv X pS Y H s):∀(n:Nat)(ds:List Dt)(vs:List V)(us:List Value),ds.all (okN n)=true->za2 X.K H ds vs->zaR vs us->∃ as,ReadsAll s.heap us (zef ds) as
 |n,[],vs,us,_,h,r=>by rw[h.nil_inv] at r;cases r;exact ⟨[],by simp only[zef];exact .nil⟩
 |n,d::ds,vs,us,hk,h,r=>by
  obtain ⟨v,t,rfl,h1,h2⟩:=h.cons_inv;cases r with
  |cons r1 r2 =>
   simp only[List.all_cons,wae] at hk;obtain ⟨as,q1⟩:=zcQ I n d v _ hk.1 h1 r1;obtain ⟨bs,q2⟩:=zey I n ds t _ hk.2 h2 r2;exact ⟨as++bs,by simp only[zef];exact .cons q1 q2⟩
end
mutual
theorem zo4(I:L2.Inv X pS Y H s):∀(n:Nat)(d d':Dt)(v:V),okN n d=true->okN n d'=true->Rep X.K H d v->Rep X.K H d' v->d=d'
 |n,.non,d',v,hk,hk',h,h'=>by rw[zgO h] at h';cases d' <;> unfold Rep at h' <;> first|(obtain ⟨a,vs,z,_⟩:=h';cases z;done)|(obtain ⟨a,z,_⟩:=h';cases z;done)|(cases h';rfl)|(cases h';done)|rfl
 |n,.bl b,d',v,hk,hk',h,h'=>by rw[zds h] at h';cases d' <;> unfold Rep at h' <;> first|(obtain ⟨a,vs,z,_⟩:=h';cases z;done)|(obtain ⟨a,z,_⟩:=h';cases z;done)|(cases h';rfl)|(cases h';done)|rfl
 |n,.int b,d',v,hk,hk',h,h'=>by rw[za3 h] at h';cases d' <;> unfold Rep at h' <;> first|(obtain ⟨a,vs,z,_⟩:=h';cases z;done)|(obtain ⟨a,z,_⟩:=h';cases z;done)|(cases h';rfl)|(cases h';done)|rfl
 |n,.str b,d',v,hk,hk',h,h'=>by rw[zf3 h] at h';cases d' <;> unfold Rep at h' <;> first|(obtain ⟨a,vs,z,_⟩:=h';cases z;done)|(obtain ⟨a,z,_⟩:=h';cases z;done)|(cases h';rfl)|(cases h';done)|rfl
 |0,.tup l,d',v,hk,_,h,h'=>by simp[okN] at hk
 |0,.lst l,d',v,hk,_,h,h'=>by simp[okN] at hk
 |n+1,.tup l,d',v,hk,hk',h,h'=>by
  obtain ⟨a,vs,rfl,h1,h2⟩:=zb4 h;cases d' with
  |tup l' =>
   obtain ⟨a',vs',e,h3,h4⟩:=zb4 h';cases e;rw[I.tuple_inj h3 h1] at h4;rw[ziD I n l l' vs (by simpa [okN] using hk) (by simpa [okN] using hk') h2 h4]
  |lst l' =>
   obtain ⟨a',vs',e,h3,h4⟩:=zaK h';cases e;obtain ⟨its,rv,⟨o,e,c,k,dd⟩,_⟩:=I.tuple h1;obtain ⟨its',rv',⟨o',k',e',c',_,dd'⟩,_⟩:=I.list (SqL.of h3);rw[e] at e';cases e';rw[c] at c';exact absurd c' xwd
  |dct _=>simp[okN] at hk'
  |scr _=>simp[okN] at hk'
  |non=>cases zgO h'
  |bl _=>cases zds h'
  |int _=>cases za3 h'
  |str _=>cases zf3 h'
 |n+1,.lst l,d',v,hk,hk',h,h'=>by
  obtain ⟨a,vs,rfl,h1,h2⟩:=zaK h;cases d' with
  |lst l' =>
   obtain ⟨a',vs',e,h3,h4⟩:=zaK h';cases e;rw[h1] at h3;cases h3;rw[ziD I n l l' vs (by simpa [okN] using hk) (by simpa [okN] using hk') h2 h4]
  |tup l' =>
   obtain ⟨a',vs',e,h3,h4⟩:=zb4 h';cases e;obtain ⟨its,rv,⟨o,e,c,k,dd⟩,_⟩:=I.tuple h3;obtain ⟨its',rv',⟨o',k',e',c',_,dd'⟩,_⟩:=I.list (SqL.of h1);rw[e] at e';cases e';rw[c] at c';exact absurd c' xwd
  |dct _=>simp[okN] at hk'
  |scr _=>simp[okN] at hk'
  |non=>cases zgO h'
  |bl _=>cases zds h'
  |int _=>cases za3 h'
  |str _=>cases zf3 h'
 |n,.dct _,d',v,hk,_,h,h'=>by cases n <;> simp[okN] at hk
 |n,.scr _,d',v,hk,_,h,h'=>by cases n <;> simp[okN] at hk
theorem ziD(I:L2.Inv X pS Y H s):∀(n:Nat)(ds ds':List Dt)(vs:List V),ds.all (okN n)=true->ds'.all (okN n)=true->za2 X.K H ds vs->za2 X.K H ds' vs->ds=ds'
 |n,[],ds',vs,_,_,h,h'=>by
  rw[h.nil_inv] at h';cases ds' with
  |nil=>rfl
  |cons d t=>obtain ⟨v,r,z,_⟩:=h'.cons_inv;cases z
 |n,d::ds,ds',vs,hk,hk',h,h'=>by
  obtain ⟨v,t,rfl,h1,h2⟩:=h.cons_inv;cases ds' with
  |nil=>cases h'.nil_inv
  |cons d' t' =>
   obtain ⟨v',r',z,h3,h4⟩:=h'.cons_inv;cases z;simp only[List.all_cons,wae] at hk hk';rw[zo4 I n d d' v hk.1 hk'.1 h1 h3,ziD I n ds t' t hk.2 hk'.2 h2 h4]
end
end
def zwu(K:W.Frag)(neg:Bool):R2:=λx y H Q=>∃ dx dy,Rep K H dx x/\Rep K H dy y/\okN 60 dx=true/\okN 60 dy=true/\Q (.bl (if neg then !eqD dx dy else eqD dx dy)) H
theorem zeV{d:Dt}(h:okN 60 d=true):SeqAt.shaped (zez d)=true:=by obtain ⟨h1,h2⟩:=zjU 60 d h;unfold SeqAt.shaped;rw[h1,Bool.true_and];exact wat xwl
section
variable{X:Cx}
theorem zrr(hu:X.A.units+64<cLine):OpR X (compareOp .Eq) (zwu X.K false):=by intro pS s Y H x y v u Q I rx ry h;obtain ⟨dx,dy,h1,h2,h3,h4,q⟩:=h;obtain ⟨as,ra⟩:=zcQ I 60 dx x v h3 h1 rx;obtain ⟨bs,rb⟩:=zcQ I 60 dy y u h4 h2 ry;exact PyProof.Rows.eq_dataH ra rb (zeV h3) (zeV h4) hu ⟨.bl (eqD dx dy),H,I,(by rw[zlY 60 dx dy h3 h4];rfl),q⟩
theorem zrU(hu:X.A.units+64<cLine):OpR X (compareOp .NotEq) (zwu X.K true):=by intro pS s Y H x y v u Q I rx ry h;obtain ⟨dx,dy,h1,h2,h3,h4,q⟩:=h;obtain ⟨as,ra⟩:=zcQ I 60 dx x v h3 h1 rx;obtain ⟨bs,rb⟩:=zcQ I 60 dy y u h4 h2 ry;exact PyProof.Rows.ne_dataH ra rb (zeV h3) (zeV h4) hu ⟨.bl (!eqD dx dy),H,I,(by rw[zlY 60 dx dy h3 h4];rfl),q⟩
def gEq(neg:Bool):Dt->Dt->R Dt:=λx y=>if (okN 60 x && okN 60 y)=true then .ok (.bl (if neg then !eqD x y else eqD x y)) else .no
theorem zlx(neg:Bool):zix (gEq neg):=λx y n h=>by unfold gEq at h;split at h <;> cases h
theorem znP{K:W.Frag}(neg:Bool):Op2 K (zwu K neg) (gEq neg):=λG H x y dx dy z Q gh hx hy e k=>by
 unfold gEq at e;split at e
 ·rename_i h;rw[Bool.and_eq_true] at h;cases e;exact ⟨dx,dy,hx.same gh,hy.same gh,h.1,h.2,k _ G H (.refl gh) (by unfold Rep;rfl)⟩
 ·cases e
theorem zty{pS:List (Addr×Obj)}{Y:L2.St}{H:Hp}{s:Shared}(I:L2.Inv X pS Y H s){A:Around}(hu:A.units+64<cLine){dx dy:Dt}{x y:V}{v u:Value}(h3:okN 60 dx=true)(h4:okN 60 dy=true)(h1:Rep X.K H dx x)(h2:Rep X.K H dy y)(rx:zby x v)(ry:zby y u) :
  SeqAt.EqAt A s v u (eqD dx dy):=by
 obtain ⟨as,ra⟩:=zcQ I 60 dx x v h3 h1 rx;obtain ⟨bs,rb⟩:=zcQ I 60 dy y u h4 h2 ry;obtain ⟨k1,k2⟩:=zjU 60 dx h3;obtain ⟨k3,k4⟩:=zjU 60 dy h4;have:=SeqAt.eqAt_reads (zez dx) (zez dy) A s v u as bs ra rb k1 k3 xwl;rw[zlY 60 dx dy h3 h4] at this;exact this
open Classical in
noncomputable def zm6(K:W.Frag)(H:Hp)(dx:Dt)(u:Value):Bool:=if ∃ d v,okN 60 d=true/\Rep K H d v/\zby v u/\eqD d dx=true then true else false
theorem zkX{pS:List (Addr×Obj)}{Y:L2.St}{H:Hp}{s:Shared}(I:L2.Inv X pS Y H s){d dx:Dt}{v:V}{u:Value}(hk:okN 60 d=true)(h:Rep X.K H d v)(r:zby v u):zm6 X.K H dx u=eqD d dx:=by
 unfold zm6;split
 ·rename_i q;obtain ⟨d',v',k',h',r',e'⟩:=q;have ev:v'=v:=r'.inj r;subst ev;rw[zo4 I 60 d d' v' hk k' h h'];exact e'.symm
 ·rename_i q;cases e:eqD d dx with
  |false=>rfl
  |true=>exact absurd ⟨d,v,hk,h,r,e⟩ q
theorem zig{pS:List (Addr×Obj)}{Y:L2.St}{H:Hp}{s:Shared}(I:L2.Inv X pS Y H s){dx:Dt}:∀{ds:List Dt}{vs:List V}{us:List Value},ds.all (okN 60)=true->za2 X.K H ds vs->zaR vs us->us.any (zm6 X.K H dx)=ds.any λd=>eqD d dx
 |[],vs,us,_,h,r=>by rw[h.nil_inv] at r;cases r;rfl
 |d::ds,vs,us,hk,h,r=>by
  obtain ⟨v,t,rfl,h1,h2⟩:=h.cons_inv;cases r with
  |cons r1 r2 =>
   simp only[List.all_cons,wae] at hk;simp only[List.any_cons];rw[zkX I hk.1 h1 r1,zig I hk.2 h2 r2]
theorem zdB{pS:List (Addr×Obj)}{Y:L2.St}{H:Hp}{s:Shared}(I:L2.Inv X pS Y H s){A:Around}(hu:A.units+64<cLine){dx:Dt}{x:V}{v:Value}(hk:okN 60 dx=true)(hx:Rep X.K H dx x)(rx:zby x v):∀{ds:List Dt}{vs:List V}{us:List Value},ds.all (okN 60)=true->za2 X.K H ds vs->zaR vs us->∀ u∈us,SeqAt.EqAt A s u v (zm6 X.K H dx u)
 |[],vs,us,_,h,r,u,hu=>by rw[h.nil_inv] at r;cases r;cases hu
 |d::ds,vs,us,hks,h,r,u,hm=>by
  obtain ⟨v,t,rfl,h1,h2⟩:=h.cons_inv;cases r with
  |cons r1 r2 =>
   simp only[List.all_cons,wae] at hks;rcases wap.mp hm with rfl|hm
   ·rw[zkX I hks.1 h1 r1];exact zty I hu hks.1 hk h1 hx r1 rx
   ·exact zdB I hu hk hx rx hks.2 h2 r2 u hm
def inD(x:Dt)(l:List Dt):Bool:=l.any λd=>eqD d x
def rInD(K:W.Frag)(neg:Bool):R2:=λx y H Q=>∃ dx ds,Rep K H dx x/\(Rep K H (.lst ds) y\/Rep K H (.tup ds) y)/\okN 60 dx=true/\ds.all (okN 60)=true/\Q (.bl (if neg then !inD dx ds else inD dx ds)) H
theorem zgE(A:Around):A.in1.units=A.units+1:=rfl
theorem zoG(hu:X.A.units+65<cLine):OpR X (compareOp .NotIn) (rInD X.K true):=by
 intro pS s Y H x y v u Q I rx ry h;obtain ⟨dx,ds,h1,h2,h3,h4,q⟩:=h;have hu1:X.A.in1.units+64<cLine:=by rw[zgE];lia
 rcases h2 with h2|h2
 ·obtain ⟨a,vs,rfl,k1,k2⟩:=zaK h2;cases ry;obtain ⟨its,r,pl,hz⟩:=I.list (SqL.of k1);refine SeqAt.notIn_listAt (zm6 X.K H dx) pl.isList (λw hw=>zdB I hu1 h3 h1 rx h4 k2 r w (by simpa using hw)) ⟨.bl _,H,I,rfl,?_⟩;rw[show its.toArray.any (zm6 X.K H dx)=its.any (zm6 X.K H dx) by simp,zig I h4 k2 r];exact q
 ·obtain ⟨a,vs,rfl,k1,k2⟩:=zb4 h2;cases ry;obtain ⟨its,r,pl,hz⟩:=I.tuple k1;refine SeqAt.notIn_tupleAt (zm6 X.K H dx) pl (λw hw=>zdB I hu1 h3 h1 rx h4 k2 r w (by simpa using hw)) ⟨.bl _,H,I,rfl,?_⟩;rw[show its.toArray.any (zm6 X.K H dx)=its.any (zm6 X.K H dx) by simp,zig I h4 k2 r];exact q
def gIn(neg:Bool):Dt->Dt->R Dt:=λx y=>match y with
 |.lst ds=>if (okN 60 x && ds.all (okN 60))=true then .ok (.bl (if neg then !inD x ds else inD x ds)) else .no
 |.tup ds=>if (okN 60 x && ds.all (okN 60))=true then .ok (.bl (if neg then !inD x ds else inD x ds)) else .no
 |_=>.no
theorem ztY(neg:Bool):zix (gIn neg):=λx y n h=>by
 unfold gIn at h;split at h
 ·split at h <;> cases h
 ·split at h <;> cases h
 ·cases h
theorem zvG{K:W.Frag}(neg:Bool):Op2 K (rInD K neg) (gIn neg):=λG H x y dx dy z Q gh hx hy e k=>by
 unfold gIn at e;split at e
 ·split at e
  ·rename_i h;rw[Bool.and_eq_true] at h;cases e;exact ⟨dx,_,hx.same gh,.inl (hy.same gh),h.1,h.2,k _ G H (.refl gh) (by unfold Rep;rfl)⟩
  ·cases e
 ·split at e
  ·rename_i h;rw[Bool.and_eq_true] at h;cases e;exact ⟨dx,_,hx.same gh,.inr (hy.same gh),h.1,h.2,k _ G H (.refl gh) (by unfold Rep;rfl)⟩
  ·cases e
 ·cases e
end
def zbm(i:Int):Bool:=decide (-18446744073709551616<i) && decide (i<18446744073709551616)
theorem zhP{i:Int}(h:zbm i=true):-(2 ^ 64)<i/\i<2 ^ 64:=by unfold zbm at h;rw[Bool.and_eq_true] at h;have h1:=of_decide_eq_true h.1;have h2:=of_decide_eq_true h.2;lia
def zdz:Dt->Dt->R Dt
 |.int i,.int j=>.ok (.int (i+j))
 |_,_=>.no
def zmF:Dt->Dt->R Dt
 |.int i,.int j=>.ok (.int (i-j))
 |_,_=>.no
def zil:Dt->Dt->R Dt
 |.int i,.int j=>if (zbm i || zbm j)=true then .ok (.int (i * j)) else .no
 |_,_=>.no
def zqt:Dt->Dt->R Dt
 |.int i,.int j=>if 0<j/\j<1073741824 then .ok (.int (i / j)) else .no
 |_,_=>.no
def zmz:Dt->Dt->R Dt
 |.int i,.int j=>if 0<j then .ok (.int (i % j)) else .no
 |_,_=>.no
def zp8:Dt->Dt->R Dt
 |.int i,.int j=>if 0<=j/\j<=1000/\i.natAbs<18446744073709551616 then .ok (.int (i ^ j.toNat)) else .no
 |_,_=>.no
def zmE(f:Int->Int->Bool):Dt->Dt->R Dt
 |.int i,.int j=>.ok (.bl (f i j))
 |_,_=>.no
section
variable{K:W.Frag}
theorem zaz{G:Hp}(i:Int):Rep K G (.int i) (.int i):=by unfold Rep;rfl
theorem zdy{G:Hp}(b:Bool):Rep K G (.bl b) (.bl b):=by unfold Rep;rfl
theorem zpw:Op2 K (rI0 λi j=>.int (i+j)) zdz:=λG H x y dx dy z Q gh hx hy e k=>by
 unfold zdz at e;split at e
 ·cases e;exact ⟨_,_,za3 hx,za3 hy,k _ G H (.refl gh) (zaz _)⟩
 ·cases e
theorem ztk:Op2 K (rI0 λi j=>.int (i-j)) zmF:=λG H x y dx dy z Q gh hx hy e k=>by
 unfold zmF at e;split at e
 ·cases e;exact ⟨_,_,za3 hx,za3 hy,k _ G H (.refl gh) (zaz _)⟩
 ·cases e
theorem ztM:Op2 K (rI zwl λi j=>.int (i * j)) zil:=λG H x y dx dy z Q gh hx hy e k=>by
 unfold zil at e;split at e
 ·split at e
  ·rename_i h;cases e;rw[Bool.or_eq_true] at h;exact ⟨_,_,za3 hx,za3 hy,h.elim (λz=>.inl (zhP z)) (λz=>.inr (zhP z)),k _ G H (.refl gh) (zaz _)⟩
  ·cases e
 ·cases e
theorem zuk:Op2 K (rI CDiv λi j=>.int (i / j)) zqt:=λG H x y dx dy z Q gh hx hy e k=>by
 unfold zqt at e;split at e
 ·split at e
  ·rename_i h;cases e;exact ⟨_,_,za3 hx,za3 hy,h,k _ G H (.refl gh) (zaz _)⟩
  ·cases e
 ·cases e
theorem ztv:Op2 K (rI (λ_ j=>0<j) λi j=>.int (i % j)) zmz:=λG H x y dx dy z Q gh hx hy e k=>by
 unfold zmz at e;split at e
 ·split at e
  ·rename_i h;cases e;exact ⟨_,_,za3 hx,za3 hy,h,k _ G H (.refl gh) (zaz _)⟩
  ·cases e
 ·cases e
theorem zsZ:Op2 K (rI CPow λi j=>.int (i ^ j.toNat)) zp8:=λG H x y dx dy z Q gh hx hy e k=>by
 unfold zp8 at e;split at e
 ·split at e
  ·rename_i h;cases e;exact ⟨_,_,za3 hx,za3 hy,⟨h.1,xwl,by have:=h.2.2;lia⟩,k _ G H (.refl gh) (zaz _)⟩
  ·cases e
 ·cases e
theorem zgm{f:Int->Int->Bool}:Op2 K (rI0 λi j=>.bl (f i j)) (zmE f):=λG H x y dx dy z Q gh hx hy e k=>by
 unfold zmE at e;split at e
 ·cases e;exact ⟨_,_,za3 hx,za3 hy,k _ G H (.refl gh) (zdy _)⟩
 ·cases e
theorem zpf:zix zdz:=λx y n h=>by unfold zdz at h;split at h <;> cases h
theorem zpx:zix zmF:=λx y n h=>by unfold zmF at h;split at h <;> cases h
theorem zqw:zix zil:=λx y n h=>by unfold zil at h;split at h <;> first|cases h|(split at h <;> cases h)
theorem zqG:zix zqt:=λx y n h=>by unfold zqt at h;split at h <;> first|cases h|(split at h <;> cases h)
theorem zqx:zix zmz:=λx y n h=>by unfold zmz at h;split at h <;> first|cases h|(split at h <;> cases h)
theorem zqd:zix zp8:=λx y n h=>by unfold zp8 at h;split at h <;> first|cases h|(split at h <;> cases h)
theorem zff{f:Int->Int->Bool}:zix (zmE f):=λx y n h=>by unfold zmE at h;split at h <;> cases h
end
section
variable{X:Cx}{C:Cn}{a b:Expr}{fa fb:De}{pos:Pos}
theorem zeB(ha:JE X C a fa)(hb:JE X C b fb):JE X C (.BinOp a .Add b pos) (dOp zdz fa fb):=zk8 zvh zpw zpf ha hb
theorem zmm(ha:JE X C a fa)(hb:JE X C b fb):JE X C (.BinOp a .Sub b pos) (dOp zmF fa fb):=zk8 zuE ztk zpx ha hb
theorem zgn(ha:JE X C a fa)(hb:JE X C b fb):JE X C (.BinOp a .Mult b pos) (dOp zil fa fb):=zk8 zu8 ztM zqw ha hb
theorem zrE(ha:JE X C a fa)(hb:JE X C b fb):JE X C (.BinOp a .FloorDiv b pos) (dOp zqt fa fb):=zk8 zs6 zuk zqG ha hb
theorem zhC(ha:JE X C a fa)(hb:JE X C b fb):JE X C (.BinOp a .Mod b pos) (dOp zmz fa fb):=zk8 zvp ztv zqx ha hb
theorem zrq(ha:JE X C a fa)(hb:JE X C b fb):JE X C (.BinOp a .Pow b pos) (dOp zp8 fa fb):=zk8 zwi zsZ zqd ha hb
abbrev gLt:=zmE λi j=>decide (i<j)
abbrev gLe:=zmE λi j=>decide (i<=j)
abbrev gGt:=zmE λi j=>decide (j<i)
abbrev gGe:=zmE λi j=>decide (j<=i)
theorem zmT(hu:X.A.units+64<cLine)(ha:JE X C a fa)(hb:JE X C b fb):JE X C (.Compare a [.Eq] [b] pos) (dOp (gEq false) fa fb):=zvK (zrr hu) (znP false) (zlx false) ha hb (zhe _)
theorem zsK(ha:JE X C a fa)(hb:JE X C b fb):JT X C (.Compare a [.Lt] [b] pos) (dTB (dOp gLt fa fb)):=zh9 zuK zgm zff ha hb (zhe _)
theorem ztq(ha:JE X C a fa)(hb:JE X C b fb):JT X C (.Compare a [.Gt] [b] pos) (dTB (dOp gGt fa fb)):=zh9 zwR zgm zff ha hb (zhe _)
theorem zvW(ha:JE X C a fa)(hb:JE X C b fb):JT X C (.Compare a [.GtE] [b] pos) (dTB (dOp gGe fa fb)):=zh9 zwH zgm zff ha hb (zhe _)
theorem zkm(hu:X.A.units+64<cLine)(ha:JE X C a fa)(hb:JE X C b fb):JT X C (.Compare a [.Eq] [b] pos) (dTB (dOp (gEq false) fa fb)):=zh9 (zrr hu) (znP false) (zlx false) ha hb (zhe _)
theorem zmO(hu:X.A.units+64<cLine)(ha:JE X C a fa)(hb:JE X C b fb):JT X C (.Compare a [.NotEq] [b] pos) (dTB (dOp (gEq true) fa fb)):=zh9 (zrU hu) (znP true) (zlx true) ha hb (zhe _)
theorem zqI(hu:X.A.units+65<cLine)(ha:JE X C a fa)(hb:JE X C b fb)(hm:behindInMarks .NotIn b=false:=by rfl):JT X C (.Compare a [.NotIn] [b] pos) (dTB (dOp (gIn true) fa fb)):=zh9 (zoG hu) (zvG true) (ztY true) ha hb hm
def zvz(fa:De):De:=λZ=>(fa Z).bind λa=>match a.1 with
 |.int i=>.ok (.int (-i),a.2)
 |_=>.no
theorem zvR(ha:JE X C a fa):JE X C (.UnaryOp .USub a pos) (zvz fa):=PE.weak (zvI zrK ha) λY H Q ⟨G,w,Z,r,p⟩=>by
 refine zee (κ:=λG H w=>kE X.K C Y Q G H w) zbU r p λd Z1 v G1 H1 w1 r1 s1 q1 p1=>?_;cases d with
 |int i=>exact ⟨i,za3 q1,p1 _ G1 H1 w1 (.refl _ _ _) r1 (zaz _)⟩
 |_=>exact p1.elim
def zjv(g g':Dt->Dt->R Dt)(fa fb fc:De):De:=λZ=>(fa Z).bind λa=>(fb a.2).bind λb=>(g a.1 b.1).bind λz=>match z with
 |.bl true=>(fc b.2).bind λc=>(g' b.1 c.1).bind λz'=>.ok (z',c.2)
 |.bl false=>.ok (.bl false,b.2)
 |_=>.no
end
def FnR(K:W.Frag)(r:List V->Hp->VK->Prop)(g:List Dt->R Dt):Prop:=∀(G H:Hp)(vs:List V)(ds:List Dt)(z:Dt)(Q:VK),zcz G H->za2 K G ds vs->g ds=.ok z ->
 (∀ v G' H',zeF G H G' H'->Rep K G' z v->Q v H')->r vs H Q
def FnN(K:W.Frag)(r:List V->Hp->VK->Prop)(g:List Dt->R (List Dt)):Prop:=∀(G H:Hp)(vs:List V)(ds:List Dt)(z:List Dt)(Q:VK),zcz G H->za2 K G ds vs->g ds=.ok z ->
 (∀ p zs,H p=none->za2 K G z zs->Q (.ref p) (upd H p (.lst zs)))->r vs H Q
def ziO{α:Type}(g:List Dt->R α):Prop:=∀ x n,g x≠.er n
def dFn(g:List Dt->R Dt)(fa:DA):De:=λZ=>(fa Z).bind λa=>(g a.1).bind λz=>.ok (z,a.2)
def zf9(g:List Dt->R (List Dt))(fa:DA):DN:=λZ=>(fa Z).bind λa=>(g a.1).bind λz=>.ok (z,a.2)
section
variable{X:Cx}{C:Cn}{e:Expr}{es:List Expr}{fa:DA}{p pos:Pos}{x:Str}{id T:String}{r:List V->Hp->VK->Prop}
theorem zpb{g:List Dt->R Dt}{Y:L2.St}{H:Hp}{Q:VK}(h:FnR X.K r g)(he:ziO g)(t:tE X.K C (dFn g fa) Y H Q):tCB r (tAd X.K C fa) Y H Q:=by
 obtain ⟨G,w,Z,rr,p⟩:=t;refine zun (κ:=λG H w=>kE X.K C Y Q G H w) zbU rr p λds Z1 vs G1 H1 w1 r1 s1 q1 p1=>?_;cases e:g ds with
 |ok z =>
  simp only[e,R.bind_ok] at p1;exact h G1 H1 vs ds z Q r1.gh q1 e λv G' H' gr q=>p1 v G' H' w1 gr.step (r1.grow gr) q
 |er n=>exact absurd e (he _ _)
 |no=>simp only[e,R.bind_no] at p1;exact p1.elim
theorem zge{g:List Dt->R (List Dt)}{Y:L2.St}{H:Hp}{Q:VK}(h:FnN X.K r g)(he:ziO g)(t:tN X.K C (zf9 g fa) Y H Q):tCB r (tAd X.K C fa) Y H Q:=by
 obtain ⟨G,w,Z,rr,p⟩:=t;refine zun (κ:=λG H w=>kN X.K C Y Q G H w) zfI rr p λds Z1 vs G1 H1 w1 r1 s1 q1 p1=>?_;cases e:g ds with
 |ok z =>
  simp only[e,R.bind_ok] at p1;refine h G1 H1 vs ds z Q r1.gh q1 e λa zs ha q=>?_;have gr:zeF G1 H1 G1 (upd H1 a (.lst zs)):=.newH r1.gh ha;exact p1 a zs G1 _ w1 gr.step (r1.grow gr) ha za1 (r1.gh.free ha) (by
   cases z:w1 a with
   |none=>rfl
   |some k=>exact absurd ha (r1.wh a (by rw[z];simp))) q
 |er n=>exact absurd e (he _ _)
 |no=>simp only[e,R.bind_no] at p1;exact p1.elim
theorem zdW{g:List Dt->R Dt}(h:FnR X.K r g)(he:ziO g)(hc:zcd X (.builtin id) r)(hg:Gl X x)(hm:X.mg x=none)(hv:bootBuiltins x=some (.builtin id))(ha:JA X C (e::es) fa)(hn:x≠"__name__":=by decide)(hdb:(x == ("__debug__" : Str))=false:=by decide)
  (hs:starEach (e::es) X.env=(false,eval e X.env)::starEach es X.env:=by rfl) (hpl:(backTo pos (starEach es X.env)).any (·.1)=false:=by rfl):JE X C (.Call (.Name x p) (e::es) [] pos) (dFn g fa) :=
 PE.weak (zgb hc hg hm hv ha hn hdb hs hpl) λY H Q t=>zpb h he t
theorem zoP{g:List Dt->R Dt}(h:FnR X.K r g)(he:ziO g)(hc:zcd X (.type T) r)(hg:Gl X x)(hm:X.mg x=none)(hv:bootBuiltins x=some (.type T))(ha:JA X C (e::es) fa)(hn:x≠"__name__":=by decide)(hdb:(x == ("__debug__" : Str))=false:=by decide)
  (hs:starEach (e::es) X.env=(false,eval e X.env)::starEach es X.env:=by rfl) (hpl:(backTo pos (starEach es X.env)).any (·.1)=false:=by rfl):JE X C (.Call (.Name x p) (e::es) [] pos) (dFn g fa) :=
 PE.weak (zgN hc hg hm hv ha hn hdb hs hpl) λY H Q t=>zpb h he t
theorem zij{g:List Dt->R (List Dt)}(h:FnN X.K r g)(he:ziO g)(hc:zcd X (.builtin id) r)(hg:Gl X x)(hm:X.mg x=none)(hv:bootBuiltins x=some (.builtin id))(ha:JA X C (e::es) fa)(hn:x≠"__name__":=by decide)(hdb:(x == ("__debug__" : Str))=false:=by decide)
  (hs:starEach (e::es) X.env=(false,eval e X.env)::starEach es X.env:=by rfl) (hpl:(backTo pos (starEach es X.env)).any (·.1)=false:=by rfl):JN X C (.Call (.Name x p) (e::es) [] pos) (zf9 g fa) :=
 PE.weak (zgb hc hg hm hv ha hn hdb hs hpl) λY H Q t=>zge h he t
theorem zod{g:List Dt->R (List Dt)}(h:FnN X.K r g)(he:ziO g)(hc:zcd X (.type T) r)(hg:Gl X x)(hm:X.mg x=none)(hv:bootBuiltins x=some (.type T))(ha:JA X C (e::es) fa)(hn:x≠"__name__":=by decide)(hdb:(x == ("__debug__" : Str))=false:=by decide)
  (hs:starEach (e::es) X.env=(false,eval e X.env)::starEach es X.env:=by rfl) (hpl:(backTo pos (starEach es X.env)).any (·.1)=false:=by rfl):JN X C (.Call (.Name x p) (e::es) [] pos) (zf9 g fa) :=
 PE.weak (zgN hc hg hm hv ha hn hdb hs hpl) λY H Q t=>zge h he t
end
def zdv:List Dt->R Dt
 |[.lst l]=>.ok (.int l.length)
 |[.tup l]=>.ok (.int l.length)
 |[.scr l]=>.ok (.int l.length)
 |[.str x]=>if x.length<=16777216 then .ok (.int x.length) else .no
 |_=>.no
def rLen(K:W.Frag):List V->Hp->VK->Prop:=λxs H Q=>(∃ p ys,xs=[.ref p]/\(SqL K H p ys\/SqT K H p ys)/\Q (.int ys.length) H)\/∃ z,xs=[.str z]/\z.length<=sizeLine/\Q (.int z.length) H
theorem zdu{K:W.Frag}{G:Hp}{d:Dt}{vs:List V}(h:za2 K G [d] vs):∃ v,vs=[v]/\Rep K G d v:=by obtain ⟨v,r,rfl,h1,h2⟩:=h.cons_inv;rw[h2.nil_inv];exact ⟨v,rfl,h1⟩
theorem zu2{K:W.Frag}{G:Hp}{d e:Dt}{vs:List V}(h:za2 K G [d,e] vs):∃ v u,vs=[v,u]/\Rep K G d v/\Rep K G e u:=by obtain ⟨v,r,rfl,h1,h2⟩:=h.cons_inv;obtain ⟨u,rfl,h3⟩:=zdu h2;exact ⟨v,u,rfl,h1,h3⟩
theorem zkK{K:W.Frag}{G:Hp}{l:List Int}{v:V}(h:Rep K G (.scr l) v):∃ a,v=.ref a/\SqL K G a (l.map V.int):=by unfold Rep at h;exact h
section
variable{K:W.Frag}
theorem zvM:FnR K (rLen K) zdv:=λG H vs ds z Q gh hr e k=>by
 unfold zdv at e;split at e
 ·obtain ⟨v,rfl,h1⟩:=zdu hr;obtain ⟨a,us,rfl,h2,h3⟩:=zaK h1;cases e;exact .inl ⟨a,us,rfl,.inl (SqL.of (gh _ _ h2)),by rw[<- h3.length];exact k _ G H (.refl gh) (zaz _)⟩
 ·obtain ⟨v,rfl,h1⟩:=zdu hr;obtain ⟨a,us,rfl,h2,h3⟩:=zb4 h1;cases e;exact .inl ⟨a,us,rfl,.inr (zaE gh h2),by rw[<- h3.length];exact k _ G H (.refl gh) (zaz _)⟩
 ·obtain ⟨v,rfl,h1⟩:=zdu hr;obtain ⟨a,rfl,h2⟩:=zkK h1;cases e;exact .inl ⟨a,_,rfl,.inl (gh.seq h2),by rw[List.length_map];exact k _ G H (.refl gh) (zaz _)⟩
 ·split at e
  ·rename_i hx;obtain ⟨v,rfl,h1⟩:=zdu hr;cases e;exact .inr ⟨_,by rw[zf3 h1],by rw[show sizeLine=16777216 from by decide];exact hx,k _ G H (.refl gh) (zaz _)⟩
  ·cases e
 ·cases e
theorem zwj:ziO zdv:=λx n h=>by unfold zdv at h;split at h <;> first|cases h|(split at h <;> cases h)
def zlp:List Dt->R (List Dt)
 |[.lst l]=>.ok l
 |[.tup l]=>.ok l
 |_=>.no
theorem zt1:FnN K (λxs H Q=>∃ p ys,xs=[.ref p]/\(SqL K H p ys\/SqT K H p ys)/\∀ l,H l=none->Q (.ref l) (upd H l (.lst ys))) zlp:=λG H vs ds z Q gh hr e k=>by
 unfold zlp at e;split at e
 ·obtain ⟨v,rfl,h1⟩:=zdu hr;obtain ⟨a,us,rfl,h2,h3⟩:=zaK h1;cases e;exact ⟨a,us,rfl,.inl (SqL.of (gh _ _ h2)),λl hl=>k l us hl h3⟩
 ·obtain ⟨v,rfl,h1⟩:=zdu hr;obtain ⟨a,us,rfl,h2,h3⟩:=zb4 h1;cases e;exact ⟨a,us,rfl,.inr (zaE gh h2),λl hl=>k l us hl h3⟩
 ·cases e
theorem ztH:ziO zlp:=λx n h=>by unfold zlp at h;split at h <;> cases h
def zfG:List Dt->R Dt
 |[.lst l]=>.ok (.tup l)
 |[.tup l]=>.ok (.tup l)
 |_=>.no
theorem zpN:FnR K (λxs H Q=>∃ p ys,xs=[.ref p]/\((SqL K H p ys/\∀ l,H l=none->Q (.ref l) (upd H l (.tup ys)))\/(SqT K H p ys/\Q (.ref p) H))) zfG:=λG H vs ds z Q gh hr e k=>by
 unfold zfG at e;split at e
 ·obtain ⟨v,rfl,h1⟩:=zdu hr;obtain ⟨a,us,rfl,h2,h3⟩:=zaK h1;cases e;refine ⟨a,us,rfl,.inl ⟨SqL.of (gh _ _ h2),λl hl=>?_⟩⟩;have gr:zeF G H (upd G l (.tup us)) (upd H l (.tup us)):=.new gh hl;exact k _ _ _ gr (by unfold Rep;exact ⟨l,us,rfl,zhT.of za1,h3.same gr.g⟩)
 ·obtain ⟨v,rfl,h1⟩:=zdu hr;obtain ⟨a,us,rfl,h2,h3⟩:=zcU h1;cases e;exact ⟨a,us,rfl,.inr ⟨zaE gh h2.sq,k _ G H (.refl gh) (by unfold Rep;exact ⟨a,us,rfl,h2,h3⟩)⟩⟩
 ·cases e
theorem zpL:ziO zfG:=λx n h=>by unfold zfG at h;split at h <;> cases h
def ziL:List Dt->R Dt
 |[.int i,.int j]=>.ok (.int (if j > i then j else i))
 |_=>.no
def zi5:List Dt->R Dt
 |[.int i,.int j]=>.ok (.int (if j<i then j else i))
 |_=>.no
theorem zul:FnR K (λxs H Q=>∃ i j,xs=[.int i,.int j]/\Q (.int (if j > i then j else i)) H) ziL:=λG H vs ds z Q gh hr e k=>by
 unfold ziL at e;split at e
 ·obtain ⟨v,u,rfl,h1,h2⟩:=zu2 hr;cases e;exact ⟨_,_,by rw[za3 h1,za3 h2],k _ G H (.refl gh) (zaz _)⟩
 ·cases e
theorem ztW:FnR K (λxs H Q=>∃ i j,xs=[.int i,.int j]/\Q (.int (if j<i then j else i)) H) zi5:=λG H vs ds z Q gh hr e k=>by
 unfold zi5 at e;split at e
 ·obtain ⟨v,u,rfl,h1,h2⟩:=zu2 hr;cases e;exact ⟨_,_,by rw[za3 h1,za3 h2],k _ G H (.refl gh) (zaz _)⟩
 ·cases e
theorem zsB:ziO ziL:=λx n h=>by unfold ziL at h;split at h <;> cases h
theorem ztd:ziO zi5:=λx n h=>by unfold zi5 at h;split at h <;> cases h
end
section
variable{X:Cx}
theorem zdS{α:Type}{f:α->V}{g:α->Value->Prop}(h:∀ a u,zby (f a) u->g a u):∀{as:List α}{us:List Value}{i:Nat}{u:Value},zaR (as.map f) us->us[i]? = some u->∃ a,as[i]? = some a/\g a u
 |[],_,_,_,r,e=>by cases r;simp at e
 |a::as,_,0,u,.cons r t,e=>by simp at e;subst e;exact ⟨a,rfl,h a _ r⟩
 |a::as,_,i+1,u,.cons r t,e=>by obtain ⟨b,h1,h2⟩:=zdS h (i:=i) t (by simpa using e);exact ⟨b,by simpa using h1,h2⟩
theorem ziH:∀(bs:List Bool),((List.range bs.length).all λi=>(bs[i]?).getD true)=bs.all id:=λbs=>by
 rw[Bool.eq_iff_iff,List.all_eq_true,List.all_eq_true];constructor
 ·intro h b hb;obtain ⟨i,hi,rfl⟩:=List.mem_iff_getElem.mp hb;have:=h i (List.mem_range.mpr hi);simpa [hi] using this
 ·intro h i hi;have hi':=List.mem_range.mp hi;simpa [hi'] using h bs[i] (List.getElem_mem hi')
theorem zon(hc:X.calm=true):zcd X (.builtin "all") (λxs H Q=>∃(p:Addr)(bs:List Bool),xs=[.ref p]/\SqL X.K H p (bs.map V.bl)/\Q (.bl (bs.all id)) H):=by
 intro pS s Y H xs us Q I r h;obtain ⟨p,bs,rfl,hq,q⟩:=h;obtain ⟨u,rfl,ru⟩:=zcG r;cases ru;obtain ⟨its,rv,pl,hz⟩:=I.list hq;have hlt:p≠s.heap.objs.size:=by obtain ⟨o,n,e,_⟩:=id pl;exact waM (wai e)
 have hlen:its.length=bs.length:=by rw[<- rv.length];simp
 refine call_all_walk (wpAny_pyIter_list pl.isList ?_);refine ⟨s.heap.objs.size,_,_,_,_,_,λi=>(bs[i]?).getD true,rfl,Walks.list (A:=X.A.in1) (I.ok.hd hc) s.heap.objs.size p hlt its.toArray,⟨⟨_,waj _ rfl,rfl,rfl⟩,?_⟩,?_,λh' tk hk=>?_⟩
 ·obtain ⟨o,ho,hc',n,hd⟩:=pl.isList;exact ⟨o,waa _ ho,hc',n,hd⟩
 ·intro i v s' Q' E' hP hQ;obtain ⟨b,h1,h2⟩:=zdS (f:=V.bl) (g:=λb u=>u=Value.bool b) (λa u z=>z) rv (i:=i) (u:=v) (by simpa using hP);subst h2;simp only[h1,Option.getD_some] at hQ;exact wpAny_truthy_bool hQ
 ·refine ⟨.bl (bs.all id),H,I.kept (t':=tk) λb o e=>hk b o (λz=>?_) (waa _ e),?_,q⟩
  ·simp at z;exact absurd (z ▸ wai e) (waL _)
  ·show Value.bool _=_;rw[List.size_toArray,hlen,ziH]
def zeO:List Dt->Option (List Bool)
 |[]=>some []
 |.bl b::r=>(zeO r).map (b::·)
 |_=>none
theorem zh7{K:W.Frag}{G:Hp}:∀{ds:List Dt}{vs:List V}{bs:List Bool},za2 K G ds vs->zeO ds=some bs->vs=bs.map V.bl
 |[],_,_,h,e=>by rw[h.nil_inv];simp[zeO] at e;subst e;rfl
 |.bl b::r,_,bs,h,e=>by obtain ⟨v,t,rfl,h1,h2⟩:=h.cons_inv;simp only[zeO,Option.map_eq_some_iff] at e;obtain ⟨bs',e1,rfl⟩:=e;rw[zds h1,zh7 h2 e1];rfl
 |.non::_,_,_,_,e=>by simp[zeO] at e
 |.int _::_,_,_,_,e=>by simp[zeO] at e
 |.str _::_,_,_,_,e=>by simp[zeO] at e
 |.tup _::_,_,_,_,e=>by simp[zeO] at e
 |.lst _::_,_,_,_,e=>by simp[zeO] at e
 |.dct _::_,_,_,_,e=>by simp[zeO] at e
 |.scr _::_,_,_,_,e=>by simp[zeO] at e
def zmw:List Dt->R Dt
 |[.lst l]=>match zeO l with
  |some bs=>.ok (.bl (bs.all id))
  |none=>.no
 |_=>.no
theorem zuT{K:W.Frag}:FnR K (λxs H Q=>∃(p:Addr)(bs:List Bool),xs=[.ref p]/\SqL K H p (bs.map V.bl)/\Q (.bl (bs.all id)) H) zmw:=λG H vs ds z Q gh hr e k=>by
 unfold zmw at e;split at e
 ·split at e
  ·rename_i bs eb;obtain ⟨v,rfl,h1⟩:=zdu hr;obtain ⟨a,us,rfl,h2,h3⟩:=zaK h1;cases e;rw[zh7 h3 eb] at h2;exact ⟨a,bs,rfl,SqL.of (gh _ _ h2),k _ G H (.refl gh) (zdy _)⟩
  ·cases e
 ·cases e
theorem zuB:ziO zmw:=λx n h=>by unfold zmw at h;split at h <;> first|cases h|(split at h <;> cases h)
def zh1:List Dt->Option (List Int)
 |[]=>some []
 |.int b::r=>(zh1 r).map (b::·)
 |_=>none
theorem ze4{K:W.Frag}{G:Hp}:∀{ds:List Dt}{vs:List V}{bs:List Int},za2 K G ds vs->zh1 ds=some bs->vs=bs.map V.int
 |[],_,_,h,e=>by rw[h.nil_inv];simp[zh1] at e;subst e;rfl
 |.int b::r,_,bs,h,e=>by obtain ⟨v,t,rfl,h1,h2⟩:=h.cons_inv;simp only[zh1,Option.map_eq_some_iff] at e;obtain ⟨bs',e1,rfl⟩:=e;rw[za3 h1,ze4 h2 e1];rfl
 |.non::_,_,_,_,e=>by simp[zh1] at e
 |.bl _::_,_,_,_,e=>by simp[zh1] at e
 |.str _::_,_,_,_,e=>by simp[zh1] at e
 |.tup _::_,_,_,_,e=>by simp[zh1] at e
 |.lst _::_,_,_,_,e=>by simp[zh1] at e
 |.dct _::_,_,_,_,e=>by simp[zh1] at e
 |.scr _::_,_,_,_,e=>by simp[zh1] at e
theorem zrZ(ns:List Int):zh1 (ns.map .int)=some ns:=by
 induction ns with
 |nil=>rfl
 |cons n r ih=>simp[zh1,ih]
def zlI:List Int->Int
 |[]=>0
 |[a]=>a
 |a::b::r=>let m:=zlI (b::r);if a<m then m else a
def zlT:List Int->Int
 |[]=>0
 |[a]=>a
 |a::b::r=>let m:=zlT (b::r);if m<a then m else a
theorem zgj:∀(l:List Int),l≠[]->zlI l∈l/\∀ a∈l,a<=zlI l
 |[],h=>absurd rfl h
 |[a],_=>by simp[zlI]
 |a::b::r,_=>by
  obtain ⟨h1,h2⟩:=zgj (b::r) xws;simp only[zlI];split
  ·rename_i h;refine ⟨wah _ h1,λx hx=>?_⟩;rcases wap.mp hx with rfl|hx
   ·lia
   ·exact h2 x hx
  ·rename_i h;refine ⟨wau,λx hx=>?_⟩;rcases wap.mp hx with rfl|hx
   ·lia
   ·have:=h2 x hx;lia
theorem zg0:∀(l:List Int),l≠[]->zlT l∈l/\∀ a∈l,zlT l<=a
 |[],h=>absurd rfl h
 |[a],_=>by simp[zlT]
 |a::b::r,_=>by
  obtain ⟨h1,h2⟩:=zg0 (b::r) xws;simp only[zlT];split
  ·rename_i h;refine ⟨wah _ h1,λx hx=>?_⟩;rcases wap.mp hx with rfl|hx
   ·lia
   ·exact h2 x hx
  ·rename_i h;refine ⟨wau,λx hx=>?_⟩;rcases wap.mp hx with rfl|hx
   ·lia
   ·have:=h2 x hx;lia
theorem zr9{l:List Int}{m:Int}(h1:m∈l)(h2:∀ a∈l,a<=m):m=zlI l:=by obtain ⟨h3,h4⟩:=zgj l (by intro z;subst z;cases h1);have:=h2 _ h3;have:=h4 _ h1;lia
theorem zr1{l:List Int}{m:Int}(h1:m∈l)(h2:∀ a∈l,m<=a):m=zlT l:=by obtain ⟨h3,h4⟩:=zg0 l (by intro z;subst z;cases h1);have:=h2 _ h3;have:=h4 _ h1;lia
end
section
variable{X:Cx}
theorem zn9(hc:X.calm=true):zcd X (.builtin "max") (λxs H Q=>∃(p:Addr)(ns:List Int),xs=[.ref p]/\SqL X.K H p (ns.map V.int)/\ns≠[]/\Q (.int (zlI ns)) H):=by
 intro pS s Y H xs us Q I r h;obtain ⟨p,ns,rfl,hq,hne,q⟩:=h;obtain ⟨u,rfl,ru⟩:=zcG r;cases ru;obtain ⟨its,rv,pl,hz⟩:=I.list hq;have hlt:p≠s.heap.objs.size:=by obtain ⟨o,n,e,_⟩:=id pl;exact waM (wai e)
 have hlen:its.length=ns.length:=by rw[<- rv.length];simp
 have hpos:0<ns.length:=by cases ns with|nil=>exact absurd rfl hne|cons a r=>simp
 refine call_max_walk (wpAny_pyIter_list pl.isList ?_);refine ⟨s.heap.objs.size,_,_,_,_,_,_,rfl,Walks.list (A:=X.A.in1) (I.ok.hd hc) s.heap.objs.size p hlt its.toArray,⟨⟨_,waj _ rfl,rfl,rfl⟩,?_⟩,?_,(by rw[List.size_toArray,hlen];exact hpos),CmpOf.ints_gt (λi=>(ns[i]?).getD 0) (λi v hP=>?_),λv h' tk hP hk=>?_⟩
 ·obtain ⟨o,ho,hc',n,hd⟩:=pl.isList;exact ⟨o,waa _ ho,hc',n,hd⟩
 ·intro b hb;rw[Heap.size_push];obtain ⟨o,n,e,_⟩:=id pl;rcases wap.mp hb with rfl|hb
  ·exact Nat.lt_succ_self _
  ·simp at hb;subst hb;exact Nat.lt_succ_of_lt (wai e)
 ·obtain ⟨a,h1,h2⟩:=zdS (f:=V.int) (g:=λa u=>∃ t,u=Value.int a t) (λa u z=>z) rv (i:=i) (u:=v) (by simpa using hP);simp only[h1,Option.getD_some];exact h2
 ·have hP:its.toArray[argBest (λi j=>decide (((ns[i]?).getD 0) > ((ns[j]?).getD 0))) (its.toArray.size-1)]? = some v:=hP;obtain ⟨a,h1,t,rfl⟩:=zdS (f:=V.int) (g:=λa u=>∃ t,u=Value.int a t) (λa u z=>z) rv (u:=v) (by simpa using hP);obtain ⟨k1,k2⟩:=argBest_gt (λi=>(ns[i]?).getD 0) (its.toArray.size-1);have ea:a=zlI ns:=by refine zr9 (waH h1) λb hb=>?_;obtain ⟨j,hj,rfl⟩:=List.mem_iff_getElem.mp hb;have:=k2 j (by rw[List.size_toArray,hlen];lia);rw[show its.toArray.size-1=its.length-1 from by rw[List.size_toArray]] at this;simp only[h1,wac hj,Option.getD_some] at this;exact this
  subst ea;refine ⟨.int (zlI ns),H,I.kept (t':=tk) λb o e=>hk b o (λz=>?_) (waa _ e),⟨t,rfl⟩,q⟩;simp at z;exact absurd (z ▸ wai e) (waL _)
theorem zoz(hc:X.calm=true):zcd X (.builtin "min") (λxs H Q=>∃(p:Addr)(ns:List Int),xs=[.ref p]/\SqL X.K H p (ns.map V.int)/\ns≠[]/\Q (.int (zlT ns)) H):=by
 intro pS s Y H xs us Q I r h;obtain ⟨p,ns,rfl,hq,hne,q⟩:=h;obtain ⟨u,rfl,ru⟩:=zcG r;cases ru;obtain ⟨its,rv,pl,hz⟩:=I.list hq;have hlt:p≠s.heap.objs.size:=by obtain ⟨o,n,e,_⟩:=id pl;exact waM (wai e)
 have hlen:its.length=ns.length:=by rw[<- rv.length];simp
 have hpos:0<ns.length:=by cases ns with|nil=>exact absurd rfl hne|cons a r=>simp
 refine call_min_walk (wpAny_pyIter_list pl.isList ?_);refine ⟨s.heap.objs.size,_,_,_,_,_,_,rfl,Walks.list (A:=X.A.in1) (I.ok.hd hc) s.heap.objs.size p hlt its.toArray,⟨⟨_,waj _ rfl,rfl,rfl⟩,?_⟩,?_,(by rw[List.size_toArray,hlen];exact hpos),CmpOf.ints_lt (λi=>(ns[i]?).getD 0) (λi v hP=>?_),λv h' tk hP hk=>?_⟩
 ·obtain ⟨o,ho,hc',n,hd⟩:=pl.isList;exact ⟨o,waa _ ho,hc',n,hd⟩
 ·intro b hb;rw[Heap.size_push];obtain ⟨o,n,e,_⟩:=id pl;rcases wap.mp hb with rfl|hb
  ·exact Nat.lt_succ_self _
  ·simp at hb;subst hb;exact Nat.lt_succ_of_lt (wai e)
 ·obtain ⟨a,h1,h2⟩:=zdS (f:=V.int) (g:=λa u=>∃ t,u=Value.int a t) (λa u z=>z) rv (i:=i) (u:=v) (by simpa using hP);simp only[h1,Option.getD_some];exact h2
 ·have hP:its.toArray[argBest (λi j=>decide (((ns[i]?).getD 0)<((ns[j]?).getD 0))) (its.toArray.size-1)]? = some v:=hP;obtain ⟨a,h1,t,rfl⟩:=zdS (f:=V.int) (g:=λa u=>∃ t,u=Value.int a t) (λa u z=>z) rv (u:=v) (by simpa using hP);obtain ⟨k1,k2⟩:=argBest_lt (λi=>(ns[i]?).getD 0) (its.toArray.size-1);have ea:a=zlT ns:=by refine zr1 (waH h1) λb hb=>?_;obtain ⟨j,hj,rfl⟩:=List.mem_iff_getElem.mp hb;have:=k2 j (by rw[List.size_toArray,hlen];lia);rw[show its.toArray.size-1=its.length-1 from by rw[List.size_toArray]] at this;simp only[h1,wac hj,Option.getD_some] at this;exact this
  subst ea;refine ⟨.int (zlT ns),H,I.kept (t':=tk) λb o e=>hk b o (λz=>?_) (waa _ e),⟨t,rfl⟩,q⟩;simp at z;exact absurd (z ▸ wai e) (waL _)
def zkk:List Dt->R Dt
 |[.lst l]=>match zh1 l with
  |some (a::r)=>.ok (.int (zlI (a::r)))
  |_=>.no
 |_=>.no
def zj8:List Dt->R Dt
 |[.lst l]=>match zh1 l with
  |some (a::r)=>.ok (.int (zlT (a::r)))
  |_=>.no
 |_=>.no
theorem zto{K:W.Frag}:FnR K (λxs H Q=>∃(p:Addr)(ns:List Int),xs=[.ref p]/\SqL K H p (ns.map V.int)/\ns≠[]/\Q (.int (zlI ns)) H) zkk:=λG H vs ds z Q gh hr e k=>by
 unfold zkk at e;split at e
 ·split at e
  ·rename_i a r eb;obtain ⟨v,rfl,h1⟩:=zdu hr;obtain ⟨ad,us,rfl,h2,h3⟩:=zaK h1;cases e;rw[ze4 h3 eb] at h2;exact ⟨ad,_,rfl,SqL.of (gh _ _ h2),xws,k _ G H (.refl gh) (zaz _)⟩
  ·cases e
 ·cases e
theorem zsq{K:W.Frag}:FnR K (λxs H Q=>∃(p:Addr)(ns:List Int),xs=[.ref p]/\SqL K H p (ns.map V.int)/\ns≠[]/\Q (.int (zlT ns)) H) zj8:=λG H vs ds z Q gh hr e k=>by
 unfold zj8 at e;split at e
 ·split at e
  ·rename_i a r eb;obtain ⟨v,rfl,h1⟩:=zdu hr;obtain ⟨ad,us,rfl,h2,h3⟩:=zaK h1;cases e;rw[ze4 h3 eb] at h2;exact ⟨ad,_,rfl,SqL.of (gh _ _ h2),xws,k _ G H (.refl gh) (zaz _)⟩
  ·cases e
 ·cases e
theorem zsp:ziO zkk:=λx n h=>by unfold zkk at h;split at h <;> first|cases h|(split at h <;> cases h)
theorem zt8:ziO zj8:=λx n h=>by unfold zj8 at h;split at h <;> first|cases h|(split at h <;> cases h)
end
def tyD:Dt->String
 |.non=>"NoneType"
 |.bl _=>"bool"
 |.int _=>"int"
 |.str _=>"str"
 |.tup _=>"tuple"
 |.lst _=>"list"
 |.dct _=>"dict"
 |.scr _=>"list"
def zwk(t T:String):Bool:=(t == T) || (t == "bool" && T == "int")
section
variable{X:Cx}{pS:List (Addr×Obj)}{Y:L2.St}{H:Hp}{s:Shared}
theorem zv4(I:L2.Inv X pS Y H s):∀{d:Dt}{v:V}{u:Value},Rep X.K H d v->zby v u->∃ P:Heap->Prop,W.KitX X.K u (.type (tyD d)) P/\P s.heap/\u≠.builtin "__main__.__loader__#opaque"
 |.non,v,u,h,r=>by rw[zgO h] at r;cases r;exact ⟨_,W.kitx_none,True.intro,xws⟩
 |.bl b,v,u,h,r=>by rw[zds h] at r;cases r;exact ⟨_,W.kitx_bool,True.intro,xws⟩
 |.int b,v,u,h,r=>by rw[za3 h] at r;obtain ⟨t,rfl⟩:=r;exact ⟨_,W.kitx_int,True.intro,xws⟩
 |.str b,v,u,h,r=>by rw[zf3 h] at r;obtain ⟨t,rfl⟩:=r;exact ⟨_,W.kitx_str,True.intro,xws⟩
 |.tup l,v,u,h,r=>by obtain ⟨a,vs,rfl,h1,h2⟩:=zb4 h;cases r;obtain ⟨its,rv,⟨o,e,c,k,dd⟩,_⟩:=I.tuple h1;exact ⟨_,W.kitx_tuple,⟨o,e,c⟩,xws⟩
 |.lst l,v,u,h,r=>by obtain ⟨a,vs,rfl,h1,h2⟩:=zaK h;cases r;obtain ⟨its,rv,⟨o,k,e,c,_,dd⟩,_⟩:=I.list (SqL.of h1);exact ⟨_,W.kitx_list,⟨o,e,c⟩,xws⟩
 |.dct _,v,u,h,r=>by
  unfold Rep at h;obtain ⟨a,rfl,h1⟩:=h;cases r;obtain ⟨_,_,vs,_,o,es,ep,e1,e2,_⟩:=(show zcE X.prog X.w H s.heap a (.dK _) from I.hok a _ h1)
  exact ⟨_,W.kitx_dict,⟨o,e1,e2.1⟩,xws⟩
 |.scr l,v,u,h,r=>by obtain ⟨a,rfl,h1⟩:=zkK h;cases r;obtain ⟨its,rv,⟨o,k,e,c,_,dd⟩,_⟩:=I.list h1;exact ⟨_,W.kitx_list,⟨o,e,c⟩,xws⟩
end
def zoA(T:String):Prop:=∀(K:W.Frag)(t:String),t∈["NoneType","bool","int","str","tuple","list","dict"]->W.kitOne K (.type t) (.type T)=some (zwk t T)
theorem zt3(d:Dt):tyD d∈["NoneType","bool","int","str","tuple","list","dict"]:=by cases d <;> simp[tyD]
theorem ztF:zoA "int":=λK t h=>by simp only[wap,wak,or_false] at h;rcases h with rfl|rfl|rfl|rfl|rfl|rfl|rfl <;> rfl
theorem zqi:zoA "bool":=λK t h=>by simp only[wap,wak,or_false] at h;rcases h with rfl|rfl|rfl|rfl|rfl|rfl|rfl <;> rfl
theorem ziZ:zoA "tuple":=λK t h=>by simp only[wap,wak,or_false] at h;rcases h with rfl|rfl|rfl|rfl|rfl|rfl|rfl <;> rfl
def zsh(T:String)(fa:De):De:=λZ=>(fa Z).bind λa=>.ok (.bl (zwk (tyD a.1) T),a.2)
section
variable{X:Cx}{C:Cn}{e:Expr}{fa:De}{p p2 pos:Pos}
theorem zqV{T:String}(ok:zoA T):zcd X (.builtin "isinstance") (λxs H Q=>∃ d v,xs=[v,.ty T]/\Rep X.K H d v/\Q (.bl (zwk (tyD d) T)) H):=by intro pS s Y H xs us Q I r h;obtain ⟨d,v,rfl,h1,q⟩:=h;obtain ⟨u,w',rfl,r1,r2⟩:=zpP r;cases r2;obtain ⟨P,Zq,hp,hx⟩:=zv4 I h1 r1;exact W.kia_one Zq I.kIn hp (ok X.K (tyD d) (zt3 d)) hx λtk=>⟨.bl _,H,I.tok tk,rfl,q⟩
theorem zlH{T:String}{x2:Str}(ok:zoA T)(hg:Gl X "isinstance")(hm:X.mg "isinstance"=none)(hv:bootBuiltins "isinstance"=some (.builtin "isinstance"))(hg2:Gl X x2)(hm2:X.mg x2=none)(hv2:bootBuiltins x2=some (.type T))(ha:JE X C e fa)
  (hn:("isinstance" : Str)≠"__name__":=by decide) (hdb:(("isinstance" : Str) == ("__debug__" : Str))=false:=by decide) (hn2:x2≠"__name__":=by decide) (hdb2:(x2 == ("__debug__" : Str))=false:=by decide)
  (hs:starEach [e,.Name x2 p2] X.env=(false,eval e X.env)::starEach [.Name x2 p2] X.env:=by rfl) (hs2:starEach [.Name x2 p2] X.env=(false,eval (.Name x2 p2) X.env)::starEach [] X.env:=by rfl) (hpl:(backTo pos (starEach [.Name x2 p2] X.env)).any (·.1)=false:=by rfl) :
  JE X C (.Call (.Name "isinstance" p) [e,.Name x2 p2] [] pos) (zsh T fa) :=
 PE.weak (zgb (zqV ok) hg hm hv (zbE ha (zbE (ztj (v:=.ty T) hg2 hm2 hv2 rfl hn2 hdb2) zdH hs2) hs) hn hdb hs hpl) λY H Q ⟨G,w,Z,r,p⟩=>by refine zee (κ:=λG H w=>kE X.K C Y Q G H w) zbU r p λd Z1 v G1 H1 w1 r1 s1 q1 p1=>?_;exact ⟨d,v,rfl,q1.same r1.gh,p1 _ G1 H1 w1 (.refl _ _ _) r1 (zdy _)⟩
def gIx:Dt->Dt->R Dt
 |.lst l,.int i=>match atI l i with
  |some d=>.ok d
  |none=>.no
 |.tup l,.int i=>match atI l i with
  |some d=>.ok d
  |none=>.no
 |.scr l,.int i=>match atI l i with
  |some d=>.ok (.int d)
  |none=>.no
 |_,_=>.no
theorem zti{α β:Type}{f:α->β}{l:List α}{i:Int}{d:α}(ed:atI l i=some d):atI (l.map f) i=some (f d):=by
 unfold atI at ed ⊢;rw[List.length_map];cases q:ixN l.length i with
 |none=>rw[q] at ed;cases ed
 |some j =>
  rw[q] at ed;simp only[Option.bind_some] at ed ⊢;rw[List.getElem?_map,ed];rfl
theorem zvx{K:W.Frag}:Op2 K (λx y H Q=>rIxL K x y H Q\/rIxT K x y H Q) gIx:=λG H x y dx dy z Q gh hx hy e k=>by
 unfold gIx at e;split at e
 ·split at e
  ·rename_i d ed;cases e;obtain ⟨a,vs,rfl,h1,h2⟩:=zaK hx;obtain ⟨v,e1,e2⟩:=zis h2 ed;exact .inl ⟨a,vs,_,v,rfl,za3 hy,SqL.of (gh _ _ h1),e1,k v G H (.refl gh) e2⟩
  ·cases e
 ·split at e
  ·rename_i d ed;cases e;obtain ⟨a,vs,rfl,h1,h2⟩:=zb4 hx;obtain ⟨v,e1,e2⟩:=zis h2 ed;exact .inr ⟨a,vs,_,v,rfl,za3 hy,zaE gh h1,e1,k v G H (.refl gh) e2⟩
  ·cases e
 ·split at e
  ·rename_i d ed;cases e;obtain ⟨a,rfl,h1⟩:=zkK hx;exact .inl ⟨a,_,_,.int d,rfl,za3 hy,gh.seq h1,zti ed,k _ G H (.refl gh) (zaz _)⟩
  ·cases e
 ·cases e
theorem ztz:zix gIx:=λx y n h=>by unfold gIx at h;split at h <;> first|cases h|(split at h <;> cases h)
theorem zc4{a b:Expr}{fa fb:De}(ha:JE X C a fa)(hb:JE X C b fb)(hs:ziK b:=by exact λ_ _=>rfl):JE X C (.Subscript a b pos) (dOp gIx fa fb) :=
 PE.weak (zsR (zlh.or zwf) ha hb hs) λY H Q h=>zib zvx ztz h
end
theorem Rel.mutate{K:W.Frag}{C:Cn}{Y:L2.St}{G H:Hp}{w:Wn}{Z:Ev}{i:Nat}{ds ds':List Dt}{a:Addr}{vs':List V}(r:Rel K C G w Z Y H)(hi:Z[i]? = some (some (.own ds)))(hv:Y[i]? = some (some (.ref a)))(hw:w a=some i)(h':za2 K G ds' vs') :
  Rel K C G w (Z.set i (some (.own ds'))) Y (upd H a (.lst vs'))/\zbj G H w G (upd H a (.lst vs')) w:=by
 have ga:G a=none:=r.wg a (by rw[hw];simp);have st:zbj G H w G (upd H a (.lst vs')) w:=by
  refine ⟨.refl _,λb o e=>.inl (by rw[e];simp),λb o e z=>?_,λ_ e=>.inl e,λb e=>?_⟩
  ·have:b≠a:=λq=>by subst q;rw[hw] at z;cases z
   rw[zar this];exact e
  ·by_cases hb:b=a
   ·subst hb;rw[za1] at e;cases e
   ·rw[zar hb] at e;exact e
 refine ⟨⟨λb o e=>?_,r.wg,λb e=>?_,by simpa using r.len,λj b e=>?_,r.en.trans st,r.pin⟩,st⟩
 ·rw[zar (zaq e ga)];exact r.gh b o e
 ·by_cases hb:b=a
  ·subst hb;rw[za1];simp
  ·rw[zar hb];exact r.wh b e
 ·by_cases hj:j=i
  ·subst hj;rw[List.getElem?_set_self (List.getElem?_eq_some_iff.mp hi).1] at e;cases e;exact ⟨_,hv,a,vs',rfl,hw,za1,h'⟩
  ·rw[List.getElem?_set_ne (Ne.symm hj)] at e;obtain ⟨v',h1,h2⟩:=r.sl j b e;refine ⟨v',h1,h2.grow (.refl _) λb' o e1 e2=>⟨?_,e1⟩⟩;have:b'≠a:=λz=>by subst z;rw[hw] at e1;exact hj (waA e1).symm
   rw[zar this];exact e2
section
variable{X:Cx}{C:Cn}{e:Expr}{fa:De}{pos ps apos:Pos}{x:Str}
theorem zdG{K:W.Frag}{Y:L2.St}{G H:Hp}{w:Wn}{Z:Ev}{i:Nat}{ds:List Dt}(r:Rel K C G w Z Y H)(e:Z[i]? = some (some (.own ds))):∃ a vs,Y[i]? = some (some (.ref a))/\w a=some i/\H a=some (.lst vs)/\za2 K G ds vs:=by obtain ⟨v,h1,a,vs,rfl,h2,h3,h4⟩:=r.sl i _ e;exact ⟨a,vs,h1,h2,h3,h4⟩
def zho(i:Nat)(fa:De):De:=λZ=>match Z[i]? with
 |some (some (.own _))=>(fa Z).bind λa=>match a.2[i]? with
  |some (some (.own ds))=>if ds.length<16777216 then .ok (.non,a.2.set i (some (.own (ds++[a.1])))) else .no
  |_=>.no
 |_=>.no
theorem zcF:sizeLine=16777216:=by decide
theorem znz(i:Nat)(ha:JE X C e fa)(hN:X.N[i]? = some x:=by rfl)(hv:Vis X.env.scope x:=by exact xwV)(hd:(x == ("__debug__" : Str))=false:=by decide)(hcd:(x == ("__classdict__" : Str))=false:=by decide)
  (hbase:attributeBase (.Name x ps) "append" X.env (eval (.Name x ps) X.env)=eval (.Name x ps) X.env:=by rfl)
  (hfew:((backTo pos (starEach [e] X.env)).all (λx=>!x.1) && (backToKw pos (keywordEach [] X.env)).all (λx=>x.1.isSome) && decide ([e].length+([]:List Keyword).length+(if ([]:List Keyword).isEmpty then 0 else 1)<30))=true:=by rfl)
  (hline:(apos.endLine == pos.line)=true:=by rfl) (hs:starEach [e] X.env=(false,eval e X.env)::starEach [] X.env:=by rfl) (hplain:(backTo pos (starEach [] X.env)).any (·.1)=false:=by rfl) :
  JE X C (.Call (.Attribute (.Name x ps) "append" apos) [e] [] pos) (zho i fa) :=
 PE.weak (zot PySem.F.plainAttrs_list PySem.F.slot_list_append PySem.F.type_list_append zgB (zdk hN hv hd hcd) (zbE ha zdH hs) hbase hfew hline hs hplain) λY H Q ⟨G,w,Z,r,p⟩=>by
  unfold zho at p;split at p
  ·rename_i ds0 e0;obtain ⟨a,vs,h1,h2,h3,h4⟩:=zdG r e0;refine ⟨.ref a,h1,.inl ⟨rfl,vs,SqL.of h3⟩,?_⟩;refine zee (κ:=λG H w=>kE X.K C Y Q G H w) zbU r p λd Z1 v G1 H1 w1 r1 s1 q1 p1=>?_;dsimp only at p1;split at p1
   ·rename_i ds e1;obtain ⟨a',vs',k1,k2,k3,k4⟩:=zdG r1 e1;rw[h1] at k1;cases k1;split at p1
    ·rename_i hl;obtain ⟨r',s'⟩:=r1.mutate e1 h1 k2 (k4.append (za2.cons q1 za2.nil));exact ⟨a,vs',v,rfl,rfl,k3,by rw[<- k4.length,zcF];exact hl,p1 _ _ _ _ s' r' (by unfold Rep;rfl)⟩
    ·exact p1.elim
   ·exact p1.elim
  ·exact p.elim
def zq6(ds:List Dt)(k:Int):Option (Dt×List Dt):=if zg9 k=true then match ixN ds.length k with
  |some j=>match ds[j]? with
   |some d=>some (d,ds.eraseIdx j)
   |none=>none
  |none=>none
 else none
def zhU(i:Nat)(fa:De):De:=λZ=>match Z[i]? with
 |some (some (.own _))=>(fa Z).bind λa=>match a.2[i]?,a.1 with
  |some (some (.own ds)),.int k=>match zq6 ds k with
   |some z=>.ok (z.1,a.2.set i (some (.own z.2)))
   |none=>.no
  |_,_=>.no
 |_=>.no
theorem zq5(i:Nat)(ha:JE X C e fa)(hN:X.N[i]? = some x:=by rfl)(hv:Vis X.env.scope x:=by exact xwV)(hd:(x == ("__debug__" : Str))=false:=by decide)(hcd:(x == ("__classdict__" : Str))=false:=by decide)
  (hbase:attributeBase (.Name x ps) "pop" X.env (eval (.Name x ps) X.env)=eval (.Name x ps) X.env:=by rfl)
  (hfew:((backTo pos (starEach [e] X.env)).all (λx=>!x.1) && (backToKw pos (keywordEach [] X.env)).all (λx=>x.1.isSome) && decide ([e].length+([]:List Keyword).length+(if ([]:List Keyword).isEmpty then 0 else 1)<30))=true:=by rfl)
  (hline:(apos.endLine == pos.line)=true:=by rfl) (hs:starEach [e] X.env=(false,eval e X.env)::starEach [] X.env:=by rfl) (hplain:(backTo pos (starEach [] X.env)).any (·.1)=false:=by rfl) :
  JE X C (.Call (.Attribute (.Name x ps) "pop" apos) [e] [] pos) (zhU i fa) :=
 PE.weak (zot PySem.F.plainAttrs_list PySem.F.slot_list_pop PySem.F.type_list_pop zpG (zdk hN hv hd hcd) (zbE ha zdH hs) hbase hfew hline hs hplain) λY H Q ⟨G,w,Z,r,p⟩=>by
  unfold zhU at p;split at p
  ·rename_i ds0 e0;obtain ⟨a,vs,h1,h2,h3,h4⟩:=zdG r e0;refine ⟨.ref a,h1,.inl ⟨rfl,vs,SqL.of h3⟩,?_⟩;refine zee (κ:=λG H w=>kE X.K C Y Q G H w) zbU r p λd Z1 v G1 H1 w1 r1 s1 q1 p1=>?_;dsimp only at p1;split at p1
   ·rename_i ds k e1;obtain ⟨a',vs',k1,k2,k3,k4⟩:=zdG r1 e1;rw[h1] at k1;cases k1;split at p1
    ·rename_i z ez;unfold zq6 at ez;split at ez
     ·rename_i hb;split at ez
      ·rename_i j ej;split at ez
       ·rename_i d ed;cases ez;obtain ⟨j1,j2,j3,j4⟩:=zlu ej;obtain ⟨y,y1,y2⟩:=k4.get ed;obtain ⟨r',s'⟩:=r1.mutate e1 h1 k2 (k4.eraseIdx j);have hl:=k4.length;obtain ⟨b1,b2⟩:=zim hb;exact ⟨a,vs',k,j,y,rfl,by rw[za3 q1],k3,xwl,xwl,by rw[<- hl];exact j1,y1,p1 _ _ _ _ s' r' y2⟩
       ·cases ez
      ·cases ez
     ·cases ez
    ·exact p1.elim
   ·exact p1.elim
  ·exact p.elim
end
theorem ztB{X:Cx}{pS:List (Addr×Obj)}{Y:L2.St}{H:Hp}{s:Shared}{a:Addr}{xs:List V}(I:L2.Inv X pS Y H s)(h:zhT X.K H a xs):∃(its:List Value)(n:Nat),zaR xs its/\s.heap.get? a=some { cls:=.type "tuple",data:=.seq its.toArray n }/\xs.length<=sizeLine:=by
 rcases h with h|⟨its,n,h1,h2,h3⟩
 ·obtain ⟨z,its,r,n,e⟩:=(show zcE X.prog X.w H s.heap a (.tup xs) from I.hok a _ h)
  exact ⟨its,n,r,e,z⟩
 ·refine ⟨its.toList,n,h3,by simpa using I.kIn a _ h1,?_⟩;have:=h3.length;simp only[Array.length_toList] at this;lia
def zv6(K:W.Frag):V->List V->Hp->VK->Prop:=λx vs H Q=>∃ l b xs zs,x=.ref l/\vs=[.ref b]/\H l=some (.lst xs)/\zhT K H b zs/\xs.length+zs.length<=sizeLine/\Q .non (upd H l (.lst (xs++zs)))
section
variable{X:Cx}
theorem zmZ:MtM X "list.extend" (zv6 X.K):=by
 intro pS s Y H x vs v us Q I rx rv h;obtain ⟨l,b,xs,zs,rfl,rfl,hH,hB,hz,q⟩:=h;cases rx;obtain ⟨u,rfl,ru⟩:=zaR.one rv;cases ru;obtain ⟨z,its,n,r,hl,e⟩:=I.lstM hH;obtain ⟨its2,n2,r2,e2,z2⟩:=ztB I hB;have hl2:=r2.length;have hsz:its.toArray.size+its2.toArray.size<=sizeLine:=by rw[List.size_toArray,List.size_toArray];lia
 have hlong:¬ (!its.toArray.isEmpty && Builtin.List.listTooLong (its.toArray.size+its2.toArray.size))=true:=by rw[zl0 hsz,Bool.and_false];exact Bool.false_ne_true
 refine PySem.call_meets F.slot_list_extend ⟨_,e,rfl⟩ F.entry_list_extend (F.args_list_extend_2 _ _)
  (AutoSeq1.list_extend_list_tuple_0 l its.toArray n b its2.toArray n2 hlong (by rw[List.size_toArray];lia) xwl) ⟨e,e2,?_⟩
 refine ⟨.non,_,I.lset (its':=its++its2) hH e xws (r.append r2) ?_,rfl,q⟩;rw[List.length_append];lia
theorem MtM.or{id:String}{r r':V->List V->Hp->VK->Prop}(h:MtM X id r)(h':MtM X id r'):MtM X id (λx xs H Q=>r x xs H Q\/r' x xs H Q):=by
 intro pS s Y H x xs v us Q I rx rs q;rcases q with q|q
 ·exact h pS s Y H x xs v us Q I rx rs q
 ·exact h' pS s Y H x xs v us Q I rx rs q
variable{C:Cn}{e:Expr}{fa fb:De}{pos ps apos:Pos}{x:Str}
def zsj:Dt->Option (List Dt)
 |.lst l=>some l
 |.tup l=>some l
 |_=>none
def zfO(i:Nat)(fa:De):De:=λZ=>match Z[i]? with
 |some (some (.own _))=>(fa Z).bind λa=>match a.2[i]?,zsj a.1 with
  |some (some (.own ds)),some l=>if ds.length+l.length<=16777216 then .ok (.non,a.2.set i (some (.own (ds++l)))) else .no
  |_,_=>.no
 |_=>.no
theorem zlf(i:Nat)(ha:JE X C e fa)(hN:X.N[i]? = some x:=by rfl)(hv:Vis X.env.scope x:=by exact xwV)(hd:(x == ("__debug__" : Str))=false:=by decide)(hcd:(x == ("__classdict__" : Str))=false:=by decide)
  (hbase:attributeBase (.Name x ps) "extend" X.env (eval (.Name x ps) X.env)=eval (.Name x ps) X.env:=by rfl)
  (hfew:((backTo pos (starEach [e] X.env)).all (λx=>!x.1) && (backToKw pos (keywordEach [] X.env)).all (λx=>x.1.isSome) && decide ([e].length+([]:List Keyword).length+(if ([]:List Keyword).isEmpty then 0 else 1)<30))=true:=by rfl)
  (hline:(apos.endLine == pos.line)=true:=by rfl) (hs:starEach [e] X.env=(false,eval e X.env)::starEach [] X.env:=by rfl) (hplain:(backTo pos (starEach [] X.env)).any (·.1)=false:=by rfl) :
  JE X C (.Call (.Attribute (.Name x ps) "extend" apos) [e] [] pos) (zfO i fa) :=
 PE.weak (zot PySem.F.plainAttrs_list PySem.F.slot_list_extend PySem.F.type_list_extend (MtM.or zny zmZ) (zdk hN hv hd hcd) (zbE ha zdH hs) hbase hfew hline hs hplain) λY H Q ⟨G,w,Z,r,p⟩=>by
  unfold zfO at p;split at p
  ·rename_i ds0 e0;obtain ⟨a,vs,h1,h2,h3,h4⟩:=zdG r e0;refine ⟨.ref a,h1,.inl ⟨rfl,vs,SqL.of h3⟩,?_⟩;refine zee (κ:=λG H w=>kE X.K C Y Q G H w) zbU r p λd Z1 v G1 H1 w1 r1 s1 q1 p1=>?_;dsimp only at p1;split at p1
   ·rename_i ds l e1 el;obtain ⟨a',vs',k1,k2,k3,k4⟩:=zdG r1 e1;rw[h1] at k1;cases k1;split at p1
    ·rename_i hl;cases d with
     |lst l' =>
      cases el;obtain ⟨b,us,rfl,b1,b2⟩:=zaK q1;obtain ⟨r',s'⟩:=r1.mutate e1 h1 k2 (k4.append b2);exact .inl ⟨a,b,vs',us,rfl,rfl,k3,r1.gh _ _ b1,by rw[<- k4.length,<- b2.length,zcF];exact hl,p1 _ _ _ _ s' r' (by unfold Rep;rfl)⟩
     |tup l' =>
      cases el;obtain ⟨b,us,rfl,b1,b2⟩:=zcU q1;obtain ⟨r',s'⟩:=r1.mutate e1 h1 k2 (k4.append b2);exact .inr ⟨a,b,vs',us,rfl,rfl,k3,b1.same r1.gh,by rw[<- k4.length,<- b2.length,zcF];exact hl,p1 _ _ _ _ s' r' (by unfold Rep;rfl)⟩
     |_=>cases el
    ·exact p1.elim
   ·exact p1.elim
  ·exact p.elim
def zmY(i:Nat):De:=λZ=>match Z[i]? with
 |some (some (.own ds))=>.ok (.int ds.length,Z)
 |_=>.no
theorem zsx(i:Nat){p:Pos}(hg:Gl X "len")(hm:X.mg "len"=none)(hN:X.N[i]? = some x:=by rfl)(hv:Vis X.env.scope x:=by exact xwV)(hd:(x == ("__debug__" : Str))=false:=by decide)(hcd:(x == ("__classdict__" : Str))=false:=by decide)
  (hs:starEach [.Name x ps] X.env=(false,eval (.Name x ps) X.env)::starEach [] X.env:=by rfl) (hpl:(backTo pos (starEach [] X.env)).any (·.1)=false:=by rfl):JE X C (.Call (.Name "len" p) [.Name x ps] [] pos) (zmY i) :=
 PE.weak (zgb zfA hg hm PySem.boot_len (zbE (zdk hN hv hd hcd) zdH hs) xwd xwd hs hpl) λY H Q ⟨G,w,Z,r,p⟩=>by
  unfold zmY at p;split at p
  ·rename_i ds e0;obtain ⟨a,vs,h1,h2,h3,h4⟩:=zdG r e0;exact ⟨.ref a,h1,a,vs,rfl,.inl (SqL.of h3),by rw[<- h4.length];exact p _ G H w (.refl _ _ _) r (zaz _)⟩
  ·exact p.elim
def zuo(neg:Bool)(i:Nat)(fb:De):De:=λZ=>match Z[i]? with
 |some (some (.own _))=>(fb Z).bind λb=>match b.2[i]? with
  |some (some (.own ds))=>(gEq neg (.lst ds) b.1).bind λz=>.ok (z,b.2)
  |_=>.no
 |_=>.no
theorem zp1{neg:Bool}{i:Nat}{Y:L2.St}{H:Hp}{Q:VK}(h:tE X.K C (zuo neg i fb) Y H Q):tOp (zwu X.K neg) (tVar i) (tE X.K C fb) Y H Q:=by
 obtain ⟨G,w,Z,r,p⟩:=h;unfold zuo at p;split at p
 ·rename_i ds0 e0;obtain ⟨a,vs,h1,h2,h3,h4⟩:=zdG r e0;refine ⟨.ref a,h1,?_⟩;refine zee (κ:=λG H w=>kE X.K C Y Q G H w) zbU r p λd Z1 v G1 H1 w1 r1 s1 q1 p1=>?_;dsimp only at p1;split at p1
  ·rename_i ds e1;obtain ⟨a',vs',k1,k2,k3,k4⟩:=zdG r1 e1;rw[h1] at k1;cases k1;unfold gEq at p1;split at p1
   ·rename_i hk;rw[Bool.and_eq_true] at hk;exact ⟨.lst ds,d,by unfold Rep;exact ⟨a,vs',rfl,k3,k4.same r1.gh⟩,q1.same r1.gh,hk.1,hk.2,p1 _ G1 H1 w1 (.refl _ _ _) r1 (zdy _)⟩
   ·exact p1.elim
  ·exact p1.elim
 ·exact p.elim
variable{b:Expr}
theorem zv2(i:Nat)(hu:X.A.units+64<cLine)(hb:JE X C b fb)(hN:X.N[i]? = some x:=by rfl)(hv:Vis X.env.scope x:=by exact xwV)(hd:(x == ("__debug__" : Str))=false:=by decide)(hcd:(x == ("__classdict__" : Str))=false:=by decide) :
  JT X C (.Compare (.Name x ps) [.NotEq] [b] pos) (dTB (zuo true i fb)):=PT.weak (zo0 (zrU hu) (zdk hN hv hd hcd) hb (zhe _)) λY H Q h=>zp1 (zkD h)
def zpd(i:Nat)(fv fk:De):DS:=λZ=>(fv Z).bind λv=>match v.2[i]? with
 |some (some (.own _))=>(fk v.2).bind λk=>match k.2[i]?,k.1 with
  |some (some (.own ds)),.int n=>match ixN ds.length n with
   |some j=>.ok (.nx,k.2.set i (some (.own (ds.set j v.1))))
   |none=>.no
  |_,_=>.no
 |_=>.no
theorem zoK(i:Nat){k:Expr}{fk:De}{tp:Pos}(hv:JE X C e fa)(hk:JE X C k fk)(hN:X.N[i]? = some x:=by rfl)(hvi:Vis X.env.scope x:=by exact xwV)(hd:(x == ("__debug__" : Str))=false:=by decide)(hcd:(x == ("__classdict__" : Str))=false:=by decide)
  (ha:∀ v,assign (.Subscript (.Name x ps) k tp) X.env v=(do
   let ov <- holding [v] (eval (.Name x ps) X.env);let iv <- holding [v,ov] (eval k X.env)
   standAt tp
   holding [v,ov,iv] (setItem ov iv v)
   release [v,ov,iv] []):=by intro _;rfl)
  (hs:swapsWithSole [.Subscript (.Name x ps) k tp] e pos.line X.env=pure false:=by rfl) (hw:swappedStores [.Subscript (.Name x ps) k tp] e X.env=pure none:=by rfl)
  (h1:(assignEach [.Subscript (.Name x ps) k tp] X.env).map (·.2)=[assign (.Subscript (.Name x ps) k tp) X.env]:=by rfl):JS X C (.Assign [.Subscript (.Name x ps) k tp] e pos) (zpd i fa fk) :=
 PS.weak (zvH hv (zuA (zdk hN hvi hd hcd) hk zra ha) hs hw h1) λD Y H ⟨G,w,Z,r,p⟩=>by
  refine zee (κ:=λG H w=>kS X.K C D G H w) zdw r p λd Z1 v G1 H1 w1 r1 s1 q1 p1=>?_;dsimp only at p1;split at p1
  ·rename_i ds0 e0;obtain ⟨a,vs,k1,k2,k3,k4⟩:=zdG r1 e0;refine ⟨.ref a,k1,?_⟩;refine zee (κ:=λG H w=>kS X.K C D G H w) zdw r1 p1 λd2 Z2 v2 G2 H2 w2 r2 s2 q2 p2=>?_;dsimp only at p2;split at p2
   ·rename_i ds n e2;obtain ⟨a',vs',m1,m2,m3,m4⟩:=zdG r2 e2;rw[k1] at m1;cases m1;split at p2
    ·rename_i j ej;obtain ⟨r',s'⟩:=r2.mutate e2 k1 m2 (za2.set (q1.same s2.g) j m4);exact ⟨a,vs',n,j,rfl,za3 q2,m3,by rw[<- m4.length];exact ej,p2 _ _ _ _ s' r'⟩
    ·exact waO p2
   ·exact waO p2
  ·exact waO p1
end
theorem zdx{env:Env}:∀(names:List (Str×NameKind))(cs:List (Str×Addr)),(∀ y∈names,y.2=.free->∃ c,env.cells.lookup y.1=some c)->(∀ x c,cs.lookup x=some c->env.cells.lookup x=some c) ->
  ∃ cl,(forIn names cs λ(y:Str×NameKind) (r:List (Str×Addr))=>(if (y.2 == NameKind.free)=true then do let a <- cellOf env y.1;pure (ForInStep.yield ((y.1,a)::r)) else pure (ForInStep.yield r):Sem (ForInStep (List (Str×Addr)))))=pure cl /\
   (∀ x c,cl.lookup x=some c->env.cells.lookup x=some c)/\(∀ x c,cs.lookup x=some c->∃ c',cl.lookup x=some c')/\∀ y∈names,y.2=.free->∃ c,cl.lookup y.1=some c
 |[],cs,_,h2=>⟨cs,rfl,h2,λx c e=>⟨c,e⟩,λy hy=>by cases hy⟩
 | (n,k)::r,cs,h1,h2=>by
  rw[List.forIn_cons];by_cases hk:k=.free
  ·subst hk;obtain ⟨c,hc⟩:=h1 (n,.free) wau rfl;obtain ⟨cl,e1,e2,e3,e4⟩:=zdx r ((n,c)::cs) (λy hy=>h1 y (wah _ hy)) (λx c' e=>by
    rw[List.lookup_cons] at e;cases hx:x == n with
    |true=>rw[hx] at e;simp only[Option.some.injEq] at e;subst e;rw[beq_iff_eq.mp hx];exact hc
    |false=>rw[hx] at e;exact h2 x c' e)
   refine ⟨cl,?_,e2,λx c' e=>?_,λy hy hf=>?_⟩
   ·simp only[beq_self_eq_true,if_true];have:cellOf env n=pure c:=by unfold cellOf;rw[hc]
    rw[this];exact e1
   ·refine (e3 x (if x == n then c else c') ?_);rw[List.lookup_cons];cases hx:x == n with
    |true=>rfl
    |false=>exact e
   ·rcases wap.mp hy with rfl|hy
    ·exact e3 n c (by simp[List.lookup_cons])
    ·exact e4 y hy hf
  ·obtain ⟨cl,e1,e2,e3,e4⟩:=zdx r cs (λy hy=>h1 y (wah _ hy)) h2;refine ⟨cl,?_,e2,e3,λy hy hf=>?_⟩
   ·have:(k == NameKind.free)=false:=by simpa using hk
    simp only[this,Bool.false_eq_true,if_false];exact e1
   ·rcases wap.mp hy with rfl|hy
    ·exact absurd hf hk
    ·exact e4 y hy hf
theorem zf5{scope:Scope}{env:Env}(h:∀ y∈scope.names,y.2=.free->∃ c,env.cells.lookup y.1=some c):∃ cl,closureFor scope env=pure cl/\(∀ x c,cl.lookup x=some c->env.cells.lookup x=some c)/\∀ y∈scope.names,y.2=.free->∃ c,cl.lookup y.1=some c:=by obtain ⟨cl,e1,e2,_,e4⟩:=zdx (env:=env) scope.names [] h (λx c e=>by simp at e);refine ⟨cl,?_,e2,e4⟩;unfold closureFor;exact (congrArg (λz:Sem (List (Str×Addr))=>z >>= λcs=>pure cs) e1).trans rfl
section
variable{prog:Program}{w:World}{A:Around}{R:Result->Shared->Prop}{s:Shared}
theorem zjR{elt target iter:Expr}{ifs:List Expr}{scope:Scope}{pos:Pos}{it acc:Value}{env:Env}(I:Nat->Shared->Prop)
  (turn:∀ n s,I n s->wpAny (model prog w) A (pyNext it) (λr s₁=>match r with
   |none=>R (.ok .next) s₁
   |some v=>wpAny (model prog w) A (letOwnedTupleGo target it v) (λ_ s₁'=>wpAny (model prog w) A (assign target env v) (λ_ s₂ =>
     wpAny (model prog w) A (forIn ifs true λc r=>if r=true then do let ok <- isTrue c env (eval c env);pure (ForInStep.yield ok) else pure (ForInStep.yield r)) (λok s₃ =>
      if ok=true then wpAny (model prog w) A (eval elt env) (λx s₄ =>
       wpAny (model prog w) A (call (.builtin "list.append") [acc,x]) (λ_ s₅=>∃ m,m<n/\I m s₅) (λ_ _=>False) s₄) (λ_ _=>False) s₃
      else ∃ m,m<n/\I m s₃) (λ_ _=>False) s₂) (λ_ _=>False) s₁') (λ_ _=>False) s₁) (λ_ _=>False) s)
  (n:Nat) (h:I n s) :
  codeAny (model prog w) A (.compLoop (.ListComp elt [⟨target,iter,ifs,0⟩] scope pos) 0 it acc env) R s:=by
 refine codeAny_loop rfl I (λn s hI=>?_) n h;show wpAny _ A ((compTurn (.ListComp elt [⟨target,iter,ifs,0⟩] scope pos) 0 it acc env).onRaise (λx=>do noteFrame x env;theTreesLotGoes x)) _ _ s;refine wpAny_noted ?_;rw[compTurn_list];refine wab (wpAny_standAt (wab (wpAny_mono (turn n s hI) (λr s₁ h₁=>?_) λ_ _ h'=>h'.elim)));cases r with
 |none=>exact wad h₁
 |some v =>
  refine wab (wpAny_mono h₁ (λ_ s₁' h₁'=>?_) λ_ _ h'=>h'.elim);refine wab (wpAny_mono h₁' (λ_ s₂ h₂=>wab (wpAny_mono h₂ (λok s₃ h₃=>?_) λ_ _ h'=>h'.elim)) λ_ _ h'=>h'.elim);cases ok with
  |false=>exact wad ⟨rfl,h₃⟩
  |true =>
   exact wab (wab (wpAny_mono h₃ (λx s₄ h₄=>wab (wpAny_mono h₄ (λ_ s₅ h₅=>wad (wad ⟨rfl,h₅⟩)) λ_ _ h'=>h'.elim)) λ_ _ h'=>h'.elim))
end
def zca(X:Cx)(N':List Str)(scope:Scope)(cl:List (Str×Addr))(L:Addr)(s:Shared)(H:Hp)(fp:List Addr):Cx where
 prog:=X.prog
 w:=X.w
 K:=X.K
 mg:=X.mg
 base:=X.base
 A:=X.A
 N:=N'
 s₀:=s
 H₀:=H
 env:=compEnvC scope cl L X.env
 outer:=X.stack
 stack:=X.stack
 ex:=fp
 fn:=λ_=>false
 calm:=X.calm
 pn:=[]
 xe:=λ_ _=>False
def zfR(C:Cn)(n:Nat)(G H:Hp)(w:Wn)(Y:L2.St):Cn:=⟨G,H,w,List.range n,Y,λ_=>False,C.xv,false⟩
def zfp(N N':List Str)(names:List (Str×NameKind))(m:Nat):Bool:=decide (N'.length=N.length+m) && (List.range N.length).all λi=>match N'[i]? with
 |some x=>match names.lookup x with
  |some .free=>N[i]? == some x
  |some .local=>false
  |some .cell=>false
  |_=>true
 |none=>false
theorem zbP{env:Env}{x:Str}:∀{names:List (Str×NameKind)},(names.map λ(n,k)=>if (k == NameKind.free && env.scope.kind == .function && env.kindOf n == some .cell) then (n,NameKind.cell) else (n,k)).lookup x=(names.lookup x).map λk=>if (k == NameKind.free && env.scope.kind == .function && env.kindOf x == some .cell)=true then .cell else k
 |[]=>rfl
 | (n,k)::r=>by
  have ih:=zbP (env:=env) (x:=x) (names:=r);show List.lookup x ((if (k == NameKind.free && env.scope.kind == .function && env.kindOf n == some .cell)=true then (n,NameKind.cell) else (n,k))::_)=_;cases hx:x == n with
  |true =>
   have e:=beq_iff_eq.mp hx;subst e;simp only[List.lookup_cons,beq_self_eq_true,Option.map_some];split <;> simp[List.lookup_cons]
  |false =>
   simp only[List.lookup_cons,hx];split
   ·simp only[List.lookup_cons,hx];exact ih
   ·simp only[List.lookup_cons,hx];exact ih
theorem zbM{α β:Type} [BEq α] [LawfulBEq α] {x:α} {b:β}:∀{l:List (α×β)},l.lookup x=some b->(x,b)∈l
 |[],h=>by simp at h
 | (n,k)::r,h=>by
  rw[List.lookup_cons] at h;cases hx:x == n with
  |true=>rw[hx] at h;simp at h;subst h;rw[beq_iff_eq.mp hx];exact wau
  |false=>rw[hx] at h;exact wah _ (zbM h)
theorem zgF{scope:Scope}{env:Env}{x:Str}(h:Vis (relabel scope env) x):scope.names.lookup x=some .local\/scope.names.lookup x=some .cell\/scope.names.lookup x=some .free:=by
 have e:(relabel scope env).names.lookup x=_:=zbP (env:=env) (x:=x) (names:=scope.names);unfold Vis at h;rw[e] at h;cases q:scope.names.lookup x with
 |none=>rw[q] at h;simp at h
 |some k =>
  rw[q] at h;cases k <;> simp_all
section
variable{X:Cx}{C:Cn}
theorem zn6{pS:List (Addr×Obj)}{Y:L2.St}{H:Hp}{s:Shared}{N':List Str}{scope:Scope}{cl:List (Str×Addr)}{m:Nat}{fp:List Addr}{h₁:Heap}{tk:Nat}{mm:Str->Option Value}(I:L2.Inv X pS Y H s)(hf:∀ b∈fp,zeE X pS H b)(ho:∀ b∈fp,∃ o,s.heap.get? b=some o)
  (hb:zfp X.N N' scope.names m=true) (hkind:scope.kind=.function) (hcell:∀ y∈scope.names,y.2≠.cell) (hfr:∀ y∈scope.names,y.2=.free->X.env.kindOf y.1=some .cell\/X.env.kindOf y.1=some .free)
  (hcl:∀ x c,cl.lookup x=some c->X.env.cells.lookup x=some c) (hcf:∀ y∈scope.names,y.2=.free->∃ c,cl.lookup y.1=some c)
  (hns:h₁.Ns s.heap.objs.size mm) (hk:∀ b o,s.heap.get? b=some o->h₁.get? b=some o) :
  L2.Inv (zca X N' scope cl s.heap.objs.size s H fp) [] (Y++List.replicate m none) H { s with heap:=h₁,toks:=tk }:=by
 have hb1:N'.length=X.N.length+m:=by unfold zfp at hb;rw[Bool.and_eq_true] at hb;exact of_decide_eq_true hb.1
 have hb2:∀ i x,i<X.N.length->N'[i]? = some x->Vis (relabel scope X.env) x->X.N[i]? = some x/\scope.names.lookup x=some .free:=λi x hi e v=>by
  unfold zfp at hb;rw[Bool.and_eq_true,List.all_eq_true] at hb;have q:=hb.2 i (List.mem_range.mpr hi);simp only[e] at q;rcases zgF v with z|z|z
  ·simp[z] at q
  ·simp[z] at q
  ·simp[z] at q;exact ⟨q,z⟩
 have cellK:∀ c v,s.heap.IsCell c v->h₁.IsCell c v:=λc v ⟨o,e1,e2⟩=>⟨o,hk c o e1,e2⟩
 refine ⟨⟨I.ok.mod,hkind,I.ok.glob,I.ok.blt,wal _,λx y c h1 h2=>I.ok.inj x y c (hcl x c h1) (hcl y c h2),λx hx=>?_,λx c h _=>absurd h (by simp[zca]),I.ok.hd,I.ok.frames,.inl rfl,λb hb=>⟨?_,λx c e=>(hf b hb).2.2.2.2.1 x c (hcl x c e)⟩,I.bs,waN I.ok.bsz I.sz,λb o e hb=>?_,λb hb z=>?_,I.stack,I.stkFree⟩,
  rfl,I.bare,Un.kept hk,⟨mm,hns,λi x v e1 e2 e3=>?_⟩,λx c e=>?_,I.hok.fresh (wal _),λx c e=>I.freeC x c (hcl x c e),λp hp=>absurd hp (by simp[zca]),I.hok.kept hk,?_⟩
 ·
  have e:(relabel scope X.env).names.lookup x=_:=zbP (env:=X.env) (x:=x) (names:=scope.names);have hx':Vis (relabel scope X.env) x:=hx.elim (λz=>.inr (.inl z)) λz=>.inr (.inr z);rcases zgF hx' with z|z|z
  ·rw[z] at e;have hx2:(relabel scope X.env).names.lookup x=some .cell\/(relabel scope X.env).names.lookup x=some .free:=hx;rw[e] at hx2;simp at hx2
  ·exact absurd rfl (hcell _ (zbM z))
  ·exact hcf _ (zbM z) rfl
 ·intro z;obtain ⟨o,e⟩:=ho b hb;exact absurd (wai e) (by rw[z];exact waL _)
 ·rcases (hf b hb).2.2.2.1 with z|z
  ·exact I.ok.noex b o e z
  ·exact absurd (was (wai e) (waN I.ok.bsz z)) (waL _)
 ·rcases wap.mp (I.stkSub b z) with z|z
  ·exact (hf b hb).2.1 z
  ·exact (hf b hb).2.2.1 z
 ·have hi:i<X.N.length:=by
   by_cases hi:i<X.N.length
   ·exact hi
   ·rw[List.getElem?_append_right (by rw[I.len];lia),List.getElem?_replicate] at e2;split at e2 <;> cases e2
  rw[List.getElem?_append_left (by rw[I.len];exact hi)] at e2;obtain ⟨q1,q2⟩:=hb2 i x hi e1 e3;have hm:=zbM q2;obtain ⟨m0,hn0,hl0⟩:=I.loc;have kc:=hfr _ hm rfl;obtain ⟨u,ru,lk⟩:=hl0 i x v q1 e2 (kc.elim (λz=>.inr (.inl z)) λz=>.inr (.inr z));refine ⟨u,ru,.inr ⟨?_,?_⟩⟩
  ·have e:(relabel scope X.env).names.lookup x=_:=zbP (env:=X.env) (x:=x) (names:=scope.names);show (relabel scope X.env).names.lookup x=some .cell\/(relabel scope X.env).names.lookup x=some .free;rw[e,q2];simp only[Option.map_some];split
   ·exact .inl rfl
   ·exact .inr rfl
  ·obtain ⟨c,hc⟩:=hcf _ hm rfl;refine ⟨c,hc,?_⟩;rcases lk with ⟨z,_⟩|⟨_,c',e',ic⟩
   ·rcases kc with y|y <;> (rw[y] at z;cases z)
   ·rw[hcl _ _ hc] at e';cases e';exact cellK _ _ ic
 ·obtain ⟨v,ic⟩:=I.cell x c (hcl x c e);exact ⟨v,cellK _ _ ic⟩
 ·show _=N'.length;rw[List.length_append,List.length_replicate,I.len,hb1]
theorem zsr{pS:List (Addr×Obj)}{Y Y':L2.St}{H H':Hp}{s s':Shared}{N':List Str}{scope:Scope}{cl:List (Str×Addr)}{fp:List Addr}{L:Addr}{h':Heap}{ps:List (Addr×Obj)}(I:L2.Inv X pS Y H s)(hf:∀ b∈fp,zeE X pS H b)(hL:s.heap.objs.size<=L)
  (J:L2.Inv (zca X N' scope cl L s H fp) ps Y' H' s') (hs:Heap.SameBut L s'.heap h'):L2.Inv X pS Y H' { s' with heap:=h' }:=by
 have hne:∀ b o,s.heap.get? b=some o->b≠L:=λb o e z=>by subst z;exact absurd (was (wai e) hL) (waL _)
 have hfree:H' L=none:=J.free;have un:Un (frs X.stack) fp H H' s.heap s'.heap:=J.base;refine I.call' (s':={ s' with heap:=h' }) (ch:=fp) J.os ⟨λb o e n h1 h2=>?_,λb o e n h1 h2=>?_,un.free,λb o e h2=>?_,un.tups,un.frzs,un.tbls⟩ (λb o e=>?_) J.bare λb hb=>⟨(hf b hb).2.2.2.1,(hf b hb).2.1,(hf b hb).2.2.2.2.1,(hf b hb).2.2.2.2.2⟩
 ·exact (hs.2 b (hne b o e)).trans (un.keep b o e n h1 h2)
 ·obtain ⟨sl,q⟩:=un.slot b o e n h1 h2;exact ⟨sl,(hs.2 b (hne b o e)).trans q⟩
 ·obtain ⟨o',q⟩:=un.there b o e h2;exact ⟨o',(hs.2 b (hne b o e)).trans q⟩
 ·refine (J.hok b o e).stay (λc v hc q=>(hs.2 c ?_).trans q) (λ_ q=>q) λ_ _ q=>q;intro z;subst z;rcases hc with z|z
  ·subst z;rw[hfree] at e;cases e
  ·rw[hfree] at z;cases z
end
def zd9(g:DG)(ft:DT)(fe:De):List Dt->Ev->R (List Dt×Ev)
 |[],Z=>.ok ([],Z)
 |d::r,Z=>(g d Z).bind λZ1=>(ft Z1).bind λt=>if t.1=true then (fe t.2).bind λy=>(zd9 g ft fe r y.2).bind λz=>.ok (y.1::z.1,z.2) else zd9 g ft fe r t.2
def zbQ(fi:DA)(g:DG)(ft:DT)(fe:De)(m:Nat):DN:=λZ=>(fi Z).bind λa=>if fits a.1=true then match zd9 g ft fe a.1 (a.2++List.replicate m none) with
  |.ok z=>.ok (z.1,z.2.take a.2.length)
  |_=>.no
 else .no
theorem zcp{α β:Type}{r:R α}{f:α->R β}{b:β}(h:r.bind f=.ok b):∃ a,r=.ok a/\f a=.ok b:=by
 cases r with
 |ok a=>exact ⟨a,rfl,h⟩
 |er n=>cases h
 |no=>cases h
def JTs(X:Cx)(C:Cn)(ifs:List Expr)(ft:DT):Prop :=
 ∀(pS:List (Addr×Obj))(s:Shared)(Y:L2.St)(H:Hp)(Q:Bool->Hp->Prop),L2.Inv X pS Y H s->tT X.K C ft Y H Q ->
  wpAny (model X.prog X.w) X.A (forIn ifs true λc r=>if r=true then do let ok <- isTrue c X.env (eval c X.env);pure (ForInStep.yield ok) else pure (ForInStep.yield r)) (TP X pS Y Q) X.xe s
def dTT:DT:=λZ=>.ok (true,Z)
abbrev Hce(scope:Scope):Prop:=∀ y∈scope.names,y.2≠.cell
abbrev Hfr(X:Cx)(scope:Scope):Prop:=∀ y∈scope.names,y.2=.free->X.env.kindOf y.1=some .cell\/X.env.kindOf y.1=some .free
abbrev Hnm(scope:Scope):Prop:=∀ y∈scope.names,y.2=.local->scope.names.lookup y.1=some .local
abbrev Hbk(X:Cx)(C:Cn)(N':List Str)(scope:Scope)(tg:Expr)(ifs:List Expr)(elt:Expr)(g:DG)(ft:DT)(fe:De):Prop:=∀ cl L s H fp G H' w Y,JG (zca X N' scope cl L s H fp) (zfR C X.N.length G H' w Y) tg g/\JTs (zca X N' scope cl L s H fp) (zfR C X.N.length G H' w Y) ifs ft/\JE (zca X N' scope cl L s H fp) (zfR C X.N.length G H' w Y) elt fe
abbrev nL(s2:Shared):Heap:=s2.heap.push { cls:=.type "list",dict:=none,data:=.seq ([]:List Value).toArray }
def PTs(X:Cx)(ifs:List Expr)(t:TT):Prop :=
 ∀(pS:List (Addr×Obj))(s:Shared)(Y:L2.St)(H:Hp)(Q:Bool->Hp->Prop),L2.Inv X pS Y H s->t Y H Q ->
  wpAny (model X.prog X.w) X.A (forIn ifs true λc r=>if r=true then do let ok <- isTrue c X.env (eval c X.env);pure (ForInStep.yield ok) else pure (ForInStep.yield r)) (TP X pS Y Q) X.xe s
section
variable{X:Cx}{C:Cn}
theorem zdg:JTs X C [] dTT:=λpS s Y H Q I ⟨G,w,Z,r,p⟩=>wpAny_tests_nil ⟨H,I,p G H w (.refl _ _ _) r⟩
theorem Rel.upd_new{K:W.Frag}{Y:L2.St}{G H:Hp}{w:Wn}{Z:Ev}{p:Addr}{o:HO}(r:Rel K C G w Z Y H)(hg:G p=none)(hw:w p=none)(h0:C.H₀ p=none):Rel K C G w Z Y (upd H p o):=by
 refine ⟨λb u e=>?_,r.wg,λb e=>?_,r.len,λi b e=>?_,⟨r.en.g,r.en.fr,λb u e z=>?_,r.en.w,λb e=>?_⟩,r.pin⟩
 ·rw[zar (zaq e hg)];exact r.gh b u e
 ·by_cases hb:b=p
  ·subst hb;rw[za1];simp
  ·rw[zar hb];exact r.wh b e
 ·obtain ⟨v,h1,h2⟩:=r.sl i b e;refine ⟨v,h1,h2.grow (.refl _) λa u e1 e2=>⟨?_,e1⟩⟩;have:a≠p:=λz=>by subst z;rw[hw] at e1;cases e1
  rw[zar this];exact e2
 ·rw[zar (zaq e h0)];exact r.en.h b u e z
 ·by_cases hb:b=p
  ·subst hb;exact h0
  ·rw[zar hb] at e;exact r.en.k b e
theorem zbj.keep{G H G' H':Hp}{w w':Wn}{p:Addr}{o:HO}(s:zbj G H w G' H' w')(hg:G p=none)(hw:w p=none)(hp:H p=some o):G' p=none/\w' p=none/\H' p=some o:=by
 refine ⟨?_,?_,s.h p o hp hw⟩
 ·cases q:G' p with
  |none=>rfl
  |some u =>
   rcases s.fr p u q with z|z|z
   ·exact absurd hg z
   ·rw[hp] at z;cases z
   ·exact absurd hw z
 ·cases q:w' p with
  |none=>rfl
  |some k =>
   rcases s.w p (by rw[q];simp) with z|z
   ·exact absurd hw z
   ·rw[hp] at z;cases z
structure zn2(X:Cx)(pS:List (Addr×Obj))(H:Hp)(L:Addr)(s:Shared):Prop where
 fr:H L=none
 nl:L≠X.env.locals
 nw:L∈X.ex\/X.s₀.heap.objs.size<=L
 nc:∀ x c,X.env.cells.lookup x=some c->c≠L
 np:∀ p∈X.pn++pS,p.1≠L
 ns:∃ m,s.heap.Ns L m
theorem zlP{tg iter elt:Expr}{ifs:List Expr}{scope:Scope}{pos:Pos}{N':List Str}{m n:Nat}{tgt:TG}{tts:TT}{te:TE}(hc:X.calm=true)(hb:zfp X.N N' scope.names m=true)
  (hkind:scope.kind=.function) (hcell:Hce scope) (hfr:Hfr X scope)
  {pS:List (Addr×Obj)} {Y:L2.St} {s2:Shared} {cl:List (Str×Addr)} {RR:Value->Addr->Result->Shared->Prop} {E:Value->Shared->Prop}
  (hblk:∀ L s H fp,L2.Inv X pS Y H s->(∀ b∈fp,zeE X pS H b)->s.heap.objs.size<=L->PG (zca X N' scope cl L s H fp) tg tgt/\PTs (zca X N' scope cl L s H fp) ifs tts/\PE (zca X N' scope cl L s H fp) elt te)
  (hcl:∀ x c,cl.lookup x=some c->X.env.cells.lookup x=some c) (hcf:∀ y∈scope.names,y.2=.free->∃ c,cl.lookup y.1=some c)
  {it:Addr} {fp:List Addr} {tn:Nat->Heap->Prop} {J:It} {H2:Hp} (I2:L2.Inv X pS Y H2 s2) (T:zqk X.prog X.w X.K tg J fp it tn) (st2:tn 0 s2.heap) (f2:∀ b∈fp,zeE X pS H2 b)
  (W:Addr->Nat->L2.St->Hp->List V->Prop) (w0:∀ D,H2 D=none->W D 0 (Y++List.replicate m none) (upd H2 D (.lst [])) [])
  (hstep:∀ D i Y' H' vs,H2 D=none->W D i Y' H' vs->H' D=some (.lst vs)->i<n->J.go i H'/\∀ x H7,J.yld i H' x H7->tgt x Y' H7 λY8 H8=>tts Y8 H8 λb H9=>if b=true then te Y8 H9 λv H10=>H10 D=some (.lst vs)/\vs.length<sizeLine/\W D (i+1) Y8 (upd H10 D (.lst (vs++[v]))) (vs++[v]) else H9 D=some (.lst vs)/\W D (i+1) Y8 H9 vs)
  (hstop:∀ D Y' H' vs,W D n Y' H' vs->J.stop n H')
  (fin:∀(D L:Addr)(s':Shared)(vs:List V)(Y':L2.St)(H':Hp),L2.Inv X pS Y H' s'->zn2 X pS H' L s'->H2 D=none->H' D=some (.lst vs)->Y'.length=X.N.length+m->W D n Y' H' vs->RR (.ref D) L (.ok .next) s') :
  wpAny (model X.prog X.w) X.A (newList []) (λacc s₃=>wpAny (model X.prog X.w) X.A (newFunctionEnv scope X.env.globals cl [] X.env.qual none .none (some X.env)) (λcenv s₄ =>
   codeAny (model X.prog X.w) X.A (.compStart (.ListComp elt [⟨tg,iter,ifs,0⟩] scope pos) 0 (.ref it) acc { cenv with scope:=relabel scope X.env }) (RR acc cenv.locals) s₄) E s₃) E s2:=by
 have hD:H2 s2.heap.objs.size=none:=I2.hok.fresh (wal _);refine wpAny_newObj_type (wpAny_newFunctionEnv hcell (by intro y hy;simp at hy) (λh₁ hns₁ hsb₁=>?_) hkind);dsimp only at hns₁ hsb₁ ⊢;have I3:L2.Inv X pS Y (upd H2 s2.heap.objs.size (.lst [])) { s2 with heap:=nL s2 } :=
  I2.laid (t':=s2.toks) (λb u e=>waa _ e) (wal _) ⟨Nat.zero_le _,[],0,.nil,waj _ rfl⟩
 have hob:∀ b∈fp,∃ o,s2.heap.get? b=some o:=λb hb=>let ⟨o,e,_⟩:=T.obj 0 _ st2 b hb;⟨o,e⟩;have hbD:∀ b∈fp,b≠s2.heap.objs.size:=λb hb z=>by obtain ⟨o,e⟩:=hob b hb;exact absurd (wai e) (by rw[z];exact waL _)
 have f3:∀ b∈fp,zeE X pS (upd H2 s2.heap.objs.size (.lst [])) b:=λb hb=>⟨by rw[zar (hbD b hb)];exact (f2 b hb).1,(f2 b hb).2⟩
 have hk3:∀ b o,(nL s2).get? b=some o->h₁.get? b=some o:=λb o e =>
  (hsb₁.2 b (waM (wai e))).trans (waa _ e)
 have J4:=zn6 (N':=N') (scope:=scope) (cl:=cl) (m:=m) (fp:=fp) (tk:=s2.toks+([]:List (Str×Value)).length) I3 f3 (λb hb=>by obtain ⟨o,e⟩:=hob b hb;exact ⟨o,waa _ e⟩) hb hkind hcell hfr hcl hcf hns₁ hk3;have st4:tn 0 h₁:=T.keep _ _ _ st2 λb hb o e=>hk3 b o (waa _ e);generalize hX':zca X N' scope cl (nL s2).objs.size { s2 with heap:=nL s2 } (upd H2 s2.heap.objs.size (.lst [])) fp=X' at J4;have eP:X'.prog=X.prog:=by rw[<- hX'];rfl
 have eW:X'.w=X.w:=by rw[<- hX'];rfl
 have eK:X'.K=X.K:=by rw[<- hX'];rfl
 have eA:X'.A=X.A:=by rw[<- hX'];rfl
 have eC:X'.calm=true:=by rw[<- hX'];exact hc
 have eE:X'.xe=λ_ _=>False:=by rw[<- hX'];rfl
 have ePn:X'.pn=[]:=by rw[<- hX'];rfl
 have eN:X'.N.length=X.N.length+m:=by rw[<- hX'];show N'.length=_;unfold zfp at hb;rw[Bool.and_eq_true] at hb;exact of_decide_eq_true hb.1
 have eEx:X'.ex=fp:=by rw[<- hX'];rfl
 have hlenσ:Y.length=X.N.length:=I2.len;obtain ⟨hg,hts,he⟩:=hblk (nL s2).objs.size { s2 with heap:=nL s2 } (upd H2 s2.heap.objs.size (.lst [])) fp I3 f3 (wal _);rw[hX'] at hg hts he;have stat:∀{H':Hp},(∀ b∈fp,H' b=none)->∀ b∈fp,zeE X' [] H' b:=λhn b hb=>by have q:=J4.ok.exf b (by rw[eEx];exact hb);exact ⟨hn b hb,q.1,J4.ok.exfs b (by rw[eEx];exact hb),.inl (by rw[eEx];exact hb),q.2,λp hp=>by rw[ePn] at hp;simp at hp⟩
 have loop:∀ s₃:Shared,s₃={ s2 with heap:=h₁,toks:=s2.toks+([]:List (Str×Value)).length } ->
   codeAny (model X.prog X.w) X.A (.compLoop (.ListComp elt [⟨tg,iter,ifs,0⟩] scope pos) 0 (.ref it) (.ref s2.heap.objs.size) X'.env) (RR (.ref s2.heap.objs.size) (nL s2).objs.size) s₃:=by
  rintro s₃ rfl;refine zjR (λk s'=>∃ i Y' H' vs,L2.Inv X' [] Y' H' s'/\tn i s'.heap/\(∀ b∈fp,H' b=none)/\k=n-i/\i<=n/\H' s2.heap.objs.size=some (.lst vs)/\W s2.heap.objs.size i Y' H' vs) ?_ n
   ⟨0,Y++List.replicate m none,_,[],J4,st4,λb hb=>(f3 b hb).1,xws,Nat.zero_le _,za1,w0 _ hD⟩
  rintro k s' ⟨i,Y',H',vs,J5,st5,fr5,rfl,hil,hd5,q5⟩;by_cases hlt:i<n
  ·obtain ⟨go,yl⟩:=hstep _ i Y' H' vs hD q5 hd5 hlt;have hIt:=T.item X' eP eW eK eC i [] s' Y' H' (λ_ _=>False) J5 (stat fr5) st5 go;rw[eA] at hIt;refine thn hIt λrr s6 ⟨u,hr,h6⟩=>?_;subst hr;refine thn h6 λ_ s7 ⟨x,H7,J7,rx7,y7,st7,fr7⟩=>?_;have q7:=yl x H7 y7;have J7':=J7.pinned (stat fr7) (T.obj _ _ st7);have hG:=hg ([]++zeM fp s7.heap) s7 Y' H7 x u _ J7' rx7 q7;rw[eP,eW,eA,eE] at hG;refine thn hG λ_ s8 ⟨Y8,H8,J8,q8⟩=>?_;have hT:=hts ([]++zeM fp s7.heap) s8 Y8 H8 _ J8 q8;rw[eP,eW,eA,eE] at hT;refine thn hT λok s9 ⟨H9,J9,q9⟩=>?_;have after:∀{σa:L2.St}{Ha:Hp}{sa:Shared},L2.Inv X' ([]++zeM fp s7.heap) σa Ha sa->tn (i+1) sa.heap/\∀ b∈fp,Ha b=none:=λ{σa Ha sa} Ja =>
    ⟨T.keep _ _ _ st7 λb hb o e=>(Ja.pin (b,o) (waz _ (waz _ (zdX hb e)))).1,λb hb=>by obtain ⟨o,e,_⟩:=T.obj _ _ st7 b hb;exact (Ja.pin (b,o) (waz _ (waz _ (zdX hb e)))).2.1⟩
   cases ok with
   |false =>
    rw[if_neg Bool.false_ne_true];rw[if_neg Bool.false_ne_true] at q9;obtain ⟨k1,k2⟩:=after J9;exact ⟨n-(i+1),xwl,i+1,Y8,H9,vs,J9.unpinned,k1,k2,rfl,hlt,q9.1,q9.2⟩
   |true =>
    rw[if_pos rfl];rw[if_pos rfl] at q9;have hEl:=he ([]++zeM fp s7.heap) s9 Y8 H9 _ J9 q9;rw[eP,eW,eA,eE] at hEl;refine thn hEl λxv s10 ⟨vy,H10,J10,ry,q10⟩=>?_;have hAp:=zgB (X:=X') ([]++zeM fp s7.heap) s10 Y8 H10 (.ref s2.heap.objs.size) [vy] (.ref s2.heap.objs.size) [xv] (λv H11=>H11=upd H10 s2.heap.objs.size (.lst (vs++[vy]))) J10 rfl (.cons ry .nil)
     ⟨s2.heap.objs.size,vs,vy,rfl,rfl,q10.1,q10.2.1,rfl⟩
    rw[eP,eW,eA,eE] at hAp;refine thn hAp λ_ s11 ⟨v11,H11,J11,_,e11⟩=>?_;subst e11;obtain ⟨k1,k2⟩:=after J11;exact ⟨n-(i+1),xwl,i+1,Y8,_,vs++[vy],J11.unpinned,k1,k2,rfl,hlt,za1,q10.2.2⟩
  ·have e:i=n:=by lia
   subst e;have hDn:=T.done X' eP eW eK eC i [] s' Y' H' (λ_ _=>False) J5 (stat fr5) st5 (hstop _ _ _ _ q5);rw[eA] at hDn;refine thn hDn λrr s6 ⟨hr,J6⟩=>?_;subst hr;have hl6:Y'.length=X.N.length+m:=by rw[J6.len,eN]
   obtain ⟨m6,hn6,_⟩:=id J6.loc;have eL:X'.env.locals=(nL s2).objs.size:=by rw[<- hX'];rfl
   rw[eL] at hn6;have frL:H' (nL s2).objs.size=none:=by rw[<- eL];exact J6.free
   rw[<- hX'] at J6;have IX:L2.Inv X pS Y H' s6:=zsr (h':=s6.heap) I3 f3 (wal _) J6 ⟨rfl,λ_ _=>rfl⟩;have hLs:∀ b o,(nL s2).get? b=some o->(nL s2).objs.size≠b:=λb o e z=>absurd (wai e) (by rw[z];exact waL _);have lo:zn2 X pS H' (nL s2).objs.size s6:=by
    refine ⟨frL,λz=>?_,.inr I3.sz,λx c e z=>?_,λp hp z=>?_,m6,hn6⟩
    ·exact absurd I3.lt (by rw[<- z];exact waL _)
    ·obtain ⟨v,q⟩:=I3.cell x c e;exact absurd q.lt (by rw[z];exact waL _)
    ·exact hLs p.1 p.2 (I3.pin p hp).1 z.symm
   exact fin _ _ s6 vs Y' H' IX lo hD hd5 hl6 q5
 have envEq:X'.env=compEnvC scope cl (nL s2).objs.size X.env:=by rw[<- hX'];rfl
 rw[envEq] at loop;exact codeAny_compStart_list (loop _ rfl) (T.self X.A 0 _ _ _ st4 (loop _ rfl))
theorem zqq{tg iter elt:Expr}{ifs:List Expr}{scope:Scope}{pos:Pos}{N':List Str}{m:Nat}{g:DG}{ft:DT}{fe:De}(hc:X.calm=true)(hb:zfp X.N N' scope.names m=true)
  (hkind:scope.kind=.function) (hcell:Hce scope) (hfr:Hfr X scope)
  (hblk:Hbk X C N' scope tg ifs elt g ft fe)
  {pS:List (Addr×Obj)} {Y:L2.St} {s2:Shared} {cl:List (Str×Addr)} {RR:Value->Addr->Result->Shared->Prop} {E:Value->Shared->Prop}
  (hcl:∀ x c,cl.lookup x=some c->X.env.cells.lookup x=some c) (hcf:∀ y∈scope.names,y.2=.free->∃ c,cl.lookup y.1=some c)
  {it:Addr} {fp:List Addr} {tn:Nat->Heap->Prop} {J:It} {H2:Hp} (I2:L2.Inv X pS Y H2 s2) (T:zqk X.prog X.w X.K tg J fp it tn) (st2:tn 0 s2.heap) (f2:∀ b∈fp,zeE X pS H2 b)
  {ds zs:List Dt} {Z1 ρf:Ev} {G1:Hp} {w1:Wn} (r1:Rel X.K C G1 w1 Z1 Y H2) (Ko:Ev->Prop) (k0:Ko (Z1++List.replicate m none)) (hko:∀ d Z Z3 b Z4,Ko Z->g d Z=.ok Z3->ft Z3=.ok (b,Z4)->Ko Z4/\∀ y Z5,fe Z4=.ok (y,Z5)->Ko Z5)
  (it1:∀ i Z' G' w' Y' H',Rel X.K (zfR C X.N.length G1 H2 w1 (Y++List.replicate m none)) G' w' Z' Y' H'->Ko Z'->(∀ d,ds[i]? = some d->J.go i H'/\∀ x H7,J.yld i H' x H7->∃ G7,zeF G' H' G7 H7/\Rep X.K G7 d x)/\(ds.length<=i->J.stop i H')) (hfi:fits ds=true) (ec:zd9 g ft fe ds (Z1++List.replicate m none)=.ok (zs,ρf))
  (fin:∀(D L:Addr)(s':Shared)(vs:List V)(G' H':Hp)(w':Wn),L2.Inv X pS Y H' s'->zn2 X pS H' L s'->zbj G1 H2 w1 G' H' w'->Rel X.K C G' w' (ρf.take Z1.length) Y H'->H2 D=none->H' D=some (.lst vs)->G' D=none->w' D=none->za2 X.K G' zs vs->RR (.ref D) L (.ok .next) s') :
  wpAny (model X.prog X.w) X.A (newList []) (λacc s₃=>wpAny (model X.prog X.w) X.A (newFunctionEnv scope X.env.globals cl [] X.env.qual none .none (some X.env)) (λcenv s₄ =>
   codeAny (model X.prog X.w) X.A (.compStart (.ListComp elt [⟨tg,iter,ifs,0⟩] scope pos) 0 (.ref it) acc { cenv with scope:=relabel scope X.env }) (RR acc cenv.locals) s₄) E s₃) E s2:=by
 generalize hC':zfR C X.N.length G1 H2 w1 (Y++List.replicate m none)=C' at it1;have c0:C'.H₀=H2:=by rw[<- hC'];rfl
 have hlenσ:Y.length=X.N.length:=I2.len;refine zlP (iter:=iter) (pos:=pos) (n:=ds.length) (tgt:=tG X.K C' g) (tts:=tT X.K C' ft) (te:=tE X.K C' fe) hc hb hkind hcell hfr (λL s H fp _ _ _=>by
  obtain ⟨a1,a2,a3⟩:=hblk cl L s H fp G1 H2 w1 (Y++List.replicate m none);rw[hC'] at a1 a2 a3;exact ⟨a1,a2,a3⟩) hcl hcf I2 T st2 f2
  (λD i Y' H' vs=>∃ Z' G' w' ac,Rel X.K C' G' w' Z' Y' H'/\G' D=none/\w' D=none/\za2 X.K G' ac vs/\ac.length<=i/\Ko Z'/\∃ z,zd9 g ft fe (ds.drop i) Z'=.ok z/\ac++z.1=zs/\z.2 = ρf) (λD hD=>?_) (λD i Y' H' vs hD ⟨Z',G',w',ac,r5,gd5,wd5,q5,hac,ko,z,ez,ez1,ez2⟩ hd5 hlt=>?_) (λD Y' H' vs ⟨Z',G',w',ac,r5,_,_,_,_,ko,_⟩=>(it1 _ _ _ _ _ _ r5 ko).2 (wal _)) λD L s' vs Y' H' IX lo hD hd5 hl6 ⟨Z',G',w',ac,r5,gd5,wd5,q5,hac,_,z,ez,ez1,ez2⟩=>?_
 ·have w0:w1 D=none:=by
   cases q:w1 D with
   |none=>rfl
   |some k=>exact absurd hD (r1.wh _ (by rw[q];simp))
  have base:Rel X.K C' G1 w1 (Z1++List.replicate m none) (Y++List.replicate m none) H2:=by
   refine ⟨r1.gh,r1.wg,r1.wh,by simp[r1.len],λi b e=>?_,by rw[<- hC'];exact .refl _ _ _,λi _=>by rw[<- hC'];rfl⟩;have hi':i < Z1.length:=by
    by_cases hi':i < Z1.length
    ·exact hi'
    ·rw[List.getElem?_append_right xwl,List.getElem?_replicate] at e;split at e <;> cases e
   rw[List.getElem?_append_left hi'] at e;obtain ⟨v,h1,h2⟩:=r1.sl i b e;exact ⟨v,by rw[List.getElem?_append_left (by rw[<- r1.len];exact hi')];exact h1,h2⟩
  exact ⟨Z1++List.replicate m none,G1,w1,[],base.upd_new (r1.gh.free hD) w0 (by rw[c0];exact hD),r1.gh.free hD,w0,za2.nil,Nat.zero_le _,k0,(zs,ρf),by simpa using ec,xws,rfl⟩
 ·have ed:ds.drop i=ds[i]::ds.drop (i+1):=List.drop_eq_getElem_cons hlt;obtain ⟨go,yl⟩:=(it1 i _ _ _ _ _ r5 ko).1 ds[i] (by simp[hlt]);refine ⟨go,λx H7 y7=>?_⟩;obtain ⟨G7,gr,rep7⟩:=yl x H7 y7;have keep7:=(gr.step (w:=w')).keep gd5 wd5 hd5;rw[ed] at ez;unfold zd9 at ez;obtain ⟨Z3,e3,ez⟩:=zcp ez;obtain ⟨t4,e4,ez⟩:=zcp ez;obtain ⟨b4,Z4⟩:=t4;obtain ⟨ko4,ko5⟩:=hko _ _ _ _ _ ko e3 e4;refine ⟨G7,w',Z',ds[i],r5.grow gr,rep7,?_⟩;rw[e3];intro Y8 G8 H8 w8 s8s r8;have keep8:=s8s.keep keep7.1 keep7.2.1 keep7.2.2;refine ⟨G8,w8,Z3,r8,?_⟩;rw[e4];intro G9 H9 w9 s9s r9;have keep9:=s9s.keep keep8.1 keep8.2.1 keep8.2.2;have sg9:=(gr.g.trans s8s.g).trans s9s.g;cases b4 with
  |false =>
   show (if false=true then _ else _);rw[if_neg Bool.false_ne_true];simp only[Bool.false_eq_true,if_false] at ez;exact ⟨keep9.2.2,Z4,G9,w9,ac,r9,keep9.1,keep9.2.1,q5.same sg9,xwl,ko4,z,ez,ez1,ez2⟩
  |true =>
   show (if true=true then _ else _);rw[if_pos rfl];simp only[if_true] at ez;obtain ⟨⟨yd,Z10⟩,e10,ez⟩:=zcp ez;obtain ⟨z',ez',ez3⟩:=zcp ez;refine ⟨G9,w9,Z4,r9,?_⟩;rw[e10];intro v G10 H10 w10 s10s r10 q10;have keep10:=s10s.keep keep9.1 keep9.2.1 keep9.2.2;cases ez3;refine ⟨keep10.2.2,?_,Z10,G10,w10,ac++[yd],r10.upd_new keep10.1 keep10.2.1 (by rw[c0];exact hD),keep10.1,keep10.2.1,(q5.same (sg9.trans s10s.g)).append (za2.cons q10 za2.nil),by simp;lia,ko5 _ _ e10,z',ez',by rw[<- ez1];simp,ez2⟩;have:=q5.length;have:=zi8 hfi;lia
 ·simp only[List.drop_length] at ez;unfold zd9 at ez;cases ez;simp only[List.append_nil] at ez1;subst ez1;subst ez2;have cG:C'.G₀=G1:=by rw[<- hC'];rfl
  have cw:C'.w₀=w1:=by rw[<- hC'];rfl
  have en':zbj G1 H2 w1 G' H' w':=by have:=r5.en;rw[cG,c0,cw] at this;exact this
  have hρlen:Z'.length=X.N.length+m:=by rw[r5.len,hl6]
  refine fin _ _ s' vs G' H' w' IX lo en' ⟨r5.gh,r5.wg,r5.wh,?_,λi b e=>?_,r1.en.trans en',r1.pin⟩ hD hd5 gd5 wd5 q5
  ·rw[List.length_take,hρlen,r1.len,hlenσ];lia
  ·have hi':i < Z1.length:=by
    by_cases hi':i < Z1.length
    ·exact hi'
    ·rw[List.getElem?_eq_none (by rw[List.length_take];lia)] at e;cases e
   rw[List.getElem?_take_of_lt hi'] at e;obtain ⟨v,h1,h2⟩:=r5.sl i b e;refine ⟨v,?_,h2⟩;have hpi:=r5.pin i (by rw[<- hC'];exact List.mem_range.mpr (by rw[<- hlenσ,<- r1.len];exact hi'));rw[h1] at hpi;rw[<- hC'] at hpi;have hpi':some (some v)=(Y++List.replicate m none)[i]? := hpi;rw[List.getElem?_append_left (by rw[<- r1.len];exact hi')] at hpi';exact hpi'.symm
theorem zjt{tg iter elt:Expr}{ifs:List Expr}{scope:Scope}{pos:Pos}{N':List Str}{m:Nat}{g:DG}{ft:DT}{fe:De}(hc:X.calm=true)(hb:zfp X.N N' scope.names m=true)
  (hkind:scope.kind=.function) (hcell:Hce scope) (hfr:Hfr X scope)
  (hblk:Hbk X C N' scope tg ifs elt g ft fe)
  {pS:List (Addr×Obj)} {Y:L2.St} {s2:Shared} {cl:List (Str×Addr)} {RR:Value->Addr->Result->Shared->Prop} {E:Value->Shared->Prop}
  (hcl:∀ x c,cl.lookup x=some c->X.env.cells.lookup x=some c) (hcf:∀ y∈scope.names,y.2=.free->∃ c,cl.lookup y.1=some c)
  {it:Addr} {fp:List Addr} {tn:Nat->Heap->Prop} {J:It} {H2:Hp} (I2:L2.Inv X pS Y H2 s2) (T:zqk X.prog X.w X.K tg J fp it tn) (st2:tn 0 s2.heap) (f2:∀ b∈fp,zeE X pS H2 b)
  {ds zs:List Dt} {Z1 ρf:Ev} {G1:Hp} {w1:Wn} (r1:Rel X.K C G1 w1 Z1 Y H2) (it1:zoZ X.K J G1 ds) (hfi:fits ds=true) (ec:zd9 g ft fe ds (Z1++List.replicate m none)=.ok (zs,ρf))
  (fin:∀(D L:Addr)(s':Shared)(vs:List V)(G' H':Hp)(w':Wn),L2.Inv X pS Y H' s'->zn2 X pS H' L s'->zbj G1 H2 w1 G' H' w'->Rel X.K C G' w' (ρf.take Z1.length) Y H'->H2 D=none->H' D=some (.lst vs)->G' D=none->w' D=none->za2 X.K G' zs vs->RR (.ref D) L (.ok .next) s') :
  wpAny (model X.prog X.w) X.A (newList []) (λacc s₃=>wpAny (model X.prog X.w) X.A (newFunctionEnv scope X.env.globals cl [] X.env.qual none .none (some X.env)) (λcenv s₄ =>
   codeAny (model X.prog X.w) X.A (.compStart (.ListComp elt [⟨tg,iter,ifs,0⟩] scope pos) 0 (.ref it) acc { cenv with scope:=relabel scope X.env }) (RR acc cenv.locals) s₄) E s₃) E s2 :=
 zqq hc hb hkind hcell hfr hblk hcl hcf I2 T st2 f2 r1 (λ_=>True) trivial (λ_ _ _ _ _ _ _ _=>⟨trivial,λ_ _ _=>trivial⟩) (λi Z' G' w' Y' H' r _=>it1 i G' H' r.en.g r.gh) hfi ec fin
theorem zi2{tg iter elt:Expr}{ifs:List Expr}{scope:Scope}{pos:Pos}{N':List Str}{m:Nat}{fi:DA}{g:DG}{ft:DT}{fe:De}(hi:JI X C tg iter fi)(hc:X.calm=true)(hb:zfp X.N N' scope.names m=true)
  (hkind:scope.kind=.function) (hcell:Hce scope) (hfr:Hfr X scope) (hnames:Hnm scope)
  (hblk:Hbk X C N' scope tg ifs elt g ft fe)
  (hs:∀ x,foldedSetIterable iter X.env x=pure x:=by intro _;rfl):JN X C (.ListComp elt [⟨tg,iter,ifs,0⟩] scope pos) (zbQ fi g ft fe m):=by
 intro pS s Y H Q I ⟨G,w,Z,r,p⟩;rw[eval_ListComp];obtain ⟨cl,hclos,hcl,hcf⟩:=zf5 (scope:=scope) (env:=X.env) λy hy hf=>I.ok.has y.1 (hfr y hy hf);refine wpAny_comprehension_free (use:=none) rfl hs hclos hkind hnames ?_;refine thn (hi pS s Y H (λJ H2=>∃ ds Z1 G1 w1 zs ρf,Rel X.K C G1 w1 Z1 Y H2/\zoZ X.K J G1 ds/\fits ds=true/\zd9 g ft fe ds (Z1++List.replicate m none)=.ok (zs,ρf)/\kN X.K C Y Q G1 H2 w1 (zs,ρf.take Z1.length)) I ?_) λv s1 h1=>thn h1 λitv s2 h2=>?_
 ·refine zws (κ:=λG H w=>kN X.K C Y Q G H w) zfI r p λds Z1 J G1 H1 w1 r1 st1 it1 p1=>?_;dsimp only at p1;split at p1
  ·rename_i hfi;split at p1
   ·rename_i z ez;exact ⟨ds,Z1,G1,w1,z.1,z.2,r1,it1,hfi,ez,p1⟩
   ·exact p1.elim
  ·exact p1.elim
 obtain ⟨it,fp,tn,J,H2,rfl,I2,T,st2,f2,ds,Z1,G1,w1,zs,ρf,r1,it1,hfi,ec,kk⟩:=h2;refine zjt (RR:=λacc C=>compPost (model X.prog X.w) X.A X.xe none (EP X pS Y Q) acc C) hc hb hkind hcell hfr hblk hcl hcf I2 T st2 f2 r1 it1 hfi ec λD L s' vs G' H' w' I' lo st rel h0 h1 h2 h3 q=>?_;obtain ⟨mm,hn⟩:=lo.ns;refine ⟨mm,hn,λh' hsb=>⟨.ref D,H',?_,rfl,kk D vs G' H' w' st rel h0 h1 h2 h3 q⟩⟩;exact I'.turned (t':=s'.toks) (λb o hb e=>(hsb.2 b hb).trans e) lo.fr lo.nl lo.nw lo.nc lo.np
theorem zq3{tg iter elt:Expr}{ifs:List Expr}{scope:Scope}{pos spos:Pos}{N':List Str}{m i:Nat}{x:Str}{px:Pos}{fi:DA}{g:DG}{ft:DT}{fe:De}{fs:List Dt×Ev->R (Fl×Ev)}(hi:JI X C tg iter fi)(hc:X.calm=true)(hb:zfp X.N N' scope.names m=true)
  (hkind:scope.kind=.function) (hcell:Hce scope) (hfr:Hfr X scope) (hnames:Hnm scope)
  (hblk:Hbk X C N' scope tg ifs elt g ft fe)
  (hN:X.N.Nodup) (hix:X.N[i]? = some x) (hx:Loc X.env.scope x) (hsw:swapsWith (.ListComp elt [⟨tg,iter,ifs,0⟩] scope pos) (some (.Name x px)) spos.line X.env=pure true) (hf:X.fn x=true\/X.env.scope.names.lookup x=some .local)
  (hfs:∀(D:zrG)(G1 H2 G' H':Hp)(w1 w':Wn)(Y:L2.St)(p:Addr)(zs:List Dt)(vs:List V)(ρf:Ev),zbV C.ex (kS X.K C D G1 H2 w1) (fs (zs,ρf))->zbj G1 H2 w1 G' H' w'->Rel X.K C G' w' ρf Y H'->H2 p=none->H' p=some (.lst vs)->G' p=none->w' p=none->za2 X.K G' zs vs->C.H₀ p=none->D.nx (Y.set i (some (.ref p))) H')
  (hs:∀ x,foldedSetIterable iter X.env x=pure x:=by intro _;rfl):JS X C (.Assign [.Name x px] (.ListComp elt [⟨tg,iter,ifs,0⟩] scope pos) spos) (λZ=>(zbQ fi g ft fe m Z).bind fs):=by
 intro pS s Y H D I ⟨G,w,Z,r,p⟩;obtain ⟨cl,hclos,hcl,hcf⟩:=zf5 (scope:=scope) (env:=X.env) λy hy hf=>I.ok.has y.1 (hfr y hy hf);rw[exec_Assign_Name_used _ _ _ _ hsw];refine wab (wpAny_standAt (wab ?_));show wpAny _ X.A (do let _ <- comprehension (.ListComp elt [⟨tg,iter,ifs,0⟩] scope pos) scope X.env _ (newList []) false (eval iter X.env) (some (assign (.Name x px) X.env))) _ _ s;refine wab (wpAny_mono (wpAny_comprehension_free (use:=some (assign (.Name x px) X.env)) (Q:=λ_ s'=>SP X pS D .next s') rfl hs hclos hkind hnames ?_) (λ_ s' hq=>wad (wad hq)) λ_ _ e=>e);refine thn (hi pS s Y H (λJ H2=>∃ ds Z1 G1 w1 zs ρf,Rel X.K C G1 w1 Z1 Y H2/\zoZ X.K J G1 ds/\fits ds=true/\zd9 g ft fe ds (Z1++List.replicate m none)=.ok (zs,ρf)/\zbV C.ex (kS X.K C D G1 H2 w1) (fs (zs,ρf.take Z1.length))) I ?_) λv s1 h1=>thn h1 λitv s2 h2=>?_
 ·have p':zbV C.ex (kS X.K C D G H w) ((fi Z).bind λa=>((if fits a.1=true then match zd9 g ft fe a.1 (a.2++List.replicate m none) with
   |.ok z=>.ok (z.1,z.2.take a.2.length)
   |_=>.no
   else .no:R (List Dt×Ev))).bind fs):=by
   rw[<- R.bind_assoc];exact p
  refine zws (κ:=λG H w=>kS X.K C D G H w) zdw r p' λds Z1 J G1 H1 w1 r1 st1 it1 p1=>?_;dsimp only at p1;split at p1
  ·rename_i hfi;split at p1
   ·rename_i z ez;exact ⟨ds,Z1,G1,w1,z.1,z.2,r1,it1,hfi,ez,p1⟩
   ·exact waO p1
  ·exact waO p1
 obtain ⟨it,fp,tn,J,H2,rfl,I2,T,st2,f2,ds,Z1,G1,w1,zs,ρf,r1,it1,hfi,ec,kk⟩:=h2;refine zjt (RR:=λacc C=>compPost (model X.prog X.w) X.A X.xe (some (assign (.Name x px) X.env)) (λ_ s'=>SP X pS D .next s') acc C) hc hb hkind hcell hfr hblk hcl hcf I2 T st2 f2 r1 it1 hfi ec λDa L s' vs G' H' w' I' lo st rel h0 h1 h2 h3 q=>?_;show wpAny _ X.A (assign (.Name x px) X.env (.ref Da)) _ _ _;refine wpAny_assign_Name (zhf I' hN hix hx (v:=.ref Da) rfl (λs'' I'' hch=>?_) hf);obtain ⟨mm,hn⟩:=lo.ns;obtain ⟨a,sb,ha⟩:=hch;have hLa:L≠a:=by
  rcases ha with z|z
  ·rw[z];exact lo.nl
  ·exact λy=>lo.nc x a z y.symm
 refine ⟨mm,hn.sameBut sb hLa,λh' hsb=>⟨Y.set i (some (.ref Da)),H',?_,hfs D G1 H2 G' H' w1 w' Y Da zs vs _ kk st rel h0 h1 h2 h3 q (r1.en.k Da h0)⟩⟩;exact I''.turned (t':=s''.toks) (λb o hb e=>(hsb.2 b hb).trans e) lo.fr lo.nl lo.nw lo.nc lo.np
theorem zdU{tg iter elt:Expr}{ifs:List Expr}{scope:Scope}{pos spos:Pos}{N':List Str}{m i:Nat}{x:Str}{px:Pos}{fi:DA}{g:DG}{ft:DT}{fe:De}(hN:X.N.Nodup)(hix:X.N[i]? = some x)(hx:Loc X.env.scope x)(hp:i∉C.pp)(hi:JI X C tg iter fi)(hc:X.calm=true)(hb:zfp X.N N' scope.names m=true)
  (hkind:scope.kind=.function) (hcell:Hce scope) (hfr:Hfr X scope) (hnames:Hnm scope)
  (hblk:Hbk X C N' scope tg ifs elt g ft fe)
  (hsw:swapsWith (.ListComp elt [⟨tg,iter,ifs,0⟩] scope pos) (some (.Name x px)) spos.line X.env=pure true:=by rfl) (hf:X.fn x=true\/X.env.scope.names.lookup x=some .local:=by exact xwA)
  (hs:∀ x,foldedSetIterable iter X.env x=pure x:=by intro _;rfl):JS X C (.Assign [.Name x px] (.ListComp elt [⟨tg,iter,ifs,0⟩] scope pos) spos) (zbo i (dFz (zbQ fi g ft fe m))):=by
 have h:=zq3 (fs:=λa=>if i<a.2.length then .ok (.nx,a.2.set i (some (.val (.lst a.1)))) else .no) hi hc hb hkind hcell hfr hnames hblk hN hix hx hsw hf (λD G1 H2 G' H' w1 w' Y p zs vs ρf po st rel h0 h1 h2 h3 q h4=>?_) hs
 ·refine PS.weak h λD Y H t=>?_;obtain ⟨G,w,Z,r,p⟩:=t;refine ⟨G,w,Z,r,?_⟩;unfold zbo dFz at p;rw[R.bind_assoc] at p;exact p
 ·by_cases hl:i < ρf.length
  ·simp only[hl,if_true] at po;obtain ⟨r',s'⟩:=rel.know h1 h2 h3 H2 G1 w1 st h0 (.inl h4);have sg:zcz G' (upd G' p (.lst vs)):=λb u e=>by rw[zar (zaq e h2)];exact e
   exact po _ _ _ _ s' (r'.setVal hl hp (by unfold Rep;exact ⟨p,vs,rfl,za1,q.same sg⟩))
  ·simp only[hl,if_false] at po;exact waO po
end
section
variable{X:Cx}{C:Cn}{a b c e:Expr}{fa fb fc:De}{pos:Pos}
theorem zmy{r r':R2}{g g':Dt->Dt->R Dt}{Y:L2.St}{H:Hp}{Q:VK}(h2:Op2 X.K r g)(he:zix g)(h2':Op2 X.K r' g')(he':zix g')(h:tE X.K C (zjv g g' fa fb fc) Y H Q):zrM r r' (tE X.K C fa) (tE X.K C fb) (tE X.K C fc) Y H Q:=by
 obtain ⟨G,w,Z,rr,p⟩:=h;refine zee (κ:=λG H w=>kE X.K C Y Q G H w) zbU rr p λd Z1 v G1 H1 w1 r1 s1 q1 p1=>?_;refine zee (κ:=λG H w=>kE X.K C Y Q G H w) zbU r1 p1 λd2 Z2 v2 G2 H2 w2 r2 s2 q2 p2=>?_;dsimp only at p2;cases e:g d d2 with
 |ok z =>
  simp only[e,R.bind_ok] at p2;refine h2 G2 H2 v v2 d d2 z _ r2.gh (q1.same s2.g) q2 e λv3 G3 H3 gr q3=>?_;have p3:=zbV.step (κ:=λG H w=>kE X.K C Y Q G H w) zbU gr.step (w1:=w2) p2;have r3:=r2.grow gr;cases z with
  |bl k =>
   refine ⟨k,zds q3,?_⟩;cases k with
   |false=>exact iteF (p3 _ G3 H3 w2 (.refl _ _ _) r3 (zdy _))
   |true =>
    refine iteT ?_;refine zee (κ:=λG H w=>kE X.K C Y Q G H w) zbU r3 p3 λd4 Z4 v4 G4 H4 w4 r4 s4 q4 p4=>?_;dsimp only at p4;cases e':g' d2 d4 with
    |ok z' =>
     simp only[e',R.bind_ok] at p4;exact h2' G4 H4 v2 v4 d2 d4 z' Q r4.gh ((q2.same gr.g).same s4.g) q4 e' λv5 G5 H5 gr5 q5=>p4 v5 G5 H5 w4 gr5.step (r4.grow gr5) q5
    |er n=>exact absurd e' (he' _ _ _)
    |no=>simp only[e',R.bind_no] at p4;exact p4.elim
  |_=>exact waO p3
 |er n=>exact absurd e (he _ _ _)
 |no=>simp only[e,R.bind_no] at p2;exact p2.elim
theorem zrg{op op':CmpOp}{r r':R2}{g g':Dt->Dt->R Dt}(ho:OpR X (compareOp op) r)(h2:Op2 X.K r g)(hn:zix g)(ho':OpR X (compareOp op') r')(h2':Op2 X.K r' g')(hn':zix g')(ha:JE X C a fa)(hb:JE X C b fb)(hc:JE X C c fc)
  (hm:lastMarks [op,op'] [b,c]=false:=by with_unfolding_all rfl):JE X C (.Compare a [op,op'] [b,c] pos) (zjv g g' fa fb fc):=PE.weak (zqy ho ho' ha hb hc hm) λY H Q h=>zmy h2 hn h2' hn' h
def kO(K:W.Frag)(C:Cn)(Y:L2.St)(Q:Option Int->Hp->Prop)(G H:Hp)(w:Wn)(a:Option Int×Ev):Prop :=
 ∀ G' H' w',zbj G H w G' H' w'->Rel K C G' w' a.2 Y H'->Q a.1 H'
abbrev DO:=Ev->R (Option Int×Ev)
def tOd(K:W.Frag)(C:Cn)(f:DO):TO:=λY H Q=>∃ G w Z,Rel K C G w Z Y H/\zbV C.ex (kO K C Y Q G H w) (f Z)
abbrev JO(X:Cx)(C:Cn)(e:Option Expr)(f:DO):Prop:=PO X e (tOd X.K C f)
theorem PO.weak{e:Option Expr}{t t':TO}(h:PO X e t)(k:∀ Y H Q,t' Y H Q->t Y H Q):PO X e t':=λpS s Y H Q I q=>h pS s Y H Q I (k Y H Q q)
def dO0:DO:=λZ=>.ok (none,Z)
def dO1(fa:De):DO:=λZ=>(fa Z).bind λa=>match a.1 with
 |.int i=>.ok (some i,a.2)
 |_=>.no
theorem zwL{K:W.Frag}{Y:L2.St}{Q:Option Int->Hp->Prop}:Stp (λG H w=>kO K C Y Q G H w):=λ_ _ _ _ _ _ _ s k G' H' w' s'=>k G' H' w' (s.trans s')
theorem ziB:JO X C none dO0:=PO.weak zuj λY H Q ⟨G,w,Z,r,p⟩=>p G H w (.refl _ _ _) r
theorem zi6(h:JE X C a fa):JO X C (some a) (dO1 fa):=PO.weak (ztm h) λY H Q ⟨G,w,Z,r,p⟩=>by
 refine zee (κ:=λG H w=>kO X.K C Y Q G H w) zwL r p λd Z1 v G1 H1 w1 r1 s1 q1 p1=>?_;cases d with
 |int i=>exact ⟨i,za3 q1,p1 G1 H1 w1 (.refl _ _ _) r1⟩
 |_=>exact p1.elim
theorem seqO{K:W.Frag}{Y:L2.St}{α:Type}{κ:zpA α}(st:Stp κ){G H:Hp}{w:Wn}{Z:Ev}{fa:DO}{g:Option Int×Ev->R α}{Q:Option Int->Hp->Prop}(r:Rel K C G w Z Y H)(p:zbV C.ex (κ G H w) ((fa Z).bind g))
  (k:∀ o Z1 G1 H1 w1,Rel K C G1 w1 Z1 Y H1->zbj G H w G1 H1 w1->zbV C.ex (κ G1 H1 w1) (g (o,Z1))->Q o H1):tOd K C fa Y H Q:=by
 refine ⟨G,w,Z,r,?_⟩;cases e:fa Z with
 |ok a =>
  rw[e] at p;intro G' H' w' s' r';exact k a.1 a.2 G' H' w' r' s' (zbV.step st s' p)
 |er n=>rw[e] at p;exact p
 |no=>rw[e] at p;exact p
def zme{α:Type}(xs:List α)(lo hi:Option Int):List α:=(xs.drop (HT.sIx xs.length 0 lo)).take (HT.sIx xs.length xs.length hi-HT.sIx xs.length 0 lo)
theorem zpv{K:W.Frag}{G:Hp}{ds:List Dt}{vs:List V}(h:za2 K G ds vs)(lo hi:Option Int):za2 K G (zme ds lo hi) (ztA vs lo hi):=by unfold zme ztA;rw[<- h.length];exact (h.drop _).take _
def zne(fa:De)(fl fh:DO):DN:=λZ=>(fa Z).bind λa=>(fl a.2).bind λl=>(fh l.2).bind λh=>match a.1 with
 |.lst ds=>.ok (zme ds l.1 h.1,h.2)
 |_=>.no
theorem zg6{K:W.Frag}{Y:L2.St}{G H:Hp}{w:Wn}{Z:Ev}{p:Addr}(r:Rel K C G w Z Y H)(hp:H p=none):w p=none:=by
 cases z:w p with
 |none=>rfl
 |some k=>exact absurd hp (r.wh p (by rw[z];simp))
theorem zlN{lo hi:Option Expr}{fl fh:DO}{p2:Pos}(ha:JE X C a fa)(hl:JO X C lo fl)(hh:JO X C hi fh):JN X C (.Subscript a (.Slice lo hi none p2) pos) (zne fa fl fh) :=
 PE.weak (zpt ztD ha hl hh) λY H Q ⟨G,w,Z,r,p⟩=>by
  refine zee (κ:=λG H w=>kN X.K C Y Q G H w) zfI r p λd Z1 v G1 H1 w1 r1 s1 q1 p1=>?_;refine seqO (κ:=λG H w=>kN X.K C Y Q G H w) zfI r1 p1 λl Z2 G2 H2 w2 r2 s2 p2=>?_;refine seqO (κ:=λG H w=>kN X.K C Y Q G H w) zfI r2 p2 λh Z3 G3 H3 w3 r3 s3 p3=>?_;cases d with
  |lst ds =>
   obtain ⟨ad,vs,rfl,h1,h2⟩:=zaK (q1.same (s2.g.trans s3.g));refine ⟨ad,vs,rfl,SqL.of (r3.gh _ _ h1),λp hp=>?_⟩;have gr:zeF G3 H3 G3 (upd H3 p (.lst (ztA vs l h))):=.newH r3.gh hp;exact p3 p _ G3 _ w3 gr.step (r3.grow gr) hp za1 (r3.gh.free hp) (zg6 r3 hp) (zpv h2 l h)
  |_=>exact p3.elim
def zm5(fa:De):DN:=λZ=>(fa Z).bind λa=>match a.1 with
 |.lst ds=>.ok (ds.reverse,a.2)
 |_=>.no
end
structure Dfn(nw:Bool)(P:Program)(w:World)(K:W.Frag)(mg:Str->Option Value)(base:Heap)(CX:CXT)(xv:Nat->Value)(k:Nat)(x:Str)(ks:List Bool)(F:FD):Prop where
 ex:∃(f:Addr)(fd:FuncData)(ps:List Str),zf7 P w K mg base CX k f fd ps (znj nw K xv ks F)/\mg x=some (.ref f)/\W.keepIn K (.ref f)=true/\zgy K fd ps []/\∀ bs,F bs≠.no->zcc bs=ks
theorem Dfn.mono{nw:Bool}{P:Program}{w:World}{K:W.Frag}{mg:Str->Option Value}{base:Heap}{CX:CXT}{xv:Nat->Value}{k k':Nat}{x:Str}{ks:List Bool}{F:FD}(D:Dfn nw P w K mg base CX xv k x ks F)(h:k<=k'):Dfn nw P w K mg base CX xv k' x ks F:=by obtain ⟨f,fd,ps,h1,h2⟩:=D.ex;exact ⟨f,fd,ps,h1.mono h,h2⟩
section
variable{X:Cx}{C:Cn}{CX:CXT}{k k':Nat}{ks:List Bool}{Fd:FD}{x:Str}{p pos:Pos}{e:Expr}{es:List Expr}{far:DAr}
theorem zaH(D:Dfn false X.prog X.w X.K X.mg X.base CX C.xv k x ks Fd)(hr:zew k' X.A)(hk:k<=k')(hx:zd6 CX X (EXc C))(ha:JAr X C (e::es) far)(hg:Gl X x:=by rfl)(hdb:(x == ("__debug__" : Str))=false:=by decide)(he:starEach (e::es) X.env=(false,eval e X.env)::starEach es X.env:=by rfl)
  (hpl:(backTo pos (starEach es X.env)).any (·.1)=false:=by rfl):JE X C (.Call (.Name x p) (e::es) [] pos) (zag Fd far):=by
 obtain ⟨f,fd,ps,h1,h2,h3,h4,h5⟩:=D.ex;exact zsQ h1 (hr.mono hk) hg h2 h3 h4 hx h5 ha hdb he hpl
end
section
variable{X:Cx}{C:Cn}{CX:CXT}{k k':Nat}{ks:List Bool}{Fd:FD}{x:Str}{p pos:Pos}{e:Expr}{es:List Expr}{far:DAr}
theorem zmI(D:Dfn true X.prog X.w X.K X.mg X.base CX C.xv k x ks Fd)(hr:zew k' X.A)(hk:k<=k')(hx:zd6 CX X (EXc C))(ha:JAr X C (e::es) far)(hg:Gl X x:=by rfl)(hdb:(x == ("__debug__" : Str))=false:=by decide)(he:starEach (e::es) X.env=(false,eval e X.env)::starEach es X.env:=by rfl)
  (hpl:(backTo pos (starEach es X.env)).any (·.1)=false:=by rfl):JN X C (.Call (.Name x p) (e::es) [] pos) (zb1 Fd far):=by
 obtain ⟨f,fd,ps,h1,h2,h3,h4,h5⟩:=D.ex;exact zs7 h1 (hr.mono hk) hg h2 h3 h4 hx h5 ha hdb he hpl
end
def dNo:DS:=λ_=>.no
theorem zhY{X:Cx}{C:Cn}{st:Stmt}:JS X C st dNo:=λ_ _ _ _ _ _ ⟨_,_,_,_,p⟩=>p.elim
section
variable{X:Cx}{C:Cn}{a b c e:Expr}{fa fb fc:De}{pos:Pos}
def zs9(fa fb:De):DN:=λZ=>(fa Z).bind λa=>(fb a.2).bind λb=>match a.1,b.1 with
 |.lst x,.lst y=>if x.length+y.length<=16777216 then .ok (x++y,b.2) else .no
 |_,_=>.no
theorem zr7(ha:JE X C a fa)(hb:JE X C b fb):JN X C (.BinOp a .Add b pos) (zs9 fa fb):=PE.weak (zvc zvl ha hb) λY H Q ⟨G,w,Z,r,p⟩=>by
 refine zee (κ:=λG H w=>kN X.K C Y Q G H w) zfI r p λd Z1 v G1 H1 w1 r1 s1 q1 p1=>?_;refine zee (κ:=λG H w=>kN X.K C Y Q G H w) zfI r1 p1 λd2 Z2 v2 G2 H2 w2 r2 s2 q2 p2=>?_;dsimp only at p2;split at p2
 ·rename_i x y;split at p2
  ·rename_i hl;obtain ⟨ad,vs,rfl,h1,h2⟩:=zaK (q1.same s2.g);obtain ⟨bd,us,rfl,h3,h4⟩:=zaK q2;refine ⟨ad,bd,vs,us,rfl,rfl,r2.gh _ _ h1,r2.gh _ _ h3,by rw[<- h2.length,<- h4.length,zcF];exact hl,λp hp=>?_⟩;have gr:zeF G2 H2 G2 (upd H2 p (.lst (vs++us))):=.newH r2.gh hp;exact p2 p _ G2 _ w2 gr.step (r2.grow gr) hp za1 (r2.gh.free hp) (zg6 r2 hp) (h2.append h4)
  ·exact p2.elim
 ·exact p2.elim
def zwZ(ta:TA):TE:=λY H Q=>ta Y H λvs H1=>∃ j:Int,vs=[.int j]/\∀ p,H1 p=none->Q (.ref p) (upd H1 p (.rng 0 j))
theorem zu5{p:Pos}{ta:TA}(hg:Gl X "range")(hm:X.mg "range"=none)(ha:PA X [e] ta)(hs:starEach [e] X.env=[(false,eval e X.env)]:=by rfl):PE X (.Call (.Name "range" p) [e] [] pos) (zwZ ta):=by intro pS s Y H Q I h;refine PyProof.Rows.Call_ (zdq I hg hm PyProof.Rows.boot_range (PyProof.Rows.callWith_type1 (thn (ha pos pS s Y H _ I h) λus s1 ⟨vs,H1,I1,r1,q1⟩=>?_) hs rfl));obtain ⟨j,e1,q⟩:=q1;subst e1;obtain ⟨u,rfl,t,rfl⟩:=zcG r1;exact call_range_1 ⟨.ref s1.heap.objs.size,_,I1.laid (o:=.rng 0 j) (λb u e=>waa _ e) (wal _) ⟨_,_,_,waj _ rfl⟩,rfl,q _ (I1.hok.fresh (wal _))⟩
theorem zh5{lo:Int}:∀(n:Nat)(acc:List Value),acc.length=n->(∀(j:Nat) v,acc[j]? = some v->∃ t,v=Value.int (lo+j) t)->zaR ((List.range n).map λk=>V.int (lo+(k:Nat))) acc
 |0,[],_,_=>.nil
 |0,_::_,h,_=>by simp at h
 |n+1,[],h,_=>by simp at h
 |n+1,v::r,h,hv=>by
  rw[List.range_succ_eq_map,List.map_cons,List.map_map];obtain ⟨t,ht⟩:=hv 0 v rfl;refine .cons ⟨t,by simpa using ht⟩ ?_;have:=zh5 (lo:=lo+1) n r (by simpa using h) λj v' e=>by obtain ⟨t',ht'⟩:=hv (j+1) v' (by simpa using e);refine ⟨t',ht'.trans ?_⟩;congr 1;lia
  have e:(λk=>V.int (lo+1+(k:Nat)))=((λk:Nat=>V.int (lo+(k:Nat))) ∘ Nat.succ):=by funext k;show V.int _=V.int _;congr 1;simp only[Nat.succ_eq_add_one];lia
  rw[e] at this;exact this
theorem ziJ(hc:X.calm=true):zcd X (.type "list") (λxs H Q=>∃(p:Addr)(j:Int),xs=[.ref p]/\H p=some (.rng 0 j)/\0<=j/\j<=16777216/\∀ l,H l=none->Q (.ref l) (upd H l (.lst ((List.range j.toNat).map λk=>V.int (0+(k:Nat)))))):=by
 intro pS s Y H xs us Q I r h;obtain ⟨p,j,rfl,hp,j0,j1,q⟩:=h;obtain ⟨u,rfl,ru⟩:=zcG r;cases ru;obtain ⟨t,u,v,e⟩:=(show zcE X.prog X.w H s.heap p (.rng 0 j) from I.hok p _ hp)
 refine call_list_range (n:=j.toNat) (I.ok.hd hc) e (small_one xwl xwl xwl xwl) (by rw[rangeSize_one];split <;> lia) xwl λh' tk acc' c' hk hS hacc=>?_;refine ⟨.ref s.heap.objs.size,_,I.laid (t':=tk) hk (wal _) (o:=.lst ((List.range j.toNat).map λk=>V.int (0+(k:Nat)))) ⟨?_,acc'.toList,c',?_,by simpa using hS⟩,rfl,q _ (I.hok.fresh (wal _))⟩
 ·rw[List.length_map,List.length_range,zcF];lia
 ·refine zh5 j.toNat acc'.toList (by rw[Array.length_toList];exact hacc.1) λi v' ev=>?_;obtain ⟨t',ht'⟩:=hacc.2 i v' (by simpa using ev);exact ⟨t',by rw[ht',Int.mul_one]⟩
def zi9(fa:De):DN:=λZ=>(fa Z).bind λa=>match a.1 with
 |.int j=>if 0<=j/\j<=16777216 then .ok (zdl 0 j.toNat,a.2) else .no
 |_=>.no
theorem zhN{K:W.Frag}{G:Hp}{lo:Int}:∀(l:List Nat),za2 K G (l.map λk=>.int (lo+(k:Nat))) (l.map λk=>V.int (lo+(k:Nat)))
 |[]=>za2.nil
 |k::r=>za2.cons (zaz _) (zhN r)
theorem zkY{p1 p2 pos2:Pos}(hc:X.calm=true)(hg:Gl X "list")(hm:X.mg "list"=none)(hg2:Gl X "range")(hm2:X.mg "range"=none)(ha:JE X C e fa)(hs:starEach [e] X.env=[(false,eval e X.env)]:=by rfl)
  (hs2:starEach [.Call (.Name "range" p2) [e] [] pos2] X.env=(false,eval (.Call (.Name "range" p2) [e] [] pos2) X.env)::starEach [] X.env:=by rfl) (hpl:(backTo pos (starEach [] X.env)).any (·.1)=false:=by rfl) :
  JN X C (.Call (.Name "list" p1) [.Call (.Name "range" p2) [e] [] pos2] [] pos) (zi9 fa) :=
 PE.weak (zgN (ziJ hc) hg hm PyProof.Rows.boot_list (zbE (zu5 hg2 hm2 (zax ha zaC (by rw[hs];rfl)) hs) zdH hs2) xwd xwd hs2 hpl) λY H Q ⟨G,w,Z,r,p⟩=>by
  unfold zi9 at p;refine ⟨G,w,Z,r,?_⟩;unfold dA dA0;cases e:fa Z with
  |ok x =>
   obtain ⟨d,Z1⟩:=x;rw[e] at p;intro vs G1 H1 w1 s1 r1 q;obtain ⟨v,t,rfl,q1,q2⟩:=q.cons_inv;rw[q2.nil_inv];have p1:=zbV.step (κ:=λG H w=>kN X.K C Y Q G H w) zfI s1 p;cases d with
   |int j =>
    refine ⟨j,by rw[za3 q1],λp hp=>?_⟩;have p1:zbV C.ex (kN X.K C Y Q G1 H1 w1) (if 0<=j/\j<=16777216 then .ok (zdl 0 j.toNat,Z1) else .no):=p1;by_cases hj:0<=j/\j<=16777216
    ·rw[if_pos hj] at p1;refine ⟨p,j,rfl,za1,hj.1,hj.2,λl hl=>?_⟩;have gr:zeF G1 H1 G1 (upd H1 p (.rng 0 j)):=.newH r1.gh hp;have r2:=r1.grow gr;have gr2:zeF G1 (upd H1 p (.rng 0 j)) G1 (upd (upd H1 p (.rng 0 j)) l (.lst ((List.range j.toNat).map λk=>V.int (0+(k:Nat))))):=.newH r2.gh hl;have hl1:H1 l=none:=gr.h.free hl;exact p1 l _ G1 _ w1 (gr.step.trans gr2.step) (r2.grow gr2) hl1 za1 (r1.gh.free hl1) (zg6 r1 hl1) (zhN _)
    ·rw[if_neg hj] at p1;exact p1.elim
   |_=>exact waO p1
  |er n=>rw[e] at p;exact p
  |no=>rw[e] at p;exact p
end
section
variable{X:Cx}{C:Cn}{a b c e:Expr}{fa fb fc:De}{pos:Pos}
def zsY(a:Int):List Int->List Int
 |[]=>[a]
 |b::r=>if a<=b then a::b::r else b::zsY a r
def zaT:List Int->List Int
 |[]=>[]
 |a::r=>zsY a (zaT r)
theorem zgM(a:Int):∀ l:List Int,(zsY a l).Perm (a::l)
 |[]=>.refl _
 |b::r=>by
  unfold zsY;split
  ·exact .refl _
  ·exact ((zgM a r).cons b).trans (.swap a b r)
theorem zaB:∀ l:List Int,(zaT l).Perm l
 |[]=>.refl _
 |a::r=>(zgM a _).trans ((zaB r).cons a)
theorem zmj(a:Int):∀ l:List Int,l.Pairwise (· <= ·)->(zsY a l).Pairwise (· <= ·)
 |[],_=>by simp[zsY]
 |b::r,h=>by
  unfold zsY;rw[List.pairwise_cons] at h;split
  ·rename_i z;refine List.pairwise_cons.mpr ⟨λx hx=>?_,List.pairwise_cons.mpr h⟩;rcases wap.mp hx with rfl|hx
   ·exact z
   ·exact Int.le_trans z (h.1 x hx)
  ·rename_i z;refine List.pairwise_cons.mpr ⟨λx hx=>?_,zmj a r h.2⟩;rcases wap.mp ((zgM a r).mem_iff.mp hx) with rfl|hx
   ·lia
   ·exact h.1 x hx
theorem zcI:∀ l:List Int,(zaT l).Pairwise (· <= ·)
 |[]=>.nil
 |a::r=>zmj a _ (zcI r)
theorem intsAre_of:∀{ns:List Int}{us:List Value},zaR (ns.map V.int) us->PyProof.Rows.IntsAre us ns
 |[],_,.nil=>.nil
 |n::ns,_,.cons ⟨t,h⟩ r=>by subst h;exact .cons n t (intsAre_of r)
theorem vals_ints:∀{ns:List Int}{us:List Value},PyProof.Rows.IntsAre us ns->zaR (ns.map V.int) us
 |_,_,.nil=>.nil
 |_,_,.cons n t h=>.cons ⟨t,rfl⟩ (vals_ints h)
theorem zm3:zcd X (.builtin "sorted") (λxs H Q=>∃(p:Addr)(ns:List Int),xs=[.ref p]/\SqL X.K H p (ns.map V.int)/\ns.length<64/\∀ l,H l=none->Q (.ref l) (upd H l (.lst ((zaT ns).map V.int)))):=by
 intro pS s Y H xs us Q I r h;obtain ⟨p,ns,rfl,hq,hl,q⟩:=h;obtain ⟨u,rfl,ru⟩:=zcG r;cases ru;obtain ⟨its,rv,pl,hz⟩:=I.list hq;have hlen:its.length=ns.length:=by rw[<- rv.length];simp
 refine PyProof.Rows.sorted_ints pl.isList (intsAre_of rv) xwl λout ns' a1 a2 a3=>?_;have e:ns'=zaT ns:=W.lks_uniq (a2.trans (zaB ns).symm) a3 (zcI ns);subst e;obtain ⟨c,hc⟩:=PyProof.Rows.sortedAll_at s.heap its out;refine ⟨.ref (s.heap.objs.size+1),_,I.laid (t':=s.toks) (λb o=>PyProof.Rows.sortedAll_old) (Nat.le_succ _) (o:=.lst ((zaT ns).map V.int)) ⟨?_,out.toList,c,vals_ints a1,?_⟩,rfl,q _ (I.hok.fresh (Nat.le_succ _))⟩
 ·rw[List.length_map,(zaB ns).length_eq,zcF];lia
 ·simpa using hc
def zel:List Dt->R (List Dt)
 |[.lst l]=>match zh1 l with
  |some ns=>if ns.length<64 then .ok ((zaT ns).map .int) else .no
  |none=>.no
 |_=>.no
theorem zdC{K:W.Frag}{G:Hp}:∀(ns:List Int),za2 K G (ns.map .int) (ns.map V.int)
 |[]=>za2.nil
 |n::r=>za2.cons (zaz n) (zdC r)
theorem zpE{K:W.Frag}:FnN K (λxs H Q=>∃(p:Addr)(ns:List Int),xs=[.ref p]/\SqL K H p (ns.map V.int)/\ns.length<64/\∀ l,H l=none->Q (.ref l) (upd H l (.lst ((zaT ns).map V.int)))) zel:=λG H vs ds z Q gh hr e k=>by
 unfold zel at e;split at e
 ·split at e
  ·rename_i ns en;split at e
   ·rename_i hl;obtain ⟨v,rfl,h1⟩:=zdu hr;obtain ⟨a,us,rfl,h2,h3⟩:=zaK h1;cases e;rw[ze4 h3 en] at h2;exact ⟨a,ns,rfl,SqL.of (gh _ _ h2),hl,λl hl=>k l _ hl (zdC _)⟩
   ·cases e
  ·cases e
 ·cases e
theorem zpH:ziO zel:=λx n h=>by
 unfold zel at h;split at h
 ·split at h
  ·split at h <;> cases h
  ·cases h
 ·cases h
theorem zmn{x:Expr}{p:Pos}(hg:Gl X "sorted")(hm:X.mg "sorted"=none)(ha:JE X C x fa)(hs:starEach [x] X.env=(false,eval x X.env)::starEach [] X.env:=by rfl)(hpl:(backTo pos (starEach [] X.env)).any (·.1)=false:=by rfl) :
  JN X C (.Call (.Name "sorted" p) [x] [] pos) (zf9 zel (dA fa dA0)) :=
 zij zpE zpH zm3 hg hm PyProof.Rows.boot_sorted (zax ha zaC hs) xwd xwd hs hpl
def zk9(x:Dt):List Dt->Option Nat
 |[]=>none
 |d::r=>if eqD d x=true then some 0 else (zk9 x r).map (·+1)
theorem zhi{x:Dt}:∀{l:List Dt}{j:Nat},zk9 x l=some j->∃ h:j<l.length,eqD l[j] x=true/\∀ m (hm:m<l.length),m<j->eqD l[m] x=false
 |[],_,h=>by simp[zk9] at h
 |d::r,j,h=>by
  unfold zk9 at h;split at h
  ·rename_i e;cases h;exact ⟨xws,e,λm _ h=>absurd h (Nat.not_lt_zero _)⟩
  ·rename_i e;cases q:zk9 x r with
   |none=>rw[q] at h;cases h
   |some i =>
    rw[q] at h;cases h;obtain ⟨h1,h2,h3⟩:=zhi q;refine ⟨by simpa using h1,by simpa using h2,λm hm hlt=>?_⟩;cases m with
    |zero=>simpa using e
    |succ m=>simpa using h3 m (by simpa using hm) (Nat.lt_of_succ_lt_succ hlt)
theorem zeX{pS:List (Addr×Obj)}{Y:L2.St}{H:Hp}{s:Shared}(I:L2.Inv X pS Y H s){dx:Dt}:∀{ds:List Dt}{vs:List V}{us:List Value}{i:Nat}(h1:i<ds.length)(h2:i<us.length),ds.all (okN 60)=true->za2 X.K H ds vs->zaR vs us->zm6 X.K H dx us[i]=eqD ds[i] dx
 |[],_,_,_,h1,_,_,_,_=>by simp at h1
 |d::ds,vs,us,i,h1,h2,hk,h,r=>by
  obtain ⟨v,t,rfl,k1,k2⟩:=h.cons_inv;cases r with
  |cons r1 r2 =>
   simp only[List.all_cons,wae] at hk;cases i with
   |zero=>exact zkX I hk.1 k1 r1
   |succ i=>exact zeX I (i:=i) (by simpa using h1) (by simpa using h2) hk.2 k2 r2
def rIdx(K:W.Frag):V->List V->Hp->VK->Prop:=λx vs H Q=>∃ a zs dx ds j y,x=.ref a/\vs=[y]/\H a=some (.lst zs)/\za2 K H ds zs/\Rep K H dx y/\okN 60 dx=true/\ds.all (okN 60)=true/\zk9 dx ds=some j/\Q (.int j) H
theorem zp9(hu:X.A.units+65<cLine):MtR X "list.index" (rIdx X.K):=by
 intro pS s Y H x vs v us Q I rx rv h;obtain ⟨a,zs,dx,ds,j,y,rfl,rfl,hH,h1,h2,h3,h4,h5,q⟩:=h;cases rx;obtain ⟨u,rfl,ru⟩:=zaR.one rv;have hu1:X.A.in1.units+64<cLine:=by rw[zgE];lia
 obtain ⟨z,its,n,r,hl,e⟩:=I.lstM hH;obtain ⟨k1,k2,k3⟩:=zhi h5;have hlen:ds.length=its.length:=by rw[h1.length,r.length]
 have hj:(j:Int)<2 ^ 63-1:=by
  have:zs.length<=16777216:=by rw[<- zcF];exact z
  lia
 refine PySem.call_meets F.slot_list_index ⟨_,e,rfl⟩ F.entry_list_index (F.args_list_index_2 _ _)
  (SeqAt.list_indexAt a its.toArray n none #[] u (zm6 X.K H dx) j (by rw[List.size_toArray];lia) hj ?_ ?_) ⟨e,λw hw=>zdB I hu1 h3 h2 ru h4 h1 r w (by simpa using hw),?_⟩
 ·have:=zeX I (dx:=dx) (i:=j) k1 xwl h4 h1 r;simpa [this] using k2
 ·intro m hm hlt;have hm':m<its.length:=by simpa using hm
  have:=zeX I (dx:=dx) (i:=m) xwl hm' h4 h1 r;have e3:=k3 m xwl hlt;simpa [this] using e3
 ·exact ⟨.int j,H,I.kept (t':=s.toks+1) (λ_ _ q=>q),⟨_,rfl⟩,q⟩
def zwv(fa fb:De):De:=λZ=>(fa Z).bind λa=>match a.1 with
 |.lst ds=>(fb a.2).bind λb=>if (okN 60 b.1 && ds.all (okN 60))=true then match zk9 b.1 ds with
   |some j=>.ok (.int j,b.2)
   |none=>.no
  else .no
 |_=>.no
theorem zv0{apos:Pos}(hu:X.A.units+65<cLine)(ha:JE X C a fa)(hb:JE X C b fb)(hbase:attributeBase a "index" X.env (eval a X.env)=eval a X.env:=by rfl)
  (hfew:((backTo pos (starEach [b] X.env)).all (λx=>!x.1) && (backToKw pos (keywordEach [] X.env)).all (λx=>x.1.isSome) && decide ([b].length+([]:List Keyword).length+(if ([]:List Keyword).isEmpty then 0 else 1)<30))=true:=by rfl)
  (hline:(apos.endLine == pos.line)=true:=by rfl) (hs:starEach [b] X.env=(false,eval b X.env)::starEach [] X.env:=by rfl) (hplain:(backTo pos (starEach [] X.env)).any (·.1)=false:=by rfl) :
  JE X C (.Call (.Attribute a "index" apos) [b] [] pos) (zwv fa fb) :=
 PE.weak (zot PySem.F.plainAttrs_list PySem.F.slot_list_index PySem.F.type_list_index (zp9 hu) ha (zbE hb zdH hs) hbase hfew hline hs hplain) λY H Q ⟨G,w,Z,r,p⟩=>by
  refine zee (κ:=λG H w=>kE X.K C Y Q G H w) zbU r p λd Z1 v G1 H1 w1 r1 s1 q1 p1=>?_;cases d with
  |lst ds =>
   obtain ⟨ad,vs,rfl,h1,h2⟩:=zaK q1;refine ⟨.inl ⟨rfl,vs,SqL.of (r1.gh _ _ h1)⟩,?_⟩;refine zee (κ:=λG H w=>kE X.K C Y Q G H w) zbU r1 p1 λd2 Z2 v2 G2 H2 w2 r2 s2 q2 p2=>?_;dsimp only at p2;split at p2
   ·rename_i hk;rw[Bool.and_eq_true] at hk;split at p2
    ·rename_i j ej;exact ⟨ad,vs,d2,ds,j,v2,rfl,rfl,r2.gh _ _ (s2.g _ _ h1),(h2.same s2.g).same r2.gh,q2.same r2.gh,hk.1,hk.2,ej,p2 _ G2 H2 w2 (.refl _ _ _) r2 (zaz _)⟩
    ·exact waO p2
   ·exact waO p2
  |_=>exact waO p1
end
theorem zmN:typeLookup (.type "list_reverseiterator") "__len__"=pure none:=by rw[typeLookup_type,builtinLookup_eq_fast];kernel_rfl
theorem zpI:typeLookup (.type "list_reverseiterator") "__length_hint__"=pure (some (.builtin "list_reverseiterator.__length_hint__")):=by rw[typeLookup_type,builtinLookup_eq_fast];kernel_rfl
section
variable{prog:Program}{w:World}{A:Around}{E:Value->Shared->Prop}{s:Shared}
theorem zg7{R:Result->Shared->Prop}{it l:Addr}{items:Array Value}(hh:A.handled=none)(hit:s.heap.IsRevIter it l ((items.size:Int)-1))(hl:s.heap.IsList l items)(hne:l≠it)(S:Addr)(res:Value)(c₀:Nat)(hS:s.heap.get? S=some { cls:=.type "list",data:=.seq #[] c₀ })(hSl:S≠l)
  (hn:items.size<=sizeLine)
  (hR:∀ h' tk acc' c',(∀ b o,b≠S->b≠it->s.heap.get? b=some o->h'.get? b=some o)->h'.get? S=some { cls:=.type "list",dict:=none,data:=.seq acc' c',slots:=#[] } ->
   ItemsOf (λi v=>items[items.size-1-i]? = some v) acc' items.size->R (.ok (.ret res)) { s with heap:=h',toks:=tk }) :
  wpAny (model prog w) A.in1 (Builtin.List.listExtendWith (.ref S) (.ref it) res)
   (λfin s'=>match fin with|.done f=>R (.ok f) s'|.again c'=>c'.quiet=true/\codeAny (model prog w) A c' R s') (λe s'=>R (.error e) s') s:=by
 have hSI:S≠it:=λe=>by obtain ⟨o,ho,hc,_⟩:=hit;rw[e,ho] at hS;cases hS;simp at hc
 have hSf:S∉[it,l]:=λhm=>by
  rcases wap.mp hm with z|z
  ·exact hSI z
  ·exact hSl (List.mem_singleton.mp z)
 unfold Builtin.List.listExtendWith;refine wab (wpAny_typeOf (T:="list_reverseiterator") hit.typeIs ?_);have h1:Builtin.List.listSameRef (.ref S) (.ref it)=false:=by simp[Builtin.List.listSameRef,hSI]
 have h2:(Value.type "list_reverseiterator" == Value.type "list")=false:=by decide +kernel
 have h3:(Value.type "list_reverseiterator" == Value.type "tuple")=false:=by decide +kernel
 simp only[h1,h2,h3,Bool.or_false,Bool.false_eq_true,if_false];refine wab (wpAny_pyIter_revIter hit ?_);refine wab (wpAny_holding ?_);unfold Builtin.List.listLengthHint;refine wab (wpAny_specialOf hit.typeIs zmN ?_);show wpAny _ A.in1 (specialOf (Value.ref it) (Str.ofString "__length_hint__") >>= _) _ _ _;refine wab (wpAny_specialOf hit.typeIs zpI ?_)
 wp_delta
 refine wab (wpAny_isInstance (T:="list_reverseiterator") (b:=true) hit.typeIs (by rw[isSubtype_type];kernel_rfl) ?_);refine wpAny_ite_split (λh=>absurd h xwd) (λ_=>?_);refine wpAny_ite_split (λ_=>?_) (λh=>absurd xwD h);refine wpAny_ite_split (λh=>absurd h xwD) (λ_=>wad ?_);rw[if_neg xwD];have W:=(Walks.listRev (prog:=prog) (w:=w) (A:=A.in1) hh it l hne items).toS;have hst:0<=items.size/\s.heap.IsRevIter it l ((items.size:Int)-1-((0:Nat):Int))/\s.heap.IsList l items:=⟨Nat.zero_le _,by simpa using hit,hl⟩
 refine wad ⟨plainId_quiet F.plain_extend_loop _,codeAny_extend_loopS W hn _ hSf _ items.size 0 _ _ _ rfl (Nat.zero_le _) hst hS (ItemsOf.nil _) λs' acc' c' hm hS' hacc=>?_⟩;rw[Moved.eq_with hm];refine hR s'.heap s'.toks acc' c' (λb ob hb hb2 e=>hm.heap b ob (λhmem=>?_) e) hS' hacc;rcases wap.mp hmem with e'|hmem
 ·exact hb e'
 ·exact hb2 (List.mem_singleton.mp hmem)
theorem zrb{R:Result->Shared->Prop}{it l:Addr}{items:Array Value}(hh:A.handled=none)(hit:s.heap.IsRevIter it l ((items.size:Int)-1))(hl:s.heap.IsList l items)(hne:l≠it)(S:Addr)(hS:s.heap.get? S=some { cls:=.type "list",data:=.seq #[] })(hSl:S≠l)(hSI:S≠it)
  (hn:items.size<=sizeLine)
  (hR:∀ h' tk acc' c',(∀ b o,b≠S->b≠it->s.heap.get? b=some o->h'.get? b=some o)->h'.get? S=some { cls:=.type "list",dict:=none,data:=.seq acc' c',slots:=#[] } ->
   ItemsOf (λi v=>items[items.size-1-i]? = some v) acc' items.size->R (.ok (.ret .none)) { s with heap:=h',toks:=tk }) :
  wpAny (model prog w) A.in1 (Builtin.«list.__init__» ⟨[.ref S,.ref it],[]⟩)
   (λfin s'=>match fin with|.done f=>R (.ok f) s'|.again c'=>c'.quiet=true/\codeAny (model prog w) A c' R s') (λe s'=>R (.error e) s') s:=by
 show wpAny _ _ (do let old <- Builtin.List.listItems (.ref S);Builtin.List.listUpdate (.ref S) (λ_=>#[]);letGo old.toList.reverse;Builtin.List.listExtendWith (.ref S) (.ref it) .none) _ _ s;refine wab ?_;unfold Builtin.List.listItems;refine wab (wpAny_seqItems hS rfl (wad ?_));show wpAny _ _ (updateSeq S (λ_=>#[]) >>= λ_=>letGo (#[]:Array Value).toList.reverse >>= λ_=>Builtin.List.listExtendWith (.ref S) (.ref it) .none) _ _ s;refine wab (wpAny_updateSeq hS rfl ?_);have k2:=Heap.get?_update_self (Obj.mapSeq (λ_=>(#[]:Array Value))) hS rfl;have oth:∀ b o,b≠S->s.heap.get? b=some o->(s.heap.update S (Obj.mapSeq (λ_=>(#[]:Array Value)))).get? b=some o :=
  λb o hb e=>(Heap.get?_update_other _ _ (Ne.symm hb)).trans e
 refine wab (wpAny_letGo ?_);exact zg7 hh (hit.at λo e=>oth it o (Ne.symm hSI) e) (hl.at λo e=>oth l o (Ne.symm hSl) e) hne S .none _ k2 hSl hn λh' tk acc' c' hk hS' hacc=>hR h' tk acc' c' (λb o hb hb2 e=>hk b o hb hb2 (oth b o hb e)) hS' hacc
theorem zp3{Q:Value->Shared->Prop}{it l:Addr}{items:Array Value}(hh:A.handled=none)(hit:s.heap.IsRevIter it l ((items.size:Int)-1))(hl:s.heap.IsList l items)(hne:l≠it)(hn:items.size<=sizeLine)
  (hQ:∀ h' tk acc' c',(∀ b o,b≠it->s.heap.get? b=some o->h'.get? b=some o) ->
   h'.get? s.heap.objs.size=some { cls:=.type "list",dict:=none,data:=.seq acc' c',slots:=#[] }->ItemsOf (λi v=>items[items.size-1-i]? = some v) acc' items.size->Q (.ref s.heap.objs.size) { s with heap:=h',toks:=tk }) :
  wpAny (model prog w) A (call (.type "list") [.ref it]) Q E s:=by
 refine callType_codes (Q₁:=λobj s₁=>obj=.ref s.heap.objs.size/\s₁={ s with heap:=s.heap.push { cls:=.type "list",data:=.seq #[] } }) F.called_list (F.typeCall_list_1 _) F.entry_list_init
  (code_list_new _ ⟨rfl,rfl⟩) λobj s₁ h₁=>?_
 obtain ⟨rfl,rfl⟩:=h₁;have kS:(s.heap.push { cls:=.type "list",data:=.seq #[] }).get? s.heap.objs.size=some { cls:=.type "list",data:=.seq #[] }:=waj _ rfl;have lt1:l≠s.heap.objs.size:=by obtain ⟨o,e,_⟩:=hl;exact waM (wai e)
 have lt2:it≠s.heap.objs.size:=by obtain ⟨o,e,_⟩:=hit;exact waM (wai e)
 refine ⟨⟨_,kS,rfl⟩,F.args_list_init_2 _ _,zrb (A:=A.in1) hh (hit.at λo e=>waa _ e) (hl.at λo e=>waa _ e) hne _ kS (Ne.symm lt1) (Ne.symm lt2) hn λh' tk acc' c' hk hS' hacc=>?_⟩;exact ⟨rfl,hQ h' tk acc' c' (λb o hb e=>hk b o (waM (wai e)) hb (waa _ e)) hS' hacc⟩
end
section
variable{X:Cx}{C:Cn}{a:Expr}{fa:De}{pos:Pos}
theorem zqv:bootBuiltins "reversed"=some (.type "reversed"):=by decide +kernel
theorem zqu{vs:List V}{its:List Value}{acc:Array Value}(r:zaR vs its)(h:ItemsOf (λi v=>its.toArray[its.toArray.size-1-i]? = some v) acc its.toArray.size):zaR vs.reverse acc.toList:=by
 have e:acc.toList=its.reverse:=by
  apply List.ext_getElem?;intro i;have hs:acc.size=its.length:=by simpa using h.1
  by_cases hi:i<its.length
  ·have:=h.2 i acc[i] (by simp[hs,hi]);rw[List.getElem?_reverse hi];have e2:acc.toList[i]? = some acc[i]:=by simp[hs,hi]
   rw[e2];simpa using this.symm
  ·rw[List.getElem?_eq_none (by simpa [hs] using hi),List.getElem?_eq_none (by simpa using hi)]
 rw[e];exact r.reverse
theorem znN{p1 p2 pos2:Pos}(hc:X.calm=true)(hg:Gl X "list")(hm:X.mg "list"=none)(hg2:Gl X "reversed")(hm2:X.mg "reversed"=none)(ha:JE X C a fa)(hs:starEach [a] X.env=[(false,eval a X.env)]:=by rfl)
  (hs2:starEach [.Call (.Name "reversed" p2) [a] [] pos2] X.env=[(false,eval (.Call (.Name "reversed" p2) [a] [] pos2) X.env)]:=by rfl) :
  JN X C (.Call (.Name "list" p1) [.Call (.Name "reversed" p2) [a] [] pos2] [] pos) (zm5 fa):=by
 intro pS s Y H Q I ⟨G,w,Z,r,p⟩;refine PyProof.Rows.Call_ (zdq I hg hm PyProof.Rows.boot_list (PyProof.Rows.callWith_type1 ?_ hs2 rfl));rw[hs2];show wpAny _ _ (spliced ((false,eval (.Call (.Name "reversed" p2) [a] [] pos2) X.env)::backTo pos (starEach [] X.env))) _ _ s;refine Calls.spliced_cons (PyProof.Rows.Call_ (zdq I hg2 hm2 zqv (PyProof.Rows.callWith_type1 (thn (zax ha zaC hs pos2 pS s Y H (λvs H1=>∃(ad:Addr)(zs:List V),vs=[.ref ad]/\SqL X.K H1 ad zs/\∀ p,H1 p=none->Q (.ref p) (upd H1 p (.lst zs.reverse))) I ?_) λus s1 ⟨vs,H1,I1,r1,q1⟩=>?_) hs rfl)))
 ·refine ⟨G,w,Z,r,?_⟩;unfold zm5 at p;unfold dA dA0;cases e:fa Z with
  |ok x =>
   obtain ⟨d,Z1⟩:=x;rw[e] at p;intro vs G1 H1 w1 s1 r1 q;obtain ⟨v,t,rfl,q1,q2⟩:=q.cons_inv;rw[q2.nil_inv];have p1:=zbV.step (κ:=λG H w=>kN X.K C Y Q G H w) zfI s1 p;cases d with
   |lst ds =>
    obtain ⟨ad,zs,rfl,h1,h2⟩:=zaK q1;refine ⟨ad,zs,rfl,SqL.of (r1.gh _ _ h1),λp hp=>?_⟩;have gr:zeF G1 H1 G1 (upd H1 p (.lst zs.reverse)):=.newH r1.gh hp;exact p1 p _ G1 _ w1 gr.step (r1.grow gr) hp za1 (r1.gh.free hp) (zg6 r1 hp) h2.reverse
   |_=>exact waO p1
  |er n=>rw[e] at p;exact p
  |no=>rw[e] at p;exact p
 ·obtain ⟨ad,zs,rfl,hq,q⟩:=q1;obtain ⟨u,rfl,ru⟩:=zcG r1;cases ru;obtain ⟨its,rv,pl,hz⟩:=I1.list hq;have hlen:=rv.length;refine call_reversed_list pl.isList ?_;refine Calls.spliced_nil ?_;have ne:ad≠s1.heap.objs.size:=by obtain ⟨o,n,e,_⟩:=id pl;exact waM (wai e)
  have I2:L2.Inv X pS Y H1 { s1 with heap:=s1.heap.push (revObj ad ((its.toArray.size:Int)-1)) }:=I1.kept (t':=s1.toks) λb ob q=>waa _ q;have hit:Heap.IsRevIter (s1.heap.push (revObj ad ((its.toArray.size:Int)-1))) s1.heap.objs.size ad ((its.toArray.size:Int)-1):=⟨_,waj _ rfl,rfl,rfl⟩
  have hl2:Heap.IsList (s1.heap.push (revObj ad ((its.toArray.size:Int)-1))) ad its.toArray:=pl.isList.at λo e=>waa _ e;refine zp3 (s:={ s1 with heap:=s1.heap.push (revObj ad ((its.toArray.size:Int)-1)) }) (I.ok.hd hc) hit hl2 ne (by rw[List.size_toArray];lia) λh' tk acc c' hk hS hacc=>?_;have hsz:(s1.heap.push (revObj ad ((its.toArray.size:Int)-1))).objs.size=s1.heap.objs.size+1:=Heap.size_push ..;have hS':h'.get? (s1.heap.objs.size+1)=some { cls:=.type "list",dict:=none,data:=.seq acc c',slots:=#[] }:=by rw[<- hsz];exact hS
  show EP X pS Y Q (.ref (s1.heap.push (revObj ad ((its.toArray.size:Int)-1))).objs.size) _;rw[hsz];refine ⟨.ref (s1.heap.objs.size+1),_,I1.laid (h':=h') (t':=tk) (o:=.lst zs.reverse) (λb o e=>hk b o (waM (wai e)) (waa _ e)) (Nat.le_succ _) ⟨?_,acc.toList,c',zqu rv hacc,by simpa using hS'⟩,rfl,q _ (I1.hok.fresh (Nat.le_succ _))⟩;rw[List.length_reverse];exact hz
end
section
variable{prog:Program}{w:World}{A:Around}{E:Value->Shared->Prop}{s:Shared}
theorem bnd:type_of% @wpAny_bind:=@wpAny_bind
theorem zpU{it t:Addr}{i:Nat}{its:Array Value}{x:Value}{Q:Value->Shared->Prop}(k1:s.heap.IsTupleIter it t i)(k2:s.heap.IsTuple t its)(kx:its[i]? = some x)
  (kQ:∀ h',h'.IsTupleIter it t (i+1)->Heap.SameBut it s.heap h'->Q x { s with heap:=h' }):wpAny (model prog w) A (Builtin.SmallTypes.nextOf (.ref it)) Q E s:=by
 obtain ⟨o,e1,e2,e3⟩:=id k1;obtain ⟨o',e4,_,n',e5⟩:=k2;unfold Builtin.SmallTypes.nextOf;refine bnd (wpAny_callSpecial?_slot (name:=Str.ofString "__next__") k1.typeIs F.slot_tuple_iterator_next (wpAny_call_entry F.slot_tuple_iterator_next k1.typeIs F.entry_tuple_iterator_next ?_ (F.args_tuple_iterator_next_1 _)));show wpAny _ _ (field (.ref it) 0 >>= _) _ _ _;refine bnd (wpAny_field e1 e3 (x:=.ref t) rfl ?_);show wpAny _ _ (if (Value.ref t == Value.none)=true then _ else _) _ _ _;have nn:¬ ((Value.ref t == Value.none)=true):=Bool.false_ne_true;rw[if_neg nn];show wpAny _ _ (field (.ref it) 1 >>= _) _ _ _;refine bnd (wpAny_field e1 e3 (x:=.int i 0) rfl ?_);show wpAny _ _ (seqItems? (.ref t) >>= _) _ _ _;refine bnd (wpAny_seqItems e4 e5 ?_);simp only[Int.toNat_natCast,kx];refine bnd (wpAny_setField e1 e3 xws (wad ⟨x,rfl,wad (kQ _ ⟨_,Heap.get?_update_self _ e1 (Obj.isFreed_of_fields (Obj.data_mapFields e3 _)),(Obj.cls_mapFields ..).trans e2,?_⟩ (Heap.SameBut.update ..))⟩));rw[Obj.data_mapFields e3];simp[rawInt]
theorem znM{it t:Addr}{i:Nat}{its:Array Value}{Q:Value->Shared->Prop}(hh:A.handled=none)(k1:s.heap.IsTupleIter it t i)(k2:s.heap.IsTuple t its)(kx:its[i]? = none)
  (kE:∀ h' e,Heap.ExtBut it s.heap h'->(∃ o,h'.get? e=some o/\o.cls=.type "StopIteration")->E (.ref e) { s with heap:=h' }):wpAny (model prog w) A (Builtin.SmallTypes.nextOf (.ref it)) Q E s:=by
 obtain ⟨o,e1,e2,e3⟩:=id k1;obtain ⟨o',e4,_,n',e5⟩:=k2;unfold Builtin.SmallTypes.nextOf;refine bnd (wpAny_callSpecial?_slot (name:=Str.ofString "__next__") k1.typeIs F.slot_tuple_iterator_next (wpAny_call_entry F.slot_tuple_iterator_next k1.typeIs F.entry_tuple_iterator_next ?_ (F.args_tuple_iterator_next_1 _)));show wpAny _ _ (field (.ref it) 0 >>= _) _ _ _;refine bnd (wpAny_field e1 e3 (x:=.ref t) rfl ?_);show wpAny _ _ (if (Value.ref t == Value.none)=true then _ else _) _ _ _;have nn:¬ ((Value.ref t == Value.none)=true):=Bool.false_ne_true;rw[if_neg nn];show wpAny _ _ (field (.ref it) 1 >>= _) _ _ _;refine bnd (wpAny_field e1 e3 (x:=.int i 0) rfl ?_);show wpAny _ _ (seqItems? (.ref t) >>= _) _ _ _;refine bnd (wpAny_seqItems e4 e5 ?_);simp only[Int.toNat_natCast,kx];refine bnd (wpAny_rule (wab (wpAny_setField e1 e3 xws ?_)));show wpAny _ _ (newExc (.type "StopIteration") [] >>= _) _ _ _;refine bnd ?_;simp only[newExc,newTuple];refine bnd (wpAny_newObj_type ?_ (by size_fits));refine (wab (m:=firstArgMember _ _)) (wpAny_of_eq (a:=Value.none) (by first|rfl|(simp only[firstArgMember];rfl)) ?_);refine wpAny_newObj_type ?_ (by size_fits);simp only[raiseNew];refine bnd (wpAny_handled ?_)
 first|rw[show A.in1.handled=none from hh]|rw[hh]
 refine bnd (wad (wpAny_throw ?_));exact kE _ _ (((Heap.SameBut.update ..).extBut.push _).push _) ⟨_,waj _ rfl,rfl⟩
structure Zp(h:Heap)(z TI TO i1 i2 l1 l2:Addr)(f0:Value)(k:Nat):Prop where
 z:IsZip h z TI TO f0
 ti:IsPair h TI (.ref i1) (.ref i2)
 to:∃ a b,IsPair h TO a b
 a1:h.IsTupleIter i1 l1 k
 a2:h.IsTupleIter i2 l2 k
structure ZpD(z TI TO i1 i2:Addr):Prop where
 d1:TI≠z
 d2:TO≠z
 d3:i1≠z
 d4:i2≠z
 d5:TI≠TO
 d6:TI≠i1
 d7:TI≠i2
 d8:TO≠i1
 d9:TO≠i2
 d0:i1≠i2
theorem Zp.keep{h h':Heap}{z TI TO i1 i2 l1 l2:Addr}{f0:Value}{k:Nat}(p:Zp h z TI TO i1 i2 l1 l2 f0 k)(e:∀ b∈[z,TI,TO,i1,i2],∀ o,h.get? b=some o->h'.get? b=some o):Zp h' z TI TO i1 i2 l1 l2 f0 k :=
 ⟨e z xws _ p.z,e TI xws _ p.ti,let ⟨a,b,q⟩:=p.to;⟨a,b,e TO xws _ q⟩,p.a1.at λo q=>e i1 xws o q,p.a2.at λo q=>e i2 xws o q⟩
variable{z TI TO i1 i2 l1 l2:Addr}{k:Nat}{xs ys:Array Value}
end
section
variable{X:Cx}{pS:List (Addr×Obj)}{Y:L2.St}{H:Hp}{s:Shared}
theorem zuu{a b:Addr}{xs:List V}(I:L2.Inv X pS Y H s)(hf:zeE X pS H b)(hs:SqT X.K H a xs):b≠a:=by
 rintro rfl;rcases hs with (h|⟨o,h⟩)|⟨o,its,n,h,_⟩
 ·rw[hf.1] at h;cases h
 ·rw[hf.1] at h;cases h
 ·have hb:=I.mod.kin b o h;rcases hf.2.2.2.1 with z|z
  ·exact I.ok.noex b o hb z
  ·exact absurd (was (wai hb) (waN I.ok.bsz z)) (waL _)
theorem zk1{fp:List Addr}{h':Heap}{o:HO}{a:Addr}{t':Nat}(I:L2.Inv X pS Y H s)(hf:∀ b∈fp,zeE X pS H b)(k:∀ b ob,b∉fp->s.heap.get? b=some ob->h'.get? b=some ob)(hp:s.heap.objs.size<=a)(ht:∀ b ob,s.heap.get? b=some ob->∃ ob',h'.get? b=some ob')
  (new:zcE X.prog X.w (upd H a o) h' a o):L2.Inv X pS Y (upd H a o) { s with heap:=h',toks:=t' }:=by
 have hn:=I.hok.fresh hp;have nf:∀ b u,H b=some u->b∉fp:=λb u e z=>by rw[(hf b z).1] at e;cases e
 refine I.call (g':=s.gens) (d':=s.drawn) (ch:=fp) ⟨λb u q _ _ hx=>k b u hx q,λb u q _ _ hx=>⟨u.slots,k b u hx q⟩,λb u q n _=>?_,λb u q hx=>⟨u,k b u hx q⟩,λb xs q=>?_,λb u xs q=>?_,λb ps q=>⟨#[],?_⟩⟩ (λb u e=>?_) I.bare
  λb hb=>⟨(hf b hb).2.2.2.1,(hf b hb).2.1,(hf b hb).2.2.2.2.1,(hf b hb).2.2.2.2.2⟩
 ·rw[zar (Nat.ne_of_lt (Nat.lt_of_lt_of_le (Heap.lt_size q) hp))];exact n
 ·rw[zar (zaq q hn)];exact q
 ·rw[zar (zaq q hn)];exact q
 ·rw[zar (zaq q hn),q];simp
 ·by_cases hb:b=a
  ·subst hb;rw[za1] at e;cases e;exact new
  ·rw[zar hb] at e;refine (I.hok b u e).stay (λc v hc q=>k c v ?_ q) (λc q=>by rw[zar (zaq q hn)];exact q) λc xs q=>by rw[zar (zaq q hn)];exact q
   rcases hc with z|z
   ·rw[z];exact nf b u e
   ·exact nf c _ z
theorem zgW{fp:List Addr}{h':Heap}{t':Nat}(I:L2.Inv X pS Y H s)(hf:∀ b∈fp,zeE X pS H b)(k:∀ b ob,b∉fp->s.heap.get? b=some ob->h'.get? b=some ob):L2.Inv X pS Y H { s with heap:=h',toks:=t' }:=by
 have nf:∀ b u,H b=some u->b∉fp:=λb u e z=>by rw[(hf b z).1] at e;cases e
 refine I.call (g':=s.gens) (d':=s.drawn) (ch:=fp) ⟨λb u q _ _ hx=>k b u hx q,λb u q _ _ hx=>⟨u.slots,k b u hx q⟩,λb u q n _=>n,λb u q hx=>⟨u,k b u hx q⟩,λb xs q=>q,λb u xs q=>q,λb ps q=>⟨#[],by rw[q];simp⟩⟩ (λb u e=>?_) I.bare
  λb hb=>⟨(hf b hb).2.2.2.1,(hf b hb).2.1,(hf b hb).2.2.2.2.1,(hf b hb).2.2.2.2.2⟩
 refine (I.hok b u e).stay (λc v hc q=>k c v ?_ q) (λ_ q=>q) λ_ _ q=>q;rcases hc with z|z
 ·rw[z];exact nf b u e
 ·exact nf c _ z
end
section
variable{prog:Program}{w:World}{A:Around}{E:Value->Shared->Prop}{s:Shared}
end
section
variable{X:Cx}{C:Cn}{elts:List Expr}{x1:Nat}{pt:Pos}{a b:Expr}{fa fb:De}{p pos:Pos}
end
def zmv{α:Type}(p:Int×α):List (Int×α)->List (Int×α)
 |[]=>[p]
 |q::r=>if p.1<=q.1 then p::q::r else q::zmv p r
def zfP{α:Type}:List (Int×α)->List (Int×α)
 |[]=>[]
 |p::r=>zmv p (zfP r)
theorem zgH{α:Type}(p:Int×α):∀ l:List (Int×α),(zmv p l).Perm (p::l)
 |[]=>.refl _
 |q::r=>by
  unfold zmv;split
  ·exact .refl _
  ·exact ((zgH p r).cons q).trans (.swap p q r)
theorem zbL{α:Type}:∀ l:List (Int×α),(zfP l).Perm l
 |[]=>.refl _
 |p::r=>(zgH p _).trans ((zbL r).cons p)
theorem zlJ{α:Type}(p:Int×α):∀ l:List (Int×α),l.Pairwise (λa b=>a.1<=b.1)->(zmv p l).Pairwise (λa b=>a.1<=b.1)
 |[],_=>by simp[zmv]
 |q::r,h=>by
  unfold zmv;rw[List.pairwise_cons] at h;split
  ·rename_i z;refine List.pairwise_cons.mpr ⟨λx hx=>?_,List.pairwise_cons.mpr h⟩;rcases wap.mp hx with rfl|hx
   ·exact z
   ·exact Int.le_trans z (h.1 x hx)
  ·rename_i z;refine List.pairwise_cons.mpr ⟨λx hx=>?_,zlJ p r h.2⟩;rcases wap.mp ((zgH p r).mem_iff.mp hx) with rfl|hx
   ·lia
   ·exact h.1 x hx
theorem zeL{α:Type}:∀ l:List (Int×α),(zfP l).Pairwise (λa b=>a.1<=b.1)
 |[]=>.nil
 |p::r=>zlJ p _ (zeL r)
theorem ztx{α:Type}:∀{a b:List (Int×α)},a.Perm b->(a.map (·.1)).Nodup->a.Pairwise (λx y=>x.1<=y.1)->b.Pairwise (λx y=>x.1<=y.1)->a=b
 |[],b,p,_,_,_=>p.nil_eq
 |x::r,b,p,hn,ha,hb=>by
  cases b with
  |nil=>exact absurd p.length_eq xws
  |cons y t =>
   have hx:x∈y::t:=p.mem_iff.mp (.head _);have hy:y∈x::r:=p.mem_iff.mpr (.head _);rw[List.map_cons,List.nodup_cons] at hn;have e:x=y:=by
    rcases wap.mp hy with h'|h'
    ·exact h'.symm
    ·rcases wap.mp hx with h|h
     ·exact h
     ·have a1:=(List.pairwise_cons.mp ha).1 y h';have a2:=(List.pairwise_cons.mp hb).1 x h;have e1:x.1=y.1:=by lia
      exact absurd (List.mem_map.mpr ⟨y,h',e1.symm⟩) hn.1
   subst e;rw[ztx (List.Perm.cons_inv p) hn.2 (List.pairwise_cons.mp ha).2 (List.pairwise_cons.mp hb).2]
def byK{α:Type}(ks:List Int)(l:List α):List α:=(zfP (ks.zip l)).map (·.2)
theorem zjL{α β:Type}{F:α->β->Prop}{p:Int×α}{q:Int×β}(hp:p.1=q.1/\F p.2 q.2):∀{l:List (Int×α)}{r:List (Int×β)},Paired (λx y=>x.1=y.1/\F x.2 y.2) l r->Paired (λx y=>x.1=y.1/\F x.2 y.2) (zmv p l) (zmv q r)
 |_,_,.nil=>.cons hp .nil
 |x::l,y::r,.cons h t=>by
  unfold zmv;rw[hp.1,h.1];split
  ·exact .cons hp (.cons h t)
  ·exact .cons h (zjL hp t)
theorem zh2{α β:Type}{F:α->β->Prop}:∀{l:List (Int×α)}{r:List (Int×β)},Paired (λx y=>x.1=y.1/\F x.2 y.2) l r->Paired (λx y=>x.1=y.1/\F x.2 y.2) (zfP l) (zfP r)
 |_,_,.nil=>.nil
 |_,_,.cons h t=>zjL h (zh2 t)
theorem zl9{α β:Type}{F:α->β->Prop}:∀(ks:List Int){l:List α}{r:List β},Paired F l r->Paired (λx y=>x.1=y.1/\F x.2 y.2) (ks.zip l) (ks.zip r)
 |[],_,_,_=>by simpa using Paired.nil
 |k::ks,_,_,.nil=>by simpa using Paired.nil
 |k::ks,_,_,.cons h t=>.cons ⟨rfl,h⟩ (zl9 ks t)
theorem zlG{α β:Type}{F:α->β->Prop}:∀{l:List (Int×α)}{r:List (Int×β)},Paired (λx y=>x.1=y.1/\F x.2 y.2) l r->Paired F (l.map (·.2)) (r.map (·.2))
 |_,_,.nil=>.nil
 |_,_,.cons h t=>.cons h.2 (zlG t)
theorem zl8{α β:Type}{F:α->β->Prop}(ks:List Int){l:List α}{r:List β}(h:Paired F l r):Paired F (byK ks l) (byK ks r):=zlG (zh2 (zl9 ks h))
theorem zde{K:W.Frag}{G:Hp}:∀{ds:List Dt}{vs:List V},za2 K G ds vs ↔ Paired (Rep K G) ds vs
 |[],vs=>⟨λh=>by rw[h.nil_inv];exact .nil,λh=>by cases h;exact za2.nil⟩
 |d::ds,vs=>⟨λh=>by
   obtain ⟨v,r,rfl,h1,h2⟩:=h.cons_inv;exact .cons h1 (zde.mp h2),λh=>by
   cases h with
   |cons h1 h2=>exact za2.cons h1 (zde.mpr h2)⟩
theorem zqT{K:W.Frag}{G:Hp}(ks:List Int){ds:List Dt}{vs:List V}(h:za2 K G ds vs):za2 K G (byK ks ds) (byK ks vs):=zde.mpr (zl8 ks (zde.mp h))
theorem zs1{α:Type}{ks:List Int}{l:List α}(h:ks.length=l.length):(byK ks l).length=l.length:=by unfold byK;rw[List.length_map,(zbL _).length_eq,List.length_zip,h,Nat.min_self]
section
variable{X:Cx}{pS:List (Addr×Obj)}{Y:L2.St}{H:Hp}{s:Shared}
theorem zoh{fp:List Addr}{h':Heap}{o:HO}{a:Addr}{t':Nat}(I:L2.Inv X pS Y H s)(hf:∀ b∈fp,zeE X pS H b)(ha:a∈fp)(k:∀ b ob,b∉fp->s.heap.get? b=some ob->h'.get? b=some ob)
  (new:zcE X.prog X.w (upd H a o) h' a o):L2.Inv X pS Y (upd H a o) { s with heap:=h',toks:=t' }:=by
 have hn:=(hf a ha).1;have nf:∀ b u,H b=some u->b∉fp:=λb u e z=>by rw[(hf b z).1] at e;cases e
 refine I.call (g':=s.gens) (d':=s.drawn) (ch:=fp) ⟨λb u q _ _ hx=>k b u hx q,λb u q _ _ hx=>⟨u.slots,k b u hx q⟩,λb u q n hx=>?_,λb u q hx=>⟨u,k b u hx q⟩,λb xs q=>?_,λb u xs q=>?_,λb ps q=>⟨#[],?_⟩⟩ (λb u e=>?_) I.bare
  λb hb=>⟨(hf b hb).2.2.2.1,(hf b hb).2.1,(hf b hb).2.2.2.2.1,(hf b hb).2.2.2.2.2⟩
 ·rw[zar (show b≠a from λz=>hx (by rw[z];exact ha))];exact n
 ·rw[zar (zaq q hn)];exact q
 ·rw[zar (zaq q hn)];exact q
 ·rw[zar (zaq q hn),q];simp
 ·by_cases hb:b=a
  ·subst hb;rw[za1] at e;cases e;exact new
  ·rw[zar hb] at e;refine (I.hok b u e).stay (λc v hc q=>k c v ?_ q) (λc q=>by rw[zar (zaq q hn)];exact q) λc xs q=>by rw[zar (zaq q hn)];exact q
   rcases hc with z|z
   ·rw[z];exact nf b u e
   ·exact nf c _ z
theorem zvQ{A':Around}{xe':Value->Shared->Prop}(I:L2.Inv X pS Y H s)(h1:A'.frames=X.A.frames)(h2:A'.handled=X.A.handled):L2.Inv { X with A:=A',xe:=xe' } pS Y H s :=
 ⟨⟨I.ok.mod,I.ok.kind,I.ok.glob,I.ok.blt,I.ok.above,I.ok.inj,I.ok.has,I.ok.cab,λz=>h2.trans (I.ok.hd z),h1.trans I.ok.frames,I.ok.stk,I.ok.exf,I.ok.bs,I.ok.bsz,I.ok.noex,I.ok.exfs,I.ok.funs,I.ok.frf⟩,I.os,I.bare,I.base,I.loc,I.cell,I.free,I.freeC,I.pin,I.hok,I.len⟩
theorem zub{A':Around}{xe':Value->Shared->Prop}(I:L2.Inv { X with A:=A',xe:=xe' } pS Y H s)(h1:A'.frames=X.A.frames)(h2:A'.handled=X.A.handled):L2.Inv X pS Y H s :=
 ⟨⟨I.ok.mod,I.ok.kind,I.ok.glob,I.ok.blt,I.ok.above,I.ok.inj,I.ok.has,I.ok.cab,λz=>h2.symm.trans (I.ok.hd z),h1.symm.trans I.ok.frames,I.ok.stk,I.ok.exf,I.ok.bs,I.ok.bsz,I.ok.noex,I.ok.exfs,I.ok.funs,I.ok.frf⟩,I.os,I.bare,I.base,I.loc,I.cell,I.free,I.freeC,I.pin,I.hok,I.len⟩
end
end PV
end
section
namespace PV
open PySem PySem.Spec L2 PyProof.Rows
section
variable{X:Cx}{pS:List (Addr×Obj)}{Y:L2.St}{H:Hp}{s:Shared}
theorem zwB{kS:Addr}{o o':Obj}{zaX:List (Addr×Obj)}{h':Heap}{t':Nat}(J:L2.Inv X (pS++(kS,o)::zaX) Y H s)(hf:zeE X (pS++zaX) H kS)(hs:∀ b ob,b≠kS->s.heap.get? b=some ob->h'.get? b=some ob)(ho:h'.get? kS=some o')(hd:∀ v,o'.data≠.cell v) :
  L2.Inv X (pS++(kS,o')::zaX) Y H { s with heap:=h',toks:=t' }:=by
 have J1:L2.Inv X (pS++zaX) Y H s:=J.pins_of λp hp=>by
  refine J.pin p (waz _ ?_);rcases wax.mp hp with z|z
  ·exact waR _ z
  ·exact waz _ (wah _ z)
 have J2:L2.Inv X (pS++zaX) Y H { s with heap:=h',toks:=t' }:=zgW (fp:=[kS]) J1 (λb hb=>by rw[List.mem_singleton.mp hb];exact hf) λb ob nb e=>hs b ob (λz=>nb (by simp[z])) e;refine J2.pins_of λp hp=>?_;rcases wax.mp hp with z|z
 ·exact J2.pin p (waz _ (waR _ z))
 ·rcases wap.mp z with rfl|z
  ·exact ⟨ho,hf.1,hf.2.1,hf.2.2.1,hd⟩
  ·exact J2.pin p (waz _ (waz _ z))
theorem zwD{pS pins':List (Addr×Obj)}{H':Hp}{b:Addr}(h:zeE X pS H b)(hn:H' b=none)(hp:∀ p∈pins',p∈pS\/p.1≠b):zeE X pins' H' b :=
 ⟨hn,h.2.1,h.2.2.1,h.2.2.2.1,h.2.2.2.2.1,λp q=>by
  rcases wax.mp q with z|z
  ·exact h.2.2.2.2.2 p (waR _ z)
  ·rcases hp p z with y|y
   ·exact h.2.2.2.2.2 p (waz _ y)
   ·exact y⟩
variable{kS a:Addr}{kz:List Int}{vs:List Value}{xs:List V}{Θ : Hp->Prop}{e1:Nat}{A:Around}{E:Value->Shared->Prop}{P:PySem.Fin->Shared->Prop}
abbrev lo(ys:Array Value)(n:Nat):Obj:=seqObj "list" ys n
theorem zru{st:SortSt}{keys:Array Value}{e:Nat}(J:L2.Inv X (pS++(kS,lo keys e)::[(a,lo #[] e1)]) Y H s)(hka:kS≠a)(fk:zeE X pS H kS)(fa:zeE X pS H a)(hv:zaR xs vs)(hk:IntsAre keys.toList kz)(hlen:kz.length=vs.length)(h64:vs.length<64)(hnd:kz.Nodup)
  (hp:(arrOf st).Perm (keys.zip vs.toArray)) (hs:SortedTo (arrOf st) (arrOf st).size) (hfl:failedOf st=none)
  (h:∀ h' tk,L2.Inv X pS Y (upd H a (.lst (byK kz xs))) { s with heap:=h',toks:=tk }->P (.done (.ret .none)) { s with heap:=h',toks:=tk }) :
  wpAny (model X.prog X.w) A (ksk_tail a false e1 (.ref kS) st) P E s:=by
 have nk:=(J.pin (kS,lo keys e) xws).1;have na:=(J.pin (a,lo #[] e1) xws).1;have hsz:keys.size=vs.length:=by have q:=hk.length;rw[Array.length_toList] at q;lia
 have hsz2:(arrOf st).size=vs.length:=by rw[hp.size_eq,Array.size_zip,hsz,List.size_toArray,Nat.min_self]
 have s1:=Heap.SameBut.update s.heap kS (Obj.mapSeq λ_=>(#[]:Array Value));have na1:(s.heap.update kS (Obj.mapSeq λ_=>(#[]:Array Value))).get? a=some (lo #[] e1):=(s1.2 a hka.symm).trans na;have s2:=Heap.SameBut.update (s.heap.update kS (Obj.mapSeq λ_=>(#[]:Array Value))) a (Obj.mapSeq λ_=>(arrOf st).map (·.2));obtain ⟨c2,hc2⟩ : ∃ c2,((s.heap.update kS (Obj.mapSeq λ_=>(#[]:Array Value))).update a (Obj.mapSeq λ_=>(arrOf st).map (·.2))).get? a=some (lo ((arrOf st).map (·.2)) c2):=⟨_,get?_update_seq na1 λ_=>(arrOf st).map (·.2)⟩
 obtain ⟨ps,q1,q2,q3⟩:=ksk_out (b:=false) hk hp hs;have hmap:∀(l:List Int)(r:List Value),l.length=r.length->(l.zip r).map (·.1)=l:=λl r hl=>by rw[List.map_fst_zip];lia
 have eo:ps=zfP (kz.zip vs):=by refine ztx (q1.trans (zbL _).symm) ?_ (by simpa using q3) (zeL _);have z:=q1.map Prod.fst;rw[z.nodup_iff];rw[show (kz.zip vs).map Prod.fst=kz from hmap kz vs hlen];exact hnd
 have eout:((arrOf st).map (·.2)).toList=byK kz vs:=by have z:((if false=true then ((arrOf st).map (·.2)).reverse else (arrOf st).map (·.2)):Array Value).toList=ps.map Prod.snd:=q2;rw[if_neg Bool.false_ne_true] at z;rw[z,eo];rfl
 have J0:L2.Inv X pS Y H s:=J.unpinned;unfold ksk_tail
 try dsimp only
 refine wab (listUpdate_at nk rfl ?_ (by rw[hsz,sizeLine_eq];lia) (Nat.zero_le _));refine wab (wpAny_letGo (wab (seqEpoch_at na1 rfl ?_)));refine wab (listUpdate_at na1 rfl ?_ (Nat.zero_le _) (by simp only[Bool.false_eq_true,if_false,Array.size_map];rw[hsz2,sizeLine_eq];lia));rw[hfl];simp only[bne_self_eq_false,Bool.false_eq_true,if_false];refine wad (h _ s.toks (zoh (fp:=[kS,a]) (s:=s) (t':=s.toks) J0 (λb hb=>?_) xws (λb ob nb q=>?_) ⟨?_,byK kz vs,c2,zl8 kz hv,?_⟩))
 ·simp only[wap,wak,or_false] at hb;rcases hb with rfl|rfl
  ·exact fk
  ·exact fa
 ·simp only[wap,wak,or_false,not_or] at nb;exact (s2.2 b nb.2).trans ((s1.2 b nb.1).trans q)
 ·have hl:=hv.length;rw[zs1 xwl,zcF];lia
 ·rw[<- eout,Array.toArray_toList];exact hc2
theorem zwX{keys:Array Value}{e:Nat}(J:L2.Inv X (pS++(kS,lo keys e)::[(a,lo #[] e1)]) Y H s)(hka:kS≠a)(fk:zeE X pS H kS)(fa:zeE X pS H a)(hv:zaR xs vs)(hk:IntsAre keys.toList kz)(hlen:kz.length=vs.length)(h64:vs.length<64)(hnd:kz.Nodup)
  (h:∀ h' tk,L2.Inv X pS Y (upd H a (.lst (byK kz xs))) { s with heap:=h',toks:=tk }->P (.done (.ret .none)) { s with heap:=h',toks:=tk }) :
  wpAny (model X.prog X.w) A (ksk_end a false vs.toArray e1 (.ref kS) keys) P E s:=by
 have hsz:keys.size=vs.length:=by have q:=hk.length;rw[Array.length_toList] at q;lia
 have hzs:(keys.zip vs.toArray).size=vs.length:=by rw[Array.size_zip,hsz,List.size_toArray,Nat.min_self]
 unfold ksk_end
 try dsimp only
 simp only[Bool.false_eq_true,if_false];by_cases h2:vs.toArray.size<2
 ·rw[if_pos h2,if_pos h2];refine wab (wad ?_);rw[StateT.run_pure];refine wab (wad ?_)
  try dsimp only
  refine zru (st:=SortSt.mk' general' (keys.zip vs.toArray) #[] 7 none) J hka fk fa hv hk hlen h64 hnd (Array.Perm.refl _) (λi j hij hj=>?_) rfl h;have hj2:j<(keys.zip vs.toArray).size:=hj;rw[hzs] at hj2;rw[List.size_toArray] at h2;have:i=j:=by lia
  subst this;exact Int.le_refl _
 ·rw[if_neg h2,if_neg h2];rw[List.size_toArray] at h2;rw[ksk_kind hk (by rw[hsz];lia)];refine wab (wad (wab (wpAny_mono (wpS_sortRuns (a₀:=keys.zip vs.toArray) (st:=SortSt.mk' oneType' (keys.zip vs.toArray) #[] 7 none)
   (Q:=λ_ st'=>(arrOf st').Perm (keys.zip vs.toArray)/\failedOf st'=none/\SortedTo (arrOf st') (keys.zip vs.toArray).size)
   (ksk_intKeys hk) ⟨Array.Perm.refl _,rfl,rfl,rfl⟩ (by rw[hzs];lia) (by rw[hzs];exact h64) λst' a1 a2 a3=>⟨a1,a2,a3⟩) ?_ λ_ _ e=>e)))
  rintro ⟨⟨⟩,st'⟩ s' ⟨rfl,hp,hf,hs⟩
  try dsimp only
  exact zru J hka fk fa hv hk hlen h64 hnd hp (by rw[hp.size_eq];exact hs) hf h
theorem zvf{f:Value}(J:L2.Inv X (pS++(kS,lo #[] 0)::[(a,lo #[] e1)]) Y H s)(hka:kS≠a)(fk:zeE X pS H kS)(fa:zeE X pS H a)(hv:zaR xs vs)(hlen:kz.length=vs.length)(h64:vs.length<64)(hnd:kz.Nodup)(hθ : Θ H)
  (turn:∀(i:Nat)(u:Value)(k:Int),vs[i]? = some u->kz[i]? = some k->∀(pins':List (Addr×Obj))(s':Shared)(H':Hp),L2.Inv X pins' Y H' s'->Θ H'->wpAny (model X.prog X.w) A (call f [u]) (λr s2=>∃ t H2,r=.int k t/\L2.Inv X pins' Y H2 s2/\Θ H2) (λ_ _=>False) s')
  (h:∀ H2 s2,Θ H2->H2 a=none->L2.Inv X pS Y (upd H2 a (.lst (byK kz xs))) s2->P (.done (.ret .none)) s2) :
  wpAny (model X.prog X.w) A (ksk_rest a f false vs.toArray e1 (.ref kS)) P E s:=by
 unfold ksk_rest;refine wab (wpAny_rule ?_)
 first
  |rw[List.forIn_toArray]
  | (rw[<- Array.forIn_toList];simp only[List.toList_toArray])
 refine wab (ksk_fold (λi s'=>∃ H' kA e,Θ H'/\L2.Inv X (pS++(kS,lo kA e)::[(a,lo #[] e1)]) Y H' s'/\IntsAre kA.toList (kz.take i)) vs 0 s ⟨H,#[],0,hθ,J,by simpa using IntsAre.nil⟩ ?step ?done)
 case step =>
  rintro j x s' hx ⟨H',kA,e,hθ',J',hk⟩;simp only[Nat.zero_add] at hk ⊢;have hj:j<vs.length:=(wam.mp hx).1;obtain ⟨k,hkj⟩ : ∃ k,kz[j]? = some k:=⟨_,wac xwl⟩
  have hz:kA.size<=vs.length:=by have q:=hk.length;rw[Array.length_toList,List.length_take] at q;lia
  refine wab (wpAny_attempt (wpAny_mono (turn j x k hx hkj _ s' H' J' hθ') (λv s'' he=>?_) λ_ _ z=>z.elim));obtain ⟨t,H2,rfl,J2,hθ2⟩:=he
  try dsimp only
  have nk:=J2.pin (kS,lo kA e) xws;obtain ⟨c2,hc2⟩ : ∃ c2,(s''.heap.update kS (Obj.mapSeq (·.push (.int k t)))).get? kS=some (lo (kA.push (.int k t)) c2):=⟨_,get?_update_seq nk.1 (·.push (.int k t))⟩
  have s1:=Heap.SameBut.update s''.heap kS (Obj.mapSeq (·.push (.int k t)));refine wab (listUpdate_at nk.1 rfl ?_ (by rw[sizeLine_eq];lia) (waN (Nat.le_of_eq (Array.size_push ..)) (by rw[sizeLine_eq];lia)));refine wad ⟨rfl,H2,kA.push (.int k t),c2,hθ2,zwB (t':=s''.toks) J2 (zwD fk nk.2.1 λp hp=>?_) (λb ob nb q=>(s1.2 b nb).trans q) hc2 (λv z=>by cases z),?_⟩
  ·rcases wax.mp hp with z|z
   ·exact .inl z
   ·exact .inr (by rw[List.mem_singleton.mp z];exact hka.symm)
  ·have ek:kz.take (j+1)=kz.take j++[k]:=by rw[List.take_add_one,hkj];simp
   have ea:(kA.push (Value.int k t)).toList=kA.toList++[Value.int k t]:=by simp
   rw[ea,ek];exact ksk_snoc hk
 case done =>
  rintro s' ⟨H',kA,e,hθ',J',hk⟩;have hk':IntsAre kA.toList kz:=by rw[show kz.take (0+vs.length)=kz from List.take_of_length_le xwl] at hk;exact hk
  have nk:=J'.pin (kS,lo kA e) xws;have na:=J'.pin (a,lo #[] e1) xws
  try dsimp only
  refine wab (listItems_at nk.1 rfl ?_);exact zwX J' hka (zwD fk nk.2.1 λp hp=>.inl hp) (zwD fa na.2.1 λp hp=>.inl hp) hv hk' hlen h64 hnd λh' tk IN=>h H' _ hθ' na.2.1 IN
end
section
variable{X:Cx}{pS:List (Addr×Obj)}{Y:L2.St}{H:Hp}{s:Shared}
theorem zm0{l f:Addr}{xs:List V}{vs:List Value}{kz:List Int}{Θ : Hp->Prop}{Q:VK}(I:L2.Inv X pS Y H s)(hl:s.heap.IsList l vs.toArray)(hv:zaR xs vs)(hlen:kz.length=vs.length)(h64:vs.length<64)(hnd:kz.Nodup)(hθ : Θ H)
  (turn:∀(i:Nat)(u:Value)(k:Int),vs[i]? = some u->kz[i]? = some k->∀(pins':List (Addr×Obj))(s':Shared)(H':Hp),L2.Inv X pins' Y H' s'->Θ H'->wpAny (model X.prog X.w) X.A.in1.in1 (call (.ref f) [u]) (λr s2=>∃ t H2,r=.int k t/\L2.Inv X pins' Y H2 s2/\Θ H2) (λ_ _=>False) s')
  (h:∀ H2 a,Θ H2->H a=none->H2 a=none->Q (.ref a) (upd H2 a (.lst (byK kz xs)))) :
  wpAny (model X.prog X.w) X.A (call (.builtin "sorted") [.ref l] [(Str.ofString "key",.ref f)]) (EP X pS Y Q) X.xe s:=by
 refine call_function_entry_kw kind_sorted plain_sorted entry_sorted (ksk_s1 _ _) ?_;unfold Builtin.«sorted»;refine wab (m:=checkCount "sorted" 1 1 _) (wad (wab (collect_list hl ?_ (by rw[sizeLine_eq];lia))));refine wab (wpAny_newList ?_ (by rw[sizeLine_eq];lia));have z1:((s.heap.push (seqObj "list" #[] 0)).update s.heap.objs.size (Obj.mapSeq (·++vs.toArray))).objs.size=s.heap.objs.size+1:=by rw[Heap.size_update,size_push']
 have ka:(((s.heap.push (seqObj "list" #[] 0)).update s.heap.objs.size (Obj.mapSeq (·++vs.toArray))).push (seqObj "list" vs.toArray 0)).get? (s.heap.objs.size+1)=some (seqObj "list" vs.toArray 0):=by rw[<- z1];exact waj _ rfl
 have k0:∀ b o,s.heap.get? b=some o->(((s.heap.push (seqObj "list" #[] 0)).update s.heap.objs.size (Obj.mapSeq (·++vs.toArray))).push (seqObj "list" vs.toArray 0)).get? b=some o:=λb o q=>by have lt:b<s.heap.objs.size:=wai q;refine waa _ ?_;rw[Heap.get?_update_ne _ _ _ _ (Nat.ne_of_lt lt)];exact waa _ q
 generalize hg:(((s.heap.push (seqObj "list" #[] 0)).update s.heap.objs.size (Obj.mapSeq (·++vs.toArray))).push (seqObj "list" vs.toArray 0))=g0 at ka k0;have z2:g0.objs.size=s.heap.objs.size+2:=by rw[<- hg,size_push',z1]
 show wpAny _ _ _ _ _ { s with heap:=g0 };rw[z1];refine wab (wpAny_holding (wpAny_call_entry_kw slot_list_sort ⟨_,ka,rfl⟩ entry_list_sort ?body (ksk_l1 _ _)))
 case body =>
  show wpAny (model X.prog X.w) X.A.in1.in1 (Builtin.«list.sort» ⟨[.ref (s.heap.objs.size+1)],[(Str.ofString "key",.ref f)]⟩) _ _ _;rw[ksk_t1];have sb:=Heap.SameBut.update g0 (s.heap.objs.size+1) (Obj.mapSeq λ_=>(#[]:Array Value));obtain ⟨e1,ka1⟩ : ∃ e1,(g0.update (s.heap.objs.size+1) (Obj.mapSeq λ_=>(#[]:Array Value))).get? (s.heap.objs.size+1)=some (seqObj "list" #[] e1):=⟨_,get?_update_seq ka λ_=>#[]⟩
  unfold ksk_tree;refine wab (listItems_at ka rfl (wab (listUpdate_at ka rfl ?_ (by rw[List.size_toArray,sizeLine_eq];lia) (Nat.zero_le _))));refine wab (seqEpoch_at ka1 rfl (wab (wpAny_newTuple ?_ (by show vs.length<=_;rw[sizeLine_eq];lia))));refine wab (wpAny_newList ?_ (Nat.zero_le _));refine wpAny_holding ?_;have z3:((g0.update (s.heap.objs.size+1) (Obj.mapSeq λ_=>(#[]:Array Value))).push (seqObj "tuple" vs.toArray 0)).objs.size=s.heap.objs.size+3:=by rw[size_push',Heap.size_update,z2]
  have k1:∀ b o,s.heap.get? b=some o->(((g0.update (s.heap.objs.size+1) (Obj.mapSeq λ_=>(#[]:Array Value))).push (seqObj "tuple" vs.toArray 0)).push (seqObj "list" #[] 0)).get? b=some o:=λb o q =>
   waa _ (waa _ ((sb.2 b (waM (Nat.lt_succ_of_lt (wai q)))).trans (k0 b o q)))
  have ga:(((g0.update (s.heap.objs.size+1) (Obj.mapSeq λ_=>(#[]:Array Value))).push (seqObj "tuple" vs.toArray 0)).push (seqObj "list" #[] 0)).get? (s.heap.objs.size+1)=some (seqObj "list" #[] e1):=waa _ (waa _ ka1);have gk:(((g0.update (s.heap.objs.size+1) (Obj.mapSeq λ_=>(#[]:Array Value))).push (seqObj "tuple" vs.toArray 0)).push (seqObj "list" #[] 0)).get? (s.heap.objs.size+3)=some (seqObj "list" #[] 0):=by rw[<- z3];exact waj _ rfl
  show wpAny _ _ (ksk_rest (s.heap.objs.size+1) (.ref f) false vs.toArray e1 (.ref ((g0.update (s.heap.objs.size+1) (Obj.mapSeq λ_=>(#[]:Array Value))).push (seqObj "tuple" vs.toArray 0)).objs.size)) _ _ { s with heap:=((g0.update (s.heap.objs.size+1) (Obj.mapSeq λ_=>(#[]:Array Value))).push (seqObj "tuple" vs.toArray 0)).push (seqObj "list" #[] 0) };rw[z3];generalize ((g0.update (s.heap.objs.size+1) (Obj.mapSeq λ_=>(#[]:Array Value))).push (seqObj "tuple" vs.toArray 0)).push (seqObj "list" #[] 0)=g3 at k1 ga gk;have I3:L2.Inv X pS Y H { s with heap:=g3 }:=I.kept (t':=s.toks) k1;have la:s.heap.objs.size<=s.heap.objs.size+1:=waT ..;have lk:s.heap.objs.size<=s.heap.objs.size+3:=waT ..;have fa:zeE X pS H (s.heap.objs.size+1):=I.fpOk la (I.hok.fresh la);have fk:zeE X pS H (s.heap.objs.size+3):=I.fpOk lk (I.hok.fresh lk);have J:L2.Inv X (pS++(s.heap.objs.size+3,lo #[] 0)::[(s.heap.objs.size+1,lo #[] e1)]) Y H { s with heap:=g3 }:=I3.pins_of λp hp=>by
   rcases wax.mp hp with z|z
   ·exact I3.pin p (waz _ z)
   ·rcases wap.mp z with rfl|z
    ·exact ⟨gk,fk.1,fk.2.1,fk.2.2.1,λv z=>by cases z⟩
    ·rw[List.mem_singleton.mp z];exact ⟨ga,fa.1,fa.2.1,fa.2.2.1,λv z=>by cases z⟩
  refine zvf (Θ := Θ) J (λz=>absurd (Nat.add_left_cancel z) xwd) fk fa hv hlen h64 hnd hθ turn λH2 s2 t2 n2 IN=>⟨_,rfl,?_⟩
  exact wad ⟨_,rfl,.ref (s.heap.objs.size+1),_,IN,rfl,h H2 _ t2 fa.1 n2⟩
end
def zdo(F:FD):List Dt->Option (List Int)
 |[]=>some []
 |d::r=>match F [.val d] with
  |.ok (.int k,_)=>(zdo F r).map (k::·)
  |_=>none
theorem zhJ{F:FD}:∀{ds:List Dt}{ks:List Int},zdo F ds=some ks->ks.length=ds.length
 |[],ks,h=>by simp[zdo] at h;subst h;rfl
 |d::r,ks,h=>by
  unfold zdo at h;split at h
  ·simp only[Option.map_eq_some_iff] at h;obtain ⟨k',h1,rfl⟩:=h;simp[zhJ h1]
  ·cases h
theorem zhz{F:FD}:∀{ds:List Dt}{ks:List Int}{i:Nat}{k:Int}{d:Dt},zdo F ds=some ks->ks[i]? = some k->ds[i]? = some d->∃ b,F [.val d]=.ok (.int k,b)
 |[],ks,i,k,d,h,e1,e2=>by simp at e2
 |d0::r,ks,i,k,d,h,e1,e2=>by
  unfold zdo at h;split at h
  ·rename_i k0 b0 ef;simp only[Option.map_eq_some_iff] at h;obtain ⟨k',h1,rfl⟩:=h;cases i with
   |zero=>simp at e1 e2;subst e1;subst e2;exact ⟨_,ef⟩
   |succ i=>exact zhz (i:=i) h1 (by simpa using e1) (by simpa using e2)
  ·cases h
def zg8:List Int->Bool
 |[]=>true
 |a::r=>!r.contains a && zg8 r
theorem zjd:∀{l:List Int},zg8 l=true->l.Nodup
 |[],_=>.nil
 |a::r,h=>by unfold zg8 at h;rw[Bool.and_eq_true] at h;refine List.nodup_cons.mpr ⟨λz=>?_,zjd h.2⟩;have:=h.1;simp[z] at this
def zji(F:FD)(fa:De):DN:=λZ=>(fa Z).bind λa=>match a.1 with
 |.lst ds=>match zdo F ds with
  |some ks=>if (decide (ds.length<64) && zg8 ks)=true then .ok (byK ks ds,a.2) else .no
  |none=>.no
 |_=>.no
theorem zpg{d:Dt}{bs:List B}:∀{Z:Ev}{k:Nat},zhm [.d d] bs k Z = Z
 |[],_=>rfl
 |o::r,k=>by show (match zdJ [.d d] k with|some j=>bs[j]?|none=>o)::zhm [.d d] bs (k+1) r=_;rw[zpg (Z:=r)];rfl
section
variable{X:Cx}{C:Cn}{CX:CXT}{k k':Nat}{Fd:FD}{x:Str}{p pf kp pos:Pos}{a:Expr}{fa:De}
theorem zqA(D:Dfn false X.prog X.w X.K X.mg X.base CX C.xv k x [false] Fd)(hr:zew (k'+2) X.A)(hk:k<=k')(hx:zd6 CX { X with A:=X.A.in1.in1,xe:=λ_ _=>False } (λ_ _ _=>False))(hg:Gl X "sorted")(hm:X.mg "sorted"=none)(ha:JE X C a fa)(hgf:Gl X x:=by rfl)(hdb:(x == ("__debug__" : Str))=false:=by decide)
  (hs:starEach [a] X.env=(false,eval a X.env)::starEach [] X.env:=by rfl) (he:backTo pos (starEach [a] X.env)=(false,eval a X.env)::backTo pos (starEach [] X.env):=by rfl) (hplain:(backTo pos (starEach [a] X.env)).any (·.1)=false:=by rfl)
  (hall:(backToKw pos (keywordEach [⟨some "key",.Name x pf,kp⟩] X.env)).all (·.1.isSome)=true:=by rfl) (hkw:(backToKw pos (keywordEach [⟨some "key",.Name x pf,kp⟩] X.env)).any (·.1.isNone)=false:=by rfl)
  (hks:(backToKw pos (keywordEach [⟨some "key",.Name x pf,kp⟩] X.env)).filterMap (·.1)=[Str.ofString "key"]:=by rfl) :
  JN X C (.Call (.Name "sorted" p) [a] [⟨some "key",.Name x pf,kp⟩] pos) (zji Fd fa):=by
 obtain ⟨f,fd,ps,h1,h2,h3,h4,h5⟩:=D.ex;intro pS s Y H Q I ⟨G,w,Z,r,pp⟩;refine wpAny_Call_Name_kw (zdq I hg hm boot_sorted ?_);refine callWith_kw (thn (zax ha zaC hs pos pS s Y H (λvs H1=>∃ G1 w1 ad xs ds ks Z1,vs=[.ref ad]/\zbj G H w G1 H1 w1/\Rel X.K C G1 w1 Z1 Y H1/\H1 ad=some (.lst xs)/\za2 X.K G1 ds xs/\zdo Fd ds=some ks/\ds.length<64/\ks.Nodup/\kN X.K C Y Q G1 H1 w1 (byK ks ds,Z1)) I ?_) λus s1 ⟨vs,H1,I1,r1,q1⟩=>?_) he hplain hall hkw
 ·refine ⟨G,w,Z,r,?_⟩;unfold zji at pp;unfold dA dA0;cases e:fa Z with
  |ok z =>
   obtain ⟨d,Z1⟩:=z;rw[e] at pp;intro vs G1 H1 w1 s1 r1 q;obtain ⟨v,t,rfl,q1,q2⟩:=q.cons_inv;rw[q2.nil_inv];have p1:=zbV.step (κ:=λG H w=>kN X.K C Y Q G H w) zfI s1 pp;cases d with
   |lst ds =>
    simp only[R.bind_ok] at p1;split at p1
    ·rename_i ks ek;split at p1
     ·rename_i hl;rw[Bool.and_eq_true] at hl;obtain ⟨ad,zs,rfl,m1,m2⟩:=zaK q1;exact ⟨G1,w1,ad,zs,ds,ks,Z1,rfl,s1,r1,r1.gh _ _ m1,m2,ek,of_decide_eq_true hl.1,zjd hl.2,p1⟩
     ·exact waO p1
    ·exact waO p1
   |_=>exact waO p1
  |er n=>rw[e] at pp;exact pp
  |no=>rw[e] at pp;exact pp
 ·obtain ⟨G1,w1,ad,xs,ds,ks,Z1,rfl,st1,rel1,hH,hreps,ek,hl,hnd,kk⟩:=q1;obtain ⟨u,rfl,ru⟩:=zcG r1;cases ru;refine thn (zle (nm:=some "key") (kpos:=kp) (zoj (v:=.ref f) (pos:=pf) hgf h2 rfl hdb) znL pos pS s1 Y H1 (λvs H2=>vs=[.ref f]/\H2=H1) I1 ⟨rfl,rfl⟩) λws s2 ⟨zs,H2,I2,r2,e2,e3⟩=>?_;subst e2;subst e3;obtain ⟨u,rfl,ru⟩:=zcG r2;cases ru;rw[hks];show wpAny _ _ (call (.builtin "sorted") [.ref ad] [(Str.ofString "key",.ref f)]) _ _ _;obtain ⟨zz,its,n,rv,hle,eo⟩:=I2.lstM hH;have hld:=hreps.length;have hlk:=zhJ ek;refine zm0 (xs:=xs) (vs:=its) (kz:=ks) (Θ := λH3=>∃ G3 w3,zbj G1 H2 w1 G3 H3 w3/\Rel X.K C G3 w3 Z1 Y H3) I2 ⟨_,eo,rfl,n,rfl⟩ rv xwl xwl hnd ⟨G1,w1,.refl _ _ _,rel1⟩ ?_ ?_
  ·intro i u kk' hu hki pins' s' H' I' ⟨G3,w3,st3,rel3⟩;have hi:i<ds.length:=by have:=(wam.mp hki).1;lia
   have hd:ds[i]? = some ds[i]:=by simp[hi]
   obtain ⟨xv,hx1,hx2⟩:=hreps.get hd;obtain ⟨u',hu1,hu2⟩:=rv.get hx1;rw[hu] at hu1;cases hu1;obtain ⟨bb,hF⟩:=zhz ek hki hd;have hx3:=hx2.same st3.g;have IA:L2.Inv { X with A:=X.A.in1.in1,xe:=λ_ _=>False } pins' Y H' s':=zvQ I' rfl rfl;have hrun:=zrn (X:={ X with A:=X.A.in1.in1,xe:=λ_ _=>False }) (CX:=CX) (us:=[u]) (vs:=[xv]) (E:=λ_ _ _=>False) (Q:=λv H4=>v=.int kk'/\∃ G4 w4,zbj G1 H2 w1 G4 H4 w4/\Rel X.K C G4 w4 Z1 Y H4) h1 ((hr.in1.in1).mono hk) h4 .nil hx IA (.cons hu2 .nil) ?_
   ·refine wpAny_mono hrun (λv s4 hq=>?_) λ_ _ z=>z;obtain ⟨v4,H4,I4,rv4,e4,G4,w4,st4,rel4⟩:=hq;subst e4;obtain ⟨t,rfl⟩:=rv4;exact ⟨t,H4,rfl,zub I4 rfl rfl,G4,w4,st4,rel4⟩
   ·rw[List.append_nil];refine ⟨G3,wIn w3 [.d ds[i]],[.val ds[i]],rfl,rfl,⟨rel3.gh,λb e=>rel3.wg b λz=>e (by unfold wIn;rw[z];rfl),λb e=>rel3.wh b λz=>e (by unfold wIn;rw[z];rfl),rfl,λj b v e1 e2=>?_⟩,?_⟩
    ·cases j with
     |zero=>simp at e1 e2;subst e1;subst e2;exact hx3
     |succ j=>simp at e1
    ·rw[hF];intro v G4 H4 w4 s4 pb q;obtain ⟨r',st'⟩:=rel3.back (as:=[.d ds[i]]) (vs:=[xv]) (bs:=[.val ds[i]]) (ks:=[false]) rfl ⟨xv,[],rfl,hx3,rfl⟩ rfl rfl s4 pb;rw[zpg] at r';exact ⟨za3 (K:=X.K) (G:=G4) q,G4,_,st3.trans st',r'⟩
  ·intro H3 b ⟨G3,w3,st3,rel3⟩ hb0 hb3;have gr:zeF G3 H3 G3 (upd H3 b (.lst (byK ks xs))):=.newH rel3.gh hb3;exact kk b _ G3 _ w3 (st3.trans gr.step) (rel3.grow gr) hb0 za1 (rel3.gh.free hb3) (zg6 rel3 hb3) (zqT ks (hreps.same st3.g))
end
end PV
end
section
namespace PV
open PySem PySem.Spec L2
def zdh(g:DG)(ft:DT)(fe:DN):List Dt->Ev->R (List (List Dt)×Ev)
 |[],Z=>.ok ([],Z)
 |d::r,Z=>(g d Z).bind λZ1=>(ft Z1).bind λt=>if t.1=true then (fe t.2).bind λy=>(zdh g ft fe r y.2).bind λz=>.ok (y.1::z.1,z.2) else zdh g ft fe r t.2
def zmr(K:W.Frag)(H0:Hp)(D:Addr)(G H:Hp)(w:Wn)(dss:List (List Dt))(as:List Addr):Prop :=
 (D::as).Nodup/\Paired (λb ds=>H0 b=none/\G b=none/\w b=none/\∃ us,H b=some (.lst us)/\za2 K G ds us) as dss
theorem zmr.step{K:W.Frag}{H0 G H G' H':Hp}{w w':Wn}{D:Addr}{dss:List (List Dt)}{as:List Addr}(q:zmr K H0 D G H w dss as)(s:zbj G H w G' H' w'):zmr K H0 D G' H' w' dss as :=
 ⟨q.1,zdO (λb ds ⟨h1,h2,h3,us,h4,h5⟩=>by obtain ⟨k1,k2,k3⟩:=s.keep h2 h3 h4;exact ⟨h1,k1,k2,us,k3,h5.same s.g⟩) q.2⟩
theorem zfw{α β:Type}{F:α->β->Prop}:∀{l:List α}{r:List β},Paired F l r->l.length=r.length
 |_,_,.nil=>rfl
 |_,_,.cons _ t=>by simp[zfw t]
theorem zeq{α β:Type}{F:α->β->Prop}{a:α}{b:β}(h:F a b):∀{l:List α}{r:List β},Paired F l r->Paired F (l++[a]) (r++[b])
 |_,_,.nil=>.cons h .nil
 |_,_,.cons x t=>.cons x (zeq h t)
theorem zmr.len{K:W.Frag}{H0 G H:Hp}{w:Wn}{D:Addr}{dss:List (List Dt)}{as:List Addr}(q:zmr K H0 D G H w dss as):as.length=dss.length:=zfw q.2
theorem zmr.snoc{K:W.Frag}{H0 G H:Hp}{w:Wn}{D p:Addr}{dss:List (List Dt)}{ds:List Dt}{us:List V}{as:List Addr}(q:zmr K H0 D G H w dss as)(nD:p≠D)(nA:p∉as)(h0:H0 p=none)(hg:G p=none)(hw:w p=none)(hp:H p=some (.lst us))(hr:za2 K G ds us):zmr K H0 D G H w (dss++[ds]) (as++[p]):=by
 refine ⟨?_,zeq ⟨h0,hg,hw,us,hp,hr⟩ q.2⟩;have h:=q.1;rw[List.nodup_cons] at h ⊢;refine ⟨λz=>?_,?_⟩
 ·rcases wax.mp z with z|z
  ·exact h.1 z
  ·exact nD (List.mem_singleton.mp z).symm
 ·rw[List.nodup_append];exact ⟨h.2,xws,λx hx y hy=>by rw[List.mem_singleton.mp hy];exact λz=>nA (z ▸ hx)⟩
theorem zmr.updD{K:W.Frag}{H0 G H:Hp}{w:Wn}{D:Addr}{o:HO}{dss:List (List Dt)}{as:List Addr}(q:zmr K H0 D G H w dss as):zmr K H0 D G (upd H D o) w dss as :=
 ⟨q.1,zbq q.2 λb ds hb ⟨h1,h2,h3,us,h4,h5⟩=>⟨h1,h2,h3,us,by rw[zar (show b≠D from λz=>(List.nodup_cons.mp q.1).1 (by rw[<- z];exact hb))];exact h4,h5⟩⟩
section
variable{X:Cx}{C:Cn}
theorem zmJ{tg iter elt:Expr}{ifs:List Expr}{scope:Scope}{pos:Pos}{N':List Str}{m:Nat}{g:DG}{ft:DT}{fe:DN}(hc:X.calm=true)(hb:zfp X.N N' scope.names m=true)
  (hkind:scope.kind=.function) (hcell:∀ y∈scope.names,y.2≠.cell) (hfr:∀ y∈scope.names,y.2=.free->X.env.kindOf y.1=some .cell\/X.env.kindOf y.1=some .free)
  (hblk:∀ cl L s H fp G H' w Y,JG (zca X N' scope cl L s H fp) (zfR C X.N.length G H' w Y) tg g/\JTs (zca X N' scope cl L s H fp) (zfR C X.N.length G H' w Y) ifs ft/\JN (zca X N' scope cl L s H fp) (zfR C X.N.length G H' w Y) elt fe)
  {pS:List (Addr×Obj)} {Y:L2.St} {s2:Shared} {cl:List (Str×Addr)} {RR:Value->Addr->Result->Shared->Prop} {E:Value->Shared->Prop}
  (hcl:∀ x c,cl.lookup x=some c->X.env.cells.lookup x=some c) (hcf:∀ y∈scope.names,y.2=.free->∃ c,cl.lookup y.1=some c)
  {it:Addr} {fp:List Addr} {tn:Nat->Heap->Prop} {J:It} {H2:Hp} (I2:L2.Inv X pS Y H2 s2) (T:zqk X.prog X.w X.K tg J fp it tn) (st2:tn 0 s2.heap) (f2:∀ b∈fp,zeE X pS H2 b)
  {ds:List Dt} {zs:List (List Dt)} {Z1 ρf:Ev} {G1:Hp} {w1:Wn} (r1:Rel X.K C G1 w1 Z1 Y H2) (it1:zoZ X.K J G1 ds) (hfi:fits ds=true) (ec:zdh g ft fe ds (Z1++List.replicate m none)=.ok (zs,ρf))
  (fin:∀(D L:Addr)(s':Shared)(as:List Addr)(G' H':Hp)(w':Wn),L2.Inv X pS Y H' s'->zn2 X pS H' L s'->zbj G1 H2 w1 G' H' w'->Rel X.K C G' w' (ρf.take Z1.length) Y H'->H2 D=none->H' D=some (.lst (as.map V.ref))->G' D=none->w' D=none->zmr X.K H2 D G' H' w' zs as->RR (.ref D) L (.ok .next) s') :
  wpAny (model X.prog X.w) X.A (newList []) (λacc s₃=>wpAny (model X.prog X.w) X.A (newFunctionEnv scope X.env.globals cl [] X.env.qual none .none (some X.env)) (λcenv s₄ =>
   codeAny (model X.prog X.w) X.A (.compStart (.ListComp elt [⟨tg,iter,ifs,0⟩] scope pos) 0 (.ref it) acc { cenv with scope:=relabel scope X.env }) (RR acc cenv.locals) s₄) E s₃) E s2:=by
 generalize hC':zfR C X.N.length G1 H2 w1 (Y++List.replicate m none)=C';have c0:C'.H₀=H2:=by rw[<- hC'];rfl
 have cG:C'.G₀=G1:=by rw[<- hC'];rfl
 have cw:C'.w₀=w1:=by rw[<- hC'];rfl
 have hlenσ:Y.length=X.N.length:=I2.len;refine zlP (iter:=iter) (pos:=pos) (n:=ds.length) (tgt:=tG X.K C' g) (tts:=tT X.K C' ft) (te:=tN X.K C' fe) hc hb hkind hcell hfr (λL s H fp _ _ _=>by
  obtain ⟨a1,a2,a3⟩:=hblk cl L s H fp G1 H2 w1 (Y++List.replicate m none);rw[hC'] at a1 a2 a3;exact ⟨a1,a2,a3⟩) hcl hcf I2 T st2 f2
  (λD i Y' H' vs=>∃ Z' G' w' ac as,vs=as.map V.ref/\Rel X.K C' G' w' Z' Y' H'/\G' D=none/\w' D=none/\zmr X.K H2 D G' H' w' ac as/\ac.length<=i/\∃ z,zdh g ft fe (ds.drop i) Z'=.ok z/\ac++z.1=zs/\z.2 = ρf) (λD hD=>?_) (λD i Y' H' vs hD ⟨Z',G',w',ac,as,ev,r5,gd5,wd5,q5,hac,z,ez,ez1,ez2⟩ hd5 hlt=>?_) (λD Y' H' vs ⟨Z',G',w',ac,as,_,r5,_⟩=>(it1 _ G' H' (by have:=r5.en.g;rw[cG] at this;exact this) r5.gh).2 (wal _)) λD L s' vs Y' H' IX lo hD hd5 hl6 ⟨Z',G',w',ac,as,ev,r5,gd5,wd5,q5,hac,z,ez,ez1,ez2⟩=>?_
 ·have w0:w1 D=none:=by
   cases q:w1 D with
   |none=>rfl
   |some k=>exact absurd hD (r1.wh _ (by rw[q];simp))
  have base:Rel X.K C' G1 w1 (Z1++List.replicate m none) (Y++List.replicate m none) H2:=by
   refine ⟨r1.gh,r1.wg,r1.wh,by simp[r1.len],λi b e=>?_,by rw[<- hC'];exact .refl _ _ _,λi _=>by rw[<- hC'];rfl⟩;have hi':i < Z1.length:=by
    by_cases hi':i < Z1.length
    ·exact hi'
    ·rw[List.getElem?_append_right xwl,List.getElem?_replicate] at e;split at e <;> cases e
   rw[List.getElem?_append_left hi'] at e;obtain ⟨v,h1,h2⟩:=r1.sl i b e;exact ⟨v,by rw[List.getElem?_append_left (by rw[<- r1.len];exact hi')];exact h1,h2⟩
  exact ⟨Z1++List.replicate m none,G1,w1,[],[],rfl,base.upd_new (r1.gh.free hD) w0 (by rw[c0];exact hD),r1.gh.free hD,w0,⟨xws,.nil⟩,Nat.zero_le _,(zs,ρf),by simpa using ec,xws,rfl⟩
 ·subst ev;have ed:ds.drop i=ds[i]::ds.drop (i+1):=List.drop_eq_getElem_cons hlt;obtain ⟨go,yl⟩:=(it1 i G' H' (by have:=r5.en.g;rw[cG] at this;exact this) r5.gh).1 ds[i] (by simp[hlt]);refine ⟨go,λx H7 y7=>?_⟩;obtain ⟨G7,gr,rep7⟩:=yl x H7 y7;have keep7:=(gr.step (w:=w')).keep gd5 wd5 hd5;rw[ed] at ez;unfold zdh at ez;obtain ⟨Z3,e3,ez⟩:=zcp ez;obtain ⟨t4,e4,ez⟩:=zcp ez;obtain ⟨b4,Z4⟩:=t4;refine ⟨G7,w',Z',ds[i],r5.grow gr,rep7,?_⟩;rw[e3];intro Y8 G8 H8 w8 s8s r8;have keep8:=s8s.keep keep7.1 keep7.2.1 keep7.2.2;refine ⟨G8,w8,Z3,r8,?_⟩;rw[e4];intro G9 H9 w9 s9s r9;have keep9:=s9s.keep keep8.1 keep8.2.1 keep8.2.2;have q9:=q5.step (((gr.step (w:=w')).trans s8s).trans s9s);cases b4 with
  |false =>
   show (if false=true then _ else _);rw[if_neg Bool.false_ne_true];simp only[Bool.false_eq_true,if_false] at ez;exact ⟨keep9.2.2,Z4,G9,w9,ac,as,rfl,r9,keep9.1,keep9.2.1,q9,xwl,z,ez,ez1,ez2⟩
  |true =>
   show (if true=true then _ else _);rw[if_pos rfl];simp only[if_true] at ez;obtain ⟨⟨yd,Z10⟩,e10,ez⟩:=zcp ez;obtain ⟨z',ez',ez3⟩:=zcp ez;refine ⟨G9,w9,Z4,r9,?_⟩;rw[e10];intro pn us G10 H10 w10 s10s r10 n0 n1 n2 n3 q10;have keep10:=s10s.keep keep9.1 keep9.2.1 keep9.2.2;cases ez3;have nD:pn≠D:=λz=>by rw[z,keep9.2.2] at n0;cases n0
   have h20:H2 pn=none:=by have:=r9.en.k pn n0;rw[c0] at this;exact this
   have nA:pn∉as:=λz=>by obtain ⟨_,_,_,_,us',e,_⟩:=zcA q9.2 pn z;rw[n0] at e;cases e
   have hlen:=q9.len;have:=zi8 hfi;exact ⟨keep10.2.2,by rw[List.length_map];lia,Z10,G10,w10,ac++[yd],as++[pn],xws,r10.upd_new keep10.1 keep10.2.1 (by rw[c0];exact hD),keep10.1,keep10.2.1,((q9.step s10s).snoc nD nA h20 n2 n3 n1 q10).updD,by simp;lia,z',ez',by rw[<- ez1];simp,ez2⟩
 ·subst ev;simp only[List.drop_length] at ez;unfold zdh at ez;cases ez;simp only[List.append_nil] at ez1;subst ez1;subst ez2;have en':zbj G1 H2 w1 G' H' w':=by have:=r5.en;rw[cG,c0,cw] at this;exact this
  have hρlen:Z'.length=X.N.length+m:=by rw[r5.len,hl6]
  refine fin _ _ s' as G' H' w' IX lo en' ⟨r5.gh,r5.wg,r5.wh,?_,λi b e=>?_,r1.en.trans en',r1.pin⟩ hD hd5 gd5 wd5 q5
  ·rw[List.length_take,hρlen,r1.len,hlenσ];lia
  ·have hi':i < Z1.length:=by
    by_cases hi':i < Z1.length
    ·exact hi'
    ·rw[List.getElem?_eq_none (by rw[List.length_take];lia)] at e;cases e
   rw[List.getElem?_take_of_lt hi'] at e;obtain ⟨v,h1,h2⟩:=r5.sl i b e;refine ⟨v,?_,h2⟩;have hpi:=r5.pin i (by rw[<- hC'];exact List.mem_range.mpr (by rw[<- hlenσ,<- r1.len];exact hi'));rw[h1] at hpi;rw[<- hC'] at hpi;have hpi':some (some v)=(Y++List.replicate m none)[i]? := hpi;rw[List.getElem?_append_left (by rw[<- r1.len];exact hi')] at hpi';exact hpi'.symm
def zly(i:Nat)(fi:DA)(g:DG)(ft:DT)(fe:DN)(m:Nat):DS:=λZ=>(fi Z).bind λa=>if fits a.1=true then match zdh g ft fe a.1 (a.2++List.replicate m none) with
  |.ok z=>if i<a.2.length then .ok (.nx,(z.2.take a.2.length).set i (some (.own2 z.1))) else .no
  |_=>.no
 else .no
theorem Rel.setOwn2{K:W.Frag}{Y:L2.St}{G0 H0:Hp}{w0:Wn}{G H:Hp}{w:Wn}{Z:Ev}{i:Nat}{dss:List (List Dt)}{p:Addr}{as:List Addr}(r:Rel K C G w Z Y H)(hi:i < Z.length)(hpp:i∉C.pp)(hp:H p=some (.lst (as.map V.ref)))(hg:G p=none)(hw:w p=none)
  (q:zmr K H0 p G H w dss as) (s:zbj G0 H0 w0 G H w) (h0:H0 p=none) (en0:∀ b,H0 b=none->C.H₀ b=none) :
  Rel K C G (λb=>if b∈p::as then some i else w b) (Z.set i (some (.own2 dss))) (Y.set i (some (.ref p))) H/\zbj G0 H0 w0 G H (λb=>if b∈p::as then some i else w b):=by
 have fr:∀ b∈p::as,H0 b=none/\G b=none/\w b=none/\H b≠none:=λb hb=>by
  rcases wap.mp hb with rfl|hb
  ·exact ⟨h0,hg,hw,by rw[hp];simp⟩
  ·obtain ⟨ds,k1,k2,k3,us,k4,_⟩:=zcA q.2 b hb;exact ⟨k1,k2,k3,by rw[k4];simp⟩
 have s1:∀{G1 H1:Hp}{w1:Wn},zbj G1 H1 w1 G H w->(∀ b∈p::as,H1 b=none)->zbj G1 H1 w1 G H (λb=>if b∈p::as then some i else w b):=λs z=>by
  refine ⟨s.g,s.fr,s.h,λb e=>?_,s.k⟩;by_cases hb:b∈p::as
  ·exact .inr (z b hb)
  ·simp only[hb,if_false] at e;exact s.w b e
 refine ⟨⟨r.gh,λb e=>?_,λb e=>?_,by simpa using r.len,λj b e=>?_,s1 r.en (λb hb=>en0 b (fr b hb).1),λj hj=>?_⟩,s1 s λb hb=>(fr b hb).1⟩
 ·by_cases hb:b∈p::as
  ·exact (fr b hb).2.1
  ·simp only[hb,if_false] at e;exact r.wg b e
 ·by_cases hb:b∈p::as
  ·exact (fr b hb).2.2.2
  ·simp only[hb,if_false] at e;exact r.wh b e
 ·by_cases hj:j=i
  ·subst hj;rw[List.getElem?_set_self hi] at e;cases e;refine ⟨_,way (by rw[<- r.len];exact hi),p,as,rfl,xws,hp,q.1,zbq q.2 λb ds hb ⟨_,_,_,us,k4,k5⟩=>⟨?_,us,k4,k5⟩⟩;simp[wah _ hb,hb]
  ·rw[List.getElem?_set_ne (Ne.symm hj)] at e;obtain ⟨v',k1,k2⟩:=r.sl j b e;refine ⟨v',by rw[List.getElem?_set_ne (Ne.symm hj)];exact k1,k2.grow (.refl _) λa o e1 e2=>⟨e2,?_⟩⟩;have:a∉p::as:=λz=>by rw[(fr a z).2.2.1] at e1;cases e1
   simp only[this,if_false];exact e1
 ·have:i≠j:=λz=>hpp (z ▸ hj);rw[List.getElem?_set_ne this];exact r.pin j hj
theorem zk4{tg iter elt:Expr}{ifs:List Expr}{scope:Scope}{pos spos:Pos}{N':List Str}{m i:Nat}{x:Str}{px:Pos}{fi:DA}{g:DG}{ft:DT}{fe:DN}(hN:X.N.Nodup)(hix:X.N[i]? = some x)(hx:Loc X.env.scope x)(hp:i∉C.pp)(hi:JI X C tg iter fi)(hc:X.calm=true)(hb:zfp X.N N' scope.names m=true)
  (hkind:scope.kind=.function) (hcell:∀ y∈scope.names,y.2≠.cell) (hfr:∀ y∈scope.names,y.2=.free->X.env.kindOf y.1=some .cell\/X.env.kindOf y.1=some .free) (hnames:∀ y∈scope.names,y.2=.local->scope.names.lookup y.1=some .local)
  (hblk:∀ cl L s H fp G H' w Y,JG (zca X N' scope cl L s H fp) (zfR C X.N.length G H' w Y) tg g/\JTs (zca X N' scope cl L s H fp) (zfR C X.N.length G H' w Y) ifs ft/\JN (zca X N' scope cl L s H fp) (zfR C X.N.length G H' w Y) elt fe)
  (hsw:swapsWith (.ListComp elt [⟨tg,iter,ifs,0⟩] scope pos) (some (.Name x px)) spos.line X.env=pure true:=by rfl) (hf:X.fn x=true\/X.env.scope.names.lookup x=some .local:=by exact xwA)
  (hs:∀ x,foldedSetIterable iter X.env x=pure x:=by intro _;rfl):JS X C (.Assign [.Name x px] (.ListComp elt [⟨tg,iter,ifs,0⟩] scope pos) spos) (zly i fi g ft fe m):=by
 intro pS s Y H D I ⟨G,w,Z,r,p⟩;obtain ⟨cl,hclos,hcl,hcf⟩:=zf5 (scope:=scope) (env:=X.env) λy hy hf=>I.ok.has y.1 (hfr y hy hf);rw[exec_Assign_Name_used _ _ _ _ hsw];refine wab (wpAny_standAt (wab ?_));show wpAny _ X.A (do let _ <- comprehension (.ListComp elt [⟨tg,iter,ifs,0⟩] scope pos) scope X.env _ (newList []) false (eval iter X.env) (some (assign (.Name x px) X.env))) _ _ s;refine wab (wpAny_mono (wpAny_comprehension_free (use:=some (assign (.Name x px) X.env)) (Q:=λ_ s'=>SP X pS D .next s') rfl hs hclos hkind hnames ?_) (λ_ s' hq=>wad (wad hq)) λ_ _ e=>e);refine thn (hi pS s Y H (λJ H2=>∃ ds Z1 G1 w1 zs ρf,Rel X.K C G1 w1 Z1 Y H2/\zoZ X.K J G1 ds/\fits ds=true/\zdh g ft fe ds (Z1++List.replicate m none)=.ok (zs,ρf)/\i < Z1.length/\zbV C.ex (kS X.K C D G1 H2 w1) (.ok (.nx,(ρf.take Z1.length).set i (some (.own2 zs))))) I ?_) λv s1 h1=>thn h1 λitv s2 h2=>?_
 ·refine zws (κ:=λG H w=>kS X.K C D G H w) zdw r p λds Z1 J G1 H1 w1 r1 st1 it1 p1=>?_;dsimp only at p1;split at p1
  ·rename_i hfi;split at p1
   ·rename_i z ez;split at p1
    ·rename_i hl;exact ⟨ds,Z1,G1,w1,z.1,z.2,r1,it1,hfi,ez,hl,p1⟩
    ·exact waO p1
   ·exact waO p1
  ·exact waO p1
 obtain ⟨it,fp,tn,J,H2,rfl,I2,T,st2,f2,ds,Z1,G1,w1,zs,ρf,r1,it1,hfi,ec,hil,kk⟩:=h2;refine zmJ (RR:=λacc C=>compPost (model X.prog X.w) X.A X.xe (some (assign (.Name x px) X.env)) (λ_ s'=>SP X pS D .next s') acc C) hc hb hkind hcell hfr hblk hcl hcf I2 T st2 f2 r1 it1 hfi ec λDa L s' as G' H' w' I' lo st rel h0 h1 h2 h3 q=>?_;show wpAny _ X.A (assign (.Name x px) X.env (.ref Da)) _ _ _;refine wpAny_assign_Name (zhf I' hN hix hx (v:=.ref Da) rfl (λs'' I'' hch=>?_) hf);obtain ⟨mm,hn⟩:=lo.ns;obtain ⟨a,sb,ha⟩:=hch;have hLa:L≠a:=by
  rcases ha with z|z
  ·rw[z];exact lo.nl
  ·exact λy=>lo.nc x a z y.symm
 refine ⟨mm,hn.sameBut sb hLa,λh' hsb=>⟨Y.set i (some (.ref Da)),H',?_,?_⟩⟩
 ·exact I''.turned (t':=s''.toks) (λb o hb e=>(hsb.2 b hb).trans e) lo.fr lo.nl lo.nw lo.nc lo.np
 ·have hlr:i<(ρf.take Z1.length).length:=by rw[rel.len,<- r1.len];exact hil
  obtain ⟨r',s'⟩:=rel.setOwn2 hlr hp h1 h2 h3 q st h0 r1.en.k;exact kk _ _ _ _ s' r'
end
theorem zhV{α β:Type}{F F':α->β->Prop}{b:α}{d':β}:∀{l:List α}{r:List β}{j:Nat},Paired F l r->l.Nodup->l[j]? = some b->(∀ c d,c≠b->F c d->F' c d)->F' b d'->Paired F' l (r.set j d')
 |_,_,j,.nil,_,e,_,_=>by simp at e
 |x::l,y::r,0,.cons h t,nd,e,k,n=>by simp at e;subst e;refine .cons n (zbq t λc d hc q=>k c d (λz=>?_) q);subst z;exact (List.nodup_cons.mp nd).1 hc
 |x::l,y::r,j+1,.cons h t,nd,e,k,n=>by
  have e':l[j]? = some b:=by simpa using e
  refine .cons (k x y (λz=>?_) h) (zhV t (List.nodup_cons.mp nd).2 e' k n);subst z;exact (List.nodup_cons.mp nd).1 (waH e')
theorem zhR{α β:Type}{F:α->β->Prop}:∀{l:List α}{r:List β}{j:Nat}{d:β},Paired F l r->r[j]? = some d->∃ a,l[j]? = some a/\F a d
 |_,_,j,d,.nil,e=>by simp at e
 |x::l,y::r,0,d,.cons h t,e=>by simp at e;subst e;exact ⟨x,rfl,h⟩
 |x::l,y::r,j+1,d,.cons h t,e=>by obtain ⟨a,h1,h2⟩:=zhR (j:=j) t (by simpa using e);exact ⟨a,by simpa using h1,h2⟩
theorem Rel.mutate2{K:W.Frag}{C:Cn}{Y:L2.St}{G H:Hp}{w:Wn}{Z:Ev}{i j:Nat}{dss:List (List Dt)}{ds':List Dt}{a b:Addr}{as:List Addr}{us':List V}(r:Rel K C G w Z Y H)(hi:Z[i]? = some (some (.own2 dss)))(hv:Y[i]? = some (some (.ref a)))(hw:w a=some i)
  (ha:H a=some (.lst (as.map V.ref))) (nd:(a::as).Nodup) (hp:Paired (λb ds=>w b=some i/\∃ vs,H b=some (.lst vs)/\za2 K G ds vs) as dss) (hb:as[j]? = some b) (h':za2 K G ds' us') :
  Rel K C G w (Z.set i (some (.own2 (dss.set j ds')))) Y (upd H b (.lst us'))/\zbj G H w G (upd H b (.lst us')) w:=by
 have hbm:b∈as:=waH hb;obtain ⟨_,hwb,_⟩:=zcA hp b hbm;have gb:G b=none:=r.wg b (by rw[hwb];simp);have nab:a≠b:=λz=>(List.nodup_cons.mp nd).1 (z ▸ hbm);have st:zbj G H w G (upd H b (.lst us')) w:=by
  refine ⟨.refl _,λc o e=>.inl (by rw[e];simp),λc o e z=>?_,λ_ e=>.inl e,λc e=>?_⟩
  ·have:c≠b:=λq=>by subst q;rw[hwb] at z;cases z
   rw[zar this];exact e
  ·by_cases hc:c=b
   ·subst hc;rw[za1] at e;cases e
   ·rw[zar hc] at e;exact e
 refine ⟨⟨λc o e=>?_,r.wg,λc e=>?_,by simpa using r.len,λk bb e=>?_,r.en.trans st,r.pin⟩,st⟩
 ·rw[zar (zaq e gb)];exact r.gh c o e
 ·by_cases hc:c=b
  ·subst hc;rw[za1];simp
  ·rw[zar hc];exact r.wh c e
 ·by_cases hk:k=i
  ·subst hk;rw[List.getElem?_set_self (List.getElem?_eq_some_iff.mp hi).1] at e;cases e;refine ⟨_,hv,a,as,rfl,hw,by rw[zar nab];exact ha,nd,?_⟩;refine zhV hp (List.nodup_cons.mp nd).2 hb (λc ds nc ⟨q1,vs,q2,q3⟩=>⟨q1,vs,by rw[zar nc];exact q2,q3⟩) ⟨hwb,us',za1,h'⟩
  ·rw[List.getElem?_set_ne (Ne.symm hk)] at e;obtain ⟨v',h1,h2⟩:=r.sl k bb e;refine ⟨v',h1,h2.grow (.refl _) λc o e1 e2=>⟨?_,e1⟩⟩;have:c≠b:=λz=>by subst z;rw[hwb] at e1;exact hk (waA e1).symm
   rw[zar this];exact e2
def zjy(i jx:Nat)(fk:De):De:=λZ=>match Z[i]? with
 |some (some (.own2 _))=>(fk Z).bind λk=>match k.2[i]?,k.1,k.2[jx]? with
  |some (some (.own2 dss)),.int n,some (some (.val d))=>match ixN dss.length n with
   |some j=>match dss[j]? with
    |some ds=>if ds.length<16777216 then .ok (.non,k.2.set i (some (.own2 (dss.set j (ds++[d]))))) else .no
    |none=>.no
   |none=>.no
  |_,_,_=>.no
 |_=>.no
section
variable{X:Cx}{C:Cn}{k:Expr}{fk:De}{pos ps py sp apos:Pos}{x y:Str}
theorem ztO(i jx:Nat)(hk:JE X C k fk)(hN:X.N[i]? = some x:=by rfl)(hNy:X.N[jx]? = some y:=by rfl)(hv:Vis X.env.scope x:=by exact xwV)(hvy:Vis X.env.scope y:=by exact xwV)
  (hd:(x == ("__debug__" : Str))=false:=by decide) (hcd:(x == ("__classdict__" : Str))=false:=by decide) (hdy:(y == ("__debug__" : Str))=false:=by decide) (hcdy:(y == ("__classdict__" : Str))=false:=by decide)
  (hix:ziK k:=by exact λ_ _=>rfl)
  (hbase:attributeBase (.Subscript (.Name x ps) k sp) "append" X.env (eval (.Subscript (.Name x ps) k sp) X.env)=eval (.Subscript (.Name x ps) k sp) X.env:=by rfl)
  (hfew:((backTo pos (starEach [.Name y py] X.env)).all (λx=>!x.1) && (backToKw pos (keywordEach [] X.env)).all (λx=>x.1.isSome) && decide ([Expr.Name y py].length+([]:List Keyword).length+(if ([]:List Keyword).isEmpty then 0 else 1)<30))=true:=by rfl)
  (hline:(apos.endLine == pos.line)=true:=by rfl) (hs:starEach [.Name y py] X.env=(false,eval (.Name y py) X.env)::starEach [] X.env:=by rfl) (hplain:(backTo pos (starEach [] X.env)).any (·.1)=false:=by rfl) :
  JE X C (.Call (.Attribute (.Subscript (.Name x ps) k sp) "append" apos) [.Name y py] [] pos) (zjy i jx fk) :=
 PE.weak (zot PySem.F.plainAttrs_list PySem.F.slot_list_append PySem.F.type_list_append zgB (zsR zlh (zdk hN hv hd hcd) hk hix) (zbE (zdk hNy hvy hdy hcdy) zdH hs) hbase hfew hline hs hplain) λY H Q ⟨G,w,Z,r,p⟩=>by
  unfold zjy at p;split at p
  ·rename_i dss0 e0;obtain ⟨v0,h0,_⟩:=r.sl i _ e0;refine ⟨v0,h0,?_⟩;refine zee (κ:=λG H w=>kE X.K C Y Q G H w) zbU r p λd Z1 v G1 H1 w1 r1 s1 q1 p1=>?_;dsimp only at p1;split at p1
   ·rename_i dss n dy e1 ey;split at p1
    ·rename_i j ej;split at p1
     ·rename_i ds eds;split at p1
      ·rename_i hl;obtain ⟨v1,g1,a,as,rfl,g2,g3,g4,g5⟩:=r1.sl i _ e1;rw[h0] at g1;cases g1;obtain ⟨b,eb,hwb,us,hb,hrs⟩:=zhR g5 eds;obtain ⟨vy,gy,hy⟩:=r1.sl jx _ ey;have hlen:=zfw g5;have hat:atI (as.map V.ref) n=some (.ref b):=by unfold atI;rw[List.length_map,hlen,ej];simp only[Option.bind_some];rw[List.getElem?_map,eb];rfl
       have hy':Rep X.K G1 dy vy:=hy;obtain ⟨r',s'⟩:=r1.mutate2 e1 h0 g2 g3 g4 g5 eb (hrs.append (za2.cons hy' za2.nil));exact ⟨a,as.map V.ref,n,.ref b,rfl,za3 q1,SqL.of g3,hat,.inl ⟨rfl,us,SqL.of hb⟩,vy,gy,b,us,vy,rfl,rfl,hb,by rw[<- hrs.length,zcF];exact hl,p1 _ _ _ _ s' r' (by unfold Rep;rfl)⟩
      ·exact waO p1
     ·exact waO p1
    ·exact waO p1
   ·exact waO p1
  ·exact p.elim
end
theorem zu7:bootBuiltins "len"=some (.builtin "len"):=PySem.boot_len
theorem zrR:bootBuiltins "max"=some (.builtin "max"):=PyProof.Rows.boot_max
theorem zr0:bootBuiltins "min"=some (.builtin "min"):=PyProof.Rows.boot_min
theorem zvT:bootBuiltins "all"=some (.builtin "all"):=PyProof.Rows.boot_all
theorem zlV:bootBuiltins "isinstance"=some (.builtin "isinstance"):=PyProof.Rows.boot_isinstance
theorem ziG:bootBuiltins "tuple"=some (.type "tuple"):=by decide +kernel
theorem ztE:bootBuiltins "list"=some (.type "list"):=by decide +kernel
theorem zvF:bootBuiltins "int"=some (.type "int"):=by decide +kernel
theorem zs5:bootBuiltins "bool"=some (.type "bool"):=by decide +kernel
theorem zaA{X:Cx}{E:XK}:zd6 CX0 X E:=λ_ _ _ _ _ _ _ h=>h.elim
section
variable{X:Cx}{C:Cn}{a b e:Expr}{fa fb:De}{p pos:Pos}
theorem zhq(hm:X.mg "len"=none)(ha:JE X C e fa)(hg:Gl X "len":=by rfl)(hs:starEach [e] X.env=(false,eval e X.env)::starEach [] X.env:=by rfl)(hpl:(backTo pos (starEach [] X.env)).any (·.1)=false:=by rfl):JE X C (.Call (.Name "len" p) [e] [] pos) (dFn zdv (dA fa dA0)) :=
 zdW zvM zwj (zfA.or zj4) hg hm zu7 (zax ha zaC hs) xwd xwd hs hpl
theorem zvu(hc:X.calm=true)(hm:X.mg "max"=none)(ha:JE X C a fa)(hb:JE X C b fb)(hg:Gl X "max":=by rfl)(hs:starEach [a,b] X.env=(false,eval a X.env)::starEach [b] X.env:=by rfl)(hs2:starEach [b] X.env=(false,eval b X.env)::starEach [] X.env:=by rfl)(hpl:(backTo pos (starEach [b] X.env)).any (·.1)=false:=by rfl):JE X C (.Call (.Name "max" p) [a,b] [] pos) (dFn ziL (dA fa (dA fb dA0))) :=
 zdW zul zsB (zob hc) hg hm zrR (zax ha (zax hb zaC hs2) hs) xwd xwd hs hpl
theorem zuw(hc:X.calm=true)(hm:X.mg "min"=none)(ha:JE X C a fa)(hb:JE X C b fb)(hg:Gl X "min":=by rfl)(hs:starEach [a,b] X.env=(false,eval a X.env)::starEach [b] X.env:=by rfl)(hs2:starEach [b] X.env=(false,eval b X.env)::starEach [] X.env:=by rfl)(hpl:(backTo pos (starEach [b] X.env)).any (·.1)=false:=by rfl):JE X C (.Call (.Name "min" p) [a,b] [] pos) (dFn zi5 (dA fa (dA fb dA0))) :=
 zdW ztW ztd (zn3 hc) hg hm zr0 (zax ha (zax hb zaC hs2) hs) xwd xwd hs hpl
theorem zuv(hc:X.calm=true)(hm:X.mg "min"=none)(ha:JE X C e fa)(hg:Gl X "min":=by rfl)(hs:starEach [e] X.env=(false,eval e X.env)::starEach [] X.env:=by rfl)(hpl:(backTo pos (starEach [] X.env)).any (·.1)=false:=by rfl):JE X C (.Call (.Name "min" p) [e] [] pos) (dFn zj8 (dA fa dA0)) :=
 zdW zsq zt8 (zoz hc) hg hm zr0 (zax ha zaC hs) xwd xwd hs hpl
theorem zuy(hc:X.calm=true)(hm:X.mg "max"=none)(ha:JE X C e fa)(hg:Gl X "max":=by rfl)(hs:starEach [e] X.env=(false,eval e X.env)::starEach [] X.env:=by rfl)(hpl:(backTo pos (starEach [] X.env)).any (·.1)=false:=by rfl):JE X C (.Call (.Name "max" p) [e] [] pos) (dFn zkk (dA fa dA0)) :=
 zdW zto zsp (zn9 hc) hg hm zrR (zax ha zaC hs) xwd xwd hs hpl
theorem zve(hc:X.calm=true)(hm:X.mg "all"=none)(ha:JE X C e fa)(hg:Gl X "all":=by rfl)(hs:starEach [e] X.env=(false,eval e X.env)::starEach [] X.env:=by rfl)(hpl:(backTo pos (starEach [] X.env)).any (·.1)=false:=by rfl):JE X C (.Call (.Name "all" p) [e] [] pos) (dFn zmw (dA fa dA0)) :=
 zdW zuT zuB (zon hc) hg hm zvT (zax ha zaC hs) xwd xwd hs hpl
theorem znY(hm:X.mg "tuple"=none)(ha:JE X C e fa)(hg:Gl X "tuple":=by rfl)(hs:starEach [e] X.env=(false,eval e X.env)::starEach [] X.env:=by rfl)(hpl:(backTo pos (starEach [] X.env)).any (·.1)=false:=by rfl):JE X C (.Call (.Name "tuple" p) [e] [] pos) (dFn zfG (dA fa dA0)) :=
 zoP zpN zpL ziP hg hm ziG (zax ha zaC hs) xwd xwd hs hpl
theorem zvY(hm:X.mg "list"=none)(ha:JE X C e fa)(hg:Gl X "list":=by rfl)(hs:starEach [e] X.env=(false,eval e X.env)::starEach [] X.env:=by rfl)(hpl:(backTo pos (starEach [] X.env)).any (·.1)=false:=by rfl):JN X C (.Call (.Name "list" p) [e] [] pos) (zf9 zlp (dA fa dA0)) :=
 zod zt1 ztH zjZ hg hm ztE (zax ha zaC hs) xwd xwd hs hpl
end
theorem zcT{nw:Bool}{P:Program}{w:World}{K:W.Frag}{mg:Str->Option Value}{base:Heap}{CX:CXT}{xv:Nat->Value}{k:Nat}{x qual:Str}{st:Stmt}{f:Addr}{fd:FuncData}{ps:List Str}{ks:List Bool}(hl:ps.length=ks.length)(U:Fun K x qual st f fd)(hm:mg x=some (.ref f))(hb:zgy K fd ps []) :
  Dfn nw P w K mg base CX xv k x ks (λ_=>.no) :=
 ⟨f,fd,ps,⟨λvs H Q E ⟨_,_,_,h,_⟩=>h.trans hl.symm,λ_ _ _ _ _ _ _ _ _ _ _ _ _ ⟨_,_,_,_,_,_,h⟩=>waO h⟩,hm,U.kp,hb,λbs h=>absurd rfl h⟩
theorem zhk{k:Nat}{A:Around}(hr:zew k A):A.units+64<cLine:=by have:=hr.un;lia
theorem zwr{k:Nat}{A:Around}(hr:zew k A):A.units+65<cLine:=by have:=hr.un;lia
theorem zb7{names:List (Str×NameKind)}(h:(names.all λy=>y.2 != .cell)=true):∀ y∈names,y.2≠.cell:=λy hy z=>by rw[List.all_eq_true] at h;have:=h y hy;rw[z] at this;simp at this
theorem zcO{names:List (Str×NameKind)}(h:(names.all λy=>y.2 != .local || (names.lookup y.1 == some .local))=true):∀ y∈names,y.2=.local->names.lookup y.1=some .local:=λy hy z=>by rw[List.all_eq_true] at h;have:=h y hy;rw[z] at this;simpa using this
theorem zcS{names:List (Str×NameKind)}{env:Env}(h:(names.all λy=>y.2 != .free || (env.kindOf y.1 == some .cell || env.kindOf y.1 == some .free))=true):∀ y∈names,y.2=.free->env.kindOf y.1=some .cell\/env.kindOf y.1=some .free:=λy hy z=>by rw[List.all_eq_true] at h;have:=h y hy;rw[z] at this;simpa using this
end PV
end
section
namespace PV
open PySem PySem.Spec L2 PyProof.Rows
def CXf(P:Program)(w:World):CXT:=λouter H s E e s' =>
 ∃(l:Addr)(cls a0:Value)(B:Heap)(H':Hp),e=.ref l/\s'.os=s.os/\AllBare s'.gens/\Un (frs outer) [] H H' s.heap s'.heap/\HOk P w H' s'.heap/\Heap.FlyingW B outer l cls a0 s'.heap /\
  (∀ b o,s.heap.get? b=some o->b∉frs outer->∃ u,B.get? b=some u)/\(∀ b u,H' b=some u->∃ o,B.get? b=some o)/\s.heap.get? l=none/\E cls none H'
def CXm:CXT:=λ_ H s E e s'=>∃(l:Addr)(cls:Value)(args:List Value)(h':Heap),e=.ref l/\s'={ s with heap:=h' }/\Heap.MadeExcOf s.heap h' l cls args/\E cls none H
def CXe(P:Program)(w:World):CXT:=λouter H s E e s'=>CXf P w outer H s E e s'\/CXm outer H s E e s'
theorem CXf.imp{P:Program}{w:World}{outer:List Env}{H:Hp}{s s':Shared}{E E':XK}{e:Value}(h:CXf P w outer H s E e s')(k:∀ u a H',E u a H'->E' u a H'):CXf P w outer H s E' e s':=by obtain ⟨l,cls,a0,B,H',h1,h2,h3,h4,h5,h6,h7,h8,h9,h10⟩:=h;exact ⟨l,cls,a0,B,H',h1,h2,h3,h4,h5,h6,h7,h8,h9,k _ _ _ h10⟩
theorem CXe.none{P:Program}{w:World}{outer:List Env}{H:Hp}{s s':Shared}{e:Value}(h:CXe P w outer H s (λ_ _ _=>False) e s'):False:=by rcases h with ⟨_,_,_,_,_,_,_,_,_,_,_,_,_,_,z⟩|⟨_,_,_,_,_,_,_,z⟩ <;> exact z
structure Xcls(K:W.Frag)(C:Addr):Prop where
 ex:∃ bm N nm q bs hdct sn sub ab col dd k0 k1 k2 k3 k5,K.lookup C=some (excClassObj nm q C N bs bm hdct sn sub ab col dd k0 k1 k2 k3 k5 "ValueError.__new__")/\(∀ h:Heap,K.In h->∃ mN,h.Ns N mN/\mN "__init__"=none)/\(∀ h:Heap,K.In h->OwnTail h [.type "ValueError",.type "Exception",.type "BaseException",.type "object"] bm)
section
variable{X:Cx}{C:Cn}{x:Str}{Cc:Addr}{np cpos pos:Pos}{e:Expr}{es:List Expr}{fa:DA}{n:Nat}{P:Program}{w:World}
end
abbrev bmV:List Value:=[.type "ValueError",.type "Exception",.type "BaseException",.type "object"]
structure Xin(K:W.Frag)(D:Addr):Prop where
 exc:W.excIn K D bmV "ValueError.__new__"=true
 ga:W.findIn K (.ref D) "__getattribute__"=some (some (.builtin "BaseException.__getattribute__"))
 gh:W.findIn K (.ref D) "__getattr__"=some none
 gc:W.findIn K (.ref D) "__class__"=some (some (.builtin "object.__class__"))
 mb:W.subIn K (.ref D) (.type "BaseException")=some true
theorem znp{K:W.Frag}{C:Addr}(q:W.excIn K C bmV "ValueError.__new__"=true):∃ bm N nm qn bs hd sn sub ab col dd k0 k1 k2 k3 k5,
  K.lookup C=some (excClassObj nm qn C N bs bm hd sn sub ab col dd k0 k1 k2 k3 k5 "ValueError.__new__")/\W.tailIn K bmV bm=true/\W.nsOkIn K N=true/\W.nsIn K N "__init__"=some none:=by
 unfold W.excIn at q;split at q
 ·rename_i dd cd sl lk;split at q
  ·rename_i C2 bm k0 k1 k2 k3 mk k5 em es;simp only[wae,beq_iff_eq,Bool.not_eq_true'] at q;obtain ⟨⟨⟨⟨⟨e1,e2⟩,e3⟩,e4⟩,e5⟩,e6⟩:=q;subst e1 e2;obtain ⟨nm,bs,mro,ns,qn,hd,sn,sub,ab,col,del⟩:=cd;obtain ⟨sll⟩:=sl;dsimp only at em es e3 e5 e6;subst em e3 es;exact ⟨bm,ns,nm,qn,bs,hd,sn,sub,ab,col,dd,k0,k1,k2,k3,k5,lk,e4,e5,e6⟩
  ·cases q
 ·cases q
theorem Xin.cls{K:W.Frag}{C:Addr}(x:Xin K C):Xcls K C:=by obtain ⟨bm,N,nm,qn,bs,hd,sn,sub,ab,col,dd,k0,k1,k2,k3,k5,lk,e4,e5,e6⟩:=znp x.exc;exact ⟨bm,N,nm,qn,bs,hd,sn,sub,ab,col,dd,k0,k1,k2,k3,k5,lk,λh X=>⟨_,.of_isNs (W.isNs_of_in X e5),W.nsMap_none_of_in X e5 e6⟩,λh X=>W.tail_of_in X e4⟩
section
variable{prog:Program}{w:World}{A:Around}{E:Value->Shared->Prop}{hh:Heap}{gg:Array GenState}{dr:Drawn}{tt:Nat}{os:OsState}{l C:Addr}{ob:Obj}{K:W.Frag}
end
section
variable{X:Cx}{C:Cn}{i:Nat}{Cc C2:Addr}{b:Bool}{x x2:Str}{p px p2 pos:Pos}
end
def zwP(XR:Cx)(N:List Str)(scope:Scope)(cl:List (Str×Addr))(qual:Str)(Fa:Addr)(cdv:Value)(s:Shared)(H:Hp)(E:XK):Cx where
 prog:=XR.prog
 w:=XR.w
 K:=XR.K
 mg:=XR.mg
 base:=XR.base
 A:=XR.A.deeper (W.envX qual scope s.heap.objs.size Fa cdv cl)
 N:=N
 s₀:=s
 H₀:=H
 env:=W.envX qual scope s.heap.objs.size Fa cdv cl
 outer:=XR.stack
 stack:=W.envX qual scope s.heap.objs.size Fa cdv cl::XR.stack
 ex:=[]
 fn:=λ_=>false
 calm:=true
 pn:=[]
 xe:=λe s'=>wpAny (model XR.prog XR.w) (XR.A.deeper (W.envX qual scope s.heap.objs.size Fa cdv cl)) (leaving (W.envX qual scope s.heap.objs.size Fa cdv cl) e) (λ_ s''=>CXf XR.prog XR.w XR.stack H s E e s'') (λ_ _=>False) s'
def zw8(names:List (Str×NameKind)):Bool:=names.all λy=>match y.2 with
 |.free=>true
 |.globalImplicit=>true
 |_=>false
structure zwt(N:List Str)(names:List (Str×NameKind))(cl:List (Str×Addr))(Y:L2.St)(H:Hp)(h:Heap):Prop where
 inj:∀ x y c,cl.lookup x=some c->cl.lookup y=some c->x=y
 has:∀ x,names.lookup x=some .free->∃ c,cl.lookup x=some c
 is:∀ x c,cl.lookup x=some c->(∃ v,h.IsCell c v)/\H c=none
 val:∀(i:Nat)(x:Str)(v:V),N[i]? = some x->Y[i]? = some (some v)->names.lookup x=some .free->∃ u c,zby v u/\cl.lookup x=some c/\h.IsCell c (some u)
section
variable{XR:Cx}{pS:List (Addr×Obj)}{σR Y:L2.St}{H:Hp}{s:Shared}{N:List Str}{scope:Scope}{cl:List (Str×Addr)}{qual name:Str}{Fa c':Addr}{params:Arguments}{body:Expr}{pm ctv:Value}{E:XK}
end
def ztf(Z:Ev):Ev:=Z.map λo=>match o with
 |some (.val d)=>some (.val d)
 |_=>none
section
variable{X:Cx}{pS:List (Addr×Obj)}{Y:L2.St}{H:Hp}{s:Shared}
end
def EL(Cc:Addr)(H:Hp):XK:=λu _ H'=>u=.ref Cc/\zcz H H'
section
variable{X:Cx}{p1 p2 p3 p4 p5 p6 p7 p8 p9:Pos}{Cc Cs Fa:Addr}{H0:Hp}{iF ierr ie:Nat}{xF xerr xe xS:Str}
end
def fHO(a:Addr)(ob:Obj):HO:=.ext λh=>h.get? a=some ob
structure ztP(X:Cx)(P:Addr):Prop where
 code:∃ c,X.env.code=.ref c/\W.CodeHd X.base c P
 blt:X.base.BuiltinsAt X.mg P
theorem zmo{P:Program}{w:World}{H:Hp}{h:Heap}{a:Addr}{φ : Heap->Prop}{o:Obj}(h1:φ h)(h2:h.get? a=some o)(h3:∀ x y:Heap,φ x->(∀ o,x.get? a=some o->y.get? a=some o)->φ y):zcE P w H h a (.ext φ):=⟨h1,⟨o,h2⟩,h3⟩
structure TabOk(P:Addr)(q:Str)(G H:Hp)(ps:Array Value):Prop where
 at_:H P=some (.tbl ps)
 tri:TriplesOk ps.toList
 cod:∀ pos cv,codeAmong pos ps.toList=some cv->∃ c,cv=.ref c/\G c=some (cHO c q)
section
variable{X:Cx}{pS:List (Addr×Obj)}{Y:L2.St}{H:Hp}{s:Shared}{P:Addr}{q:Str}{params:Arguments}{body:Expr}{scope:Scope}{pos:Pos}{cl:List (Str×Addr)}{ps:Array Value}{Q:VK}
end
section
variable{X:Cx}{C:Cn}{p1 p2 p3 p4 p5 p6 p7 p8 p9:Pos}{Cc Cs Fa:Addr}{iF ierr ie:Nat}{xF xerr xe xS:Str}
end
section
variable{K:W.Frag}{C:Cn}{G H:Hp}{w:Wn}{Z:Ev}{Y:L2.St}{j:Nat}{q:Str}{P c Fa:Addr}{ps:Array Value}{a b:Int}{t u:Tok}{ob:Obj}
end
def zwK(C:Cn)(G H:Hp)(Y:L2.St):Cn:=⟨G,H,λ_=>none,[0],Y,λ_=>False,C.xv,true⟩
abbrev HB(X:Cx)(C:Cn)(xr:Str)(st:Stmt)(f:Addr)(NR:List Str)(k:Nat)(cls:Nat->Addr)(dB:Nat->Addr->DS):Prop:=∀(XR:Cx)(CR:Cn)(n:Nat)(Fa:Addr),n<8->(∃ cdv A outer s H E,XR=zpq (CXe X.prog X.w) X.prog X.w X.K X.mg X.base NR xr (zak st) f cdv A outer s H E)->(∃ G H,CR=zwK C G H (start NR [.ref Fa]))->zew (k+1) XR.A ->
   (∀ pS Y H s,L2.Inv XR pS Y H s->zcz CR.H₀ H->codeAny (model XR.prog XR.w) XR.A (.call (.ref Fa) ⟨[],[]⟩) (λr s'=>∃ e,r=.error e/\CXf XR.prog XR.w XR.stack H s (EL (cls n) H) e s') s) ->
   (∀ pS Y H s,L2.Inv XR pS Y H s->zcz CR.H₀ H->W.FnAt Fa s.heap)->JSs XR CR (zc7 st) (dB n (cls n))
abbrev HD(m:Nat)(dB:Nat->Addr->DS):Prop:=∀ n C',n<8->∃ Z',dB n C' (some .opq::List.replicate m none)=.ok (.rt (.lst [.int n]),Z')
abbrev HL(X:Cx)(xv:Nat->Value)(k:Nat)(body:Expr)(scope:Scope)(fE:De):Prop:=∀(XL:Cx)(CL:Cn),(∃ XR cl Fa cdv s H E,XR.prog=X.prog/\XR.w=X.w/\XR.K=X.K/\XR.mg=X.mg/\XR.base=X.base/\XL=zwP XR X.N scope cl (X.env.qual++"<lambda>") Fa cdv s H E)->CL.xv=xv->zew k XL.A->zd6 (CXe X.prog X.w) XL (EXc CL)->JE XL CL body fE
abbrev HA(X:Cx)(params:Arguments)(body:Expr)(scope:Scope):Prop:=∀ cl pm cdv ctv,bindArgs (W.kla_fn "<lambda>" (X.env.qual++"<lambda>") params body scope cl pm cdv ctv) ⟨[],[]⟩=pure []
abbrev kLo(X:Cx)(params:Arguments)(body:Expr)(scope:Scope)(cl:List (Str×Addr))(c:Addr)(ctv:Value):Obj:=W.kla_obj "<lambda>" (X.env.qual++"<lambda>") params body scope cl ((X.mg "__name__").getD .none) c ctv
structure zvZ(X:Cx)(xv:Nat->Value)(k:Nat)(params:Arguments)(body:Expr)(scope:Scope)(fE:De):Prop where
 hE:HL X xv k body scope fE
 hfr:Hfr X scope
 hbind:HA X params body scope
 hdef:defaultsOf params X.env=([],[]):=by rfl
 hk:scope.kind=.function:=by rfl
 ho:zw8 scope.names=true:=by rfl
 hco:scope.isCoroutine=false:=by rfl
 hgen:scope.isGenerator=false:=by rfl
structure zp7(X:Cx)(xv:Nat->Value)(k n:Nat)(Z:Ev)(G:Hp)(Fa:Addr):Prop where
 ex:∃ params body scope cl c ctv fE,zvZ X xv k params body scope fE/\(∀ x cc,cl.lookup x=some cc->X.env.cells.lookup x=some cc)/\(∀ y∈scope.names,y.2=.free->∃ c,cl.lookup y.1=some c) /\
  G Fa=some (fHO Fa (kLo X params body scope cl c ctv))/\G c=some (cHO c (X.env.qual++"<lambda>"))/\fE (ztf Z)=.er n
theorem zp7.same{X:Cx}{xv:Nat->Value}{k n:Nat}{Z:Ev}{G G':Hp}{Fa:Addr}(L:zp7 X xv k n Z G Fa)(e:zcz G G'):zp7 X xv k n Z G' Fa:=by obtain ⟨params,body,scope,cl,c,ctv,fE,h1,h2,h3,h4,h5,h6⟩:=L.ex;exact ⟨params,body,scope,cl,c,ctv,fE,h1,h2,h3,e _ _ h4,e _ _ h5,h6⟩
section
variable{X:Cx}{C:Cn}{P:Addr}{params:Arguments}{body:Expr}{scope:Scope}{lpos:Pos}{cl:List (Str×Addr)}
end
section
variable{X:Cx}{C CY:Cn}{f:Addr}{fd:FuncData}{st:Stmt}{xq xr:Str}{NR:List Str}{m k n:Nat}{dB:Nat->Addr->DS}
end
section
variable{X:Cx}{C:Cn}{P f:Addr}{fd:FuncData}{st:Stmt}{xq xr:Str}{NR:List Str}{m k j:Nat}{p pos lpos:Pos}{params:Arguments}{body:Expr}{scope:Scope}{fE:De}{dB:Nat->Addr->DS}
end
section
variable{X:Cx}{C:Cn}{a b:Expr}{fa fb:De}{pos:Pos}
def zgo:Dt->Dt->R Dt
 |.tup x,.tup y=>if x.length+y.length<=16777216 then .ok (.tup (x++y)) else .no
 |_,_=>.no
def zuU(K:W.Frag):R2:=λx y H Q=>∃ a b xs ys,x=.ref a/\y=.ref b/\SqT K H a xs/\SqT K H b ys/\xs.length+ys.length<=sizeLine /\
 (xs=[]->Q (.ref b) H)/\(xs≠[]->ys=[]->Q (.ref a) H)/\(xs≠[]->ys≠[]->∀ p,H p=none->Q (.ref p) (upd H p (.tup (xs++ys))))
theorem zqb{prog:Program}{w:World}{A:Around}{E:Value->Shared->Prop}{s:Shared}{t b:Addr}{ws:List Value}{Q:Value->Shared->Prop}(ht:IsTup s.heap t ([]:List Value).toArray)(hb:IsTup s.heap b ws.toArray)(h:Q (.ref b) s) :
  wpAny (model prog w) A (binaryOp .Add (.ref t) (.ref b)) Q E s:=by
 obtain ⟨⟨c1,d1,dt1,sl1⟩,e1,q1,n1,r1⟩:=id ht;obtain ⟨⟨c2,d2,dt2,sl2⟩,e2,q2,n2,r2⟩:=id hb;simp only at q1 r1 q2 r2;subst q1 r1 q2 r2;exact concat_meets ⟨_,e1,rfl⟩ ⟨_,e2,rfl⟩ noFill_tuple_add seq_tuple_add F.slot_tuple_add F.entry_tuple_add (F.args_tuple_add_2 _ _) (tuple_addW0 t b ([]:List Value).toArray ws.toArray n1 n2 d1 d2 sl1 sl2 rfl) ⟨e1,e2,h⟩
theorem ztT:OpR X (binaryOp .Add) (zuU X.K):=by
 intro pS s Y H x y v u Q I rx ry h;obtain ⟨a,b,xs,ys,rfl,rfl,ha,hb,hz,q0,q1,q2⟩:=h;by_cases hx:xs=[]
 ·subst hx;cases rx;cases ry;obtain ⟨its,r1,p1,_⟩:=I.tuple ha;obtain ⟨its2,r2,p2,_⟩:=I.tuple hb;obtain rfl:its=[]:=by cases r1;rfl
  exact zqb p1 p2 ⟨.ref b,H,I,rfl,q0 rfl⟩
 ·exact zsU pS s Y H _ _ v u Q I rx ry ⟨a,b,xs,ys,rfl,rfl,ha,hb,hx,hz,q1 hx,q2 hx⟩
theorem zpz:Op2 X.K (zuU X.K) zgo:=λG H x y dx dy z Q sm hx hy e k=>by
 unfold zgo at e;split at e
 ·rename_i l l';split at e
  ·rename_i hl;cases e;obtain ⟨a,vs,rfl,h1,h2⟩:=zb4 hx;obtain ⟨b,us,rfl,h3,h4⟩:=zb4 hy;have nil_of:∀{m:List Dt}{ws:List V},za2 X.K G m ws->ws=[]->m=[]:=λ{m ws} r z=>by have:=r.length;rw[z] at this;exact List.length_eq_zero_iff.mp this
   refine ⟨a,b,vs,us,rfl,rfl,zaE sm h1,zaE sm h3,by rw[<- h2.length,<- h4.length,zcF];exact hl,λz=>?_,λ_ z=>?_,λ_ _ p hp=>?_⟩
   ·rw[nil_of h2 z] at k;exact k _ G H (.refl sm) hy
   ·rw[nil_of h4 z,List.append_nil] at k;exact k _ G H (.refl sm) hx
   ·have gr:zeF G H (upd G p (.tup (vs++us))) (upd H p (.tup (vs++us))):=.new sm hp;exact k _ _ _ gr (by unfold Rep;exact ⟨p,_,rfl,zhT.of za1,(h2.same gr.g).append (h4.same gr.g)⟩)
  ·cases e
 ·cases e
theorem zoa:zix zgo:=λx y n h=>by
 unfold zgo at h;split at h
 ·split at h <;> cases h
 ·cases h
theorem zt9(ha:JE X C a fa)(hb:JE X C b fb):JE X C (.BinOp a .Add b pos) (dOp zgo fa fb):=zk8 ztT zpz zoa ha hb
end
section
variable{X:Cx}{C:Cn}
theorem JE.eq{e:Expr}{f g:De}(h:JE X C e f)(q:f=g):JE X C e g:=q ▸ h
theorem JA.eq{e:List Expr}{f g:DA}(h:JA X C e f)(q:f=g):JA X C e g:=q ▸ h
end
section
variable{X:Cx}{C:Cn}{a b:Expr}{fa fb:De}{pos:Pos}
end
end PV
end
section
namespace PV
open PySem PySem.Spec L2
open AutoSeq1 (wpAny_loadPart')
theorem zie(l:Addr)(items:Array Value)(n:Nat)(dd:Option Addr)(sl:Array (Option Value))(x:Value)(e:Value->Bool)(j:Nat)(hj:j<items.size)
  (hit:e items[j]=true) (hno:∀ m (hm:m<items.size),m<j->e items[m]=false) :
  Meets (Builtin.«tuple.index» ⟨[.ref l,x],[]⟩)
   (λA R s=>s.heap.get? l=some { cls:=.type "tuple",dict:=dd,data:=.seq items n,slots:=sl }/\(∀ y,y∈items->SeqAt.EqAt A.in1 s y x (e y))/\R (.ok (.ret (.int j s.toks))) { s with toks:=s.toks+1 }) :=
 .of_wp λprog w A R s h=>by
  obtain ⟨hp,g,d,tk,os⟩:=s;obtain ⟨hl,he,h⟩:=h
  wp_walk using wpAny_loadPart' hl
  change wpAny _ _ (forIn (m:=Sem) (Std.Legacy.Range.mk 0 (min items.size items.size) 1 xwd) (none,()) (λ(i:Nat) (__s:Option _×Unit)=>match items[i]? with
      |some y=>(do
       let b <- eqBool y x
       if b=true then do
         let r <- retInt i
         pure (ForInStep.done (some r,()))
        else pure (ForInStep.yield (none,())))
      |_=>pure (ForInStep.yield (none,())))) _ _ _
  rw[Std.Legacy.Range.forIn_eq_forIn_range'];simp only[Std.Legacy.Range.size,Nat.sub_zero,Nat.add_sub_cancel,Nat.div_one,Nat.min_self];refine wpAny_forIn_list _ (λzaX b s'=>b.1=none/\s'=⟨hp,g,d,tk,os⟩/\∃ i,zaX=List.range' i (items.size-i)/\i<=j) _ ?_ ?_ _ _ ⟨rfl,rfl,0,rfl,Nat.zero_le _⟩
  ·rintro i zaX b s' ⟨hb,rfl,k,hr,hk⟩;have hlt:k<items.size:=by lia
   obtain ⟨rfl,hrest⟩ : i=k/\zaX=List.range' (k+1) (items.size-(k+1)):=by
    have e:items.size-k=(items.size-(k+1))+1:=by lia
    rw[e,List.range'_succ] at hr;injection hr with h1 h2;exact ⟨h1,h2⟩
   rw[Array.getElem?_eq_getElem hlt];refine wab (he _ (Array.getElem_mem hlt) prog w _ _ ?_);by_cases hij:i=j
   ·subst hij;rw[hit]
    wp_walk
    exact ⟨_,rfl,h⟩
   ·rw[hno i hlt xwl]
    wp_walk
    exact ⟨rfl,rfl,i+1,hrest,xwl⟩
  ·rintro b s' ⟨hb,rfl,i,hr,hi⟩;have:items.size-i=0:=by
    cases e:items.size-i with
    |zero=>rfl
    |succ m=>rw[e,List.range'_succ] at hr;cases hr
   lia
section
variable{X:Cx}{C:Cn}{a b o e:Expr}{es:List Expr}{fa fb:De}{pos apos cpos:Pos}{name:Str}{id:String}{to:TE}{t:TA}{r:V->List V->Hp->VK->Prop}
theorem zu4{pS:List (Addr×Obj)}{Y:L2.St}{H:Hp}{s:Shared}{ad:Addr}{xs:List V}(I:L2.Inv X pS Y H s)(h:zhT X.K H ad xs):s.TypeIs (.ref ad) "tuple"/\∀ b,Value.ref ad=.ref b->∃ ob,s.heap.get? b=some ob/\ob.dict=none:=by
 rcases h with h|⟨its,n,h,_⟩
 ·obtain ⟨z,its,r,n,e⟩:=I.hok ad _ h;exact ⟨⟨_,e,rfl⟩,λb q=>by cases q;exact ⟨_,e,rfl⟩⟩
 ·have e:=I.kIn ad _ h;exact ⟨⟨_,e,rfl⟩,λb q=>by cases q;exact ⟨_,e,rfl⟩⟩
def tBT(K:W.Frag)(r:V->List V->Hp->VK->Prop)(to:TE)(t:TA):TE:=λY H Q=>to Y H λx H1=>(∃ ad xs,x=.ref ad/\zhT K H1 ad xs)/\t Y H1 λxs H2=>r x xs H2 Q
theorem zuz(slot:Slot "tuple" name id)(hty:typeOf (.builtin id)=pure (.type "method_descriptor"))(hm:MtR X id r)(ho:PE X o to)(ha:PA X (e::es) t)
  (hbase:attributeBase o name X.env (eval o X.env)=eval o X.env:=by rfl)
  (hfew:((backTo cpos (starEach (e::es) X.env)).all (λx=>!x.1) && (backToKw cpos (keywordEach [] X.env)).all (λx=>x.1.isSome)
   && decide ((e::es).length+([]:List Keyword).length+(if ([]:List Keyword).isEmpty then 0 else 1)<30))=true:=by rfl)
  (hline:(apos.endLine == cpos.line)=true:=by rfl) (hs:starEach (e::es) X.env=(false,eval e X.env)::starEach es X.env:=by rfl) (hplain:(backTo cpos (starEach es X.env)).any (·.1)=false:=by rfl) :
  PE X (.Call (.Attribute o name apos) (e::es) [] cpos) (tBT X.K r to t):=by
 intro pS s Y H Q I h;refine wpAny_Call_method_late hbase hfew hline rfl (thn (ho pS s Y H _ I h) λv s1 ⟨x,H1,I1,r1,⟨ad,xs,ex,hx⟩,q1⟩=>?_);subst ex;cases r1;obtain ⟨h1,h2⟩:=zu4 I1 hx;refine ⟨"tuple",id,PySem.F.plainAttrs_tuple,slot,hty,h1,h2,?_⟩;have hA:=ha cpos pS s1 Y H1 _ I1 q1;rw[hs] at hA ⊢;refine Calls.callWith_builtin (by show (false || (backTo cpos (starEach es X.env)).any (·.1))=false;rw[hplain] <;> rfl) (Calls.evalArgs_plain ?_);exact thn hA λus s2 ⟨vs,H2,I2,r2,q2⟩=>hm pS s2 Y H2 (.ref ad) vs (.ref ad) us Q I2 rfl r2 q2
def zw0(K:W.Frag):V->List V->Hp->VK->Prop:=λx vs H Q=>∃ ad zs dx ds j y,x=.ref ad/\vs=[y]/\SqT K H ad zs/\za2 K H ds zs/\Rep K H dx y/\okN 60 dx=true/\ds.all (okN 60)=true/\zk9 dx ds=some j/\Q (.int j) H
theorem znr(hu:X.A.units+65<cLine):MtR X "tuple.index" (zw0 X.K):=by
 intro pS s Y H x vs v us Q I rx rv h;obtain ⟨ad,zs,dx,ds,j,y,rfl,rfl,hH,h1,h2,h3,h4,h5,q⟩:=h;cases rx;obtain ⟨u,rfl,ru⟩:=zaR.one rv;have hu1:X.A.in1.units+64<cLine:=by rw[zgE];lia
 obtain ⟨its,rr,ht,hz⟩:=I.tuple hH;obtain ⟨⟨oc,od,odt,osl⟩,e,hc,n,hd⟩:=ht;dsimp only at hc hd;subst hc hd;obtain ⟨k1,k2,k3⟩:=zhi h5;have hlen:ds.length=its.length:=by rw[h1.length,rr.length]
 refine PySem.call_meets F.slot_tuple_index ⟨_,e,rfl⟩ F.entry_tuple_index (F.args_tuple_index_2 _ _)
  (zie ad its.toArray n od osl u (zm6 X.K H dx) j (by rw[List.size_toArray];lia) ?_ ?_) ⟨e,λw hw=>zdB I hu1 h3 h2 ru h4 h1 rr w (by simpa using hw),?_⟩
 ·have:=zeX I (dx:=dx) (i:=j) k1 xwl h4 h1 rr;simpa [this] using k2
 ·intro m hm hlt;have hm':m<its.length:=by simpa using hm
  have:=zeX I (dx:=dx) (i:=m) xwl hm' h4 h1 rr;have e3:=k3 m xwl hlt;simpa [this] using e3
 ·exact ⟨.int j,H,I.kept (t':=s.toks+1) (λ_ _ q=>q),⟨_,rfl⟩,q⟩
def zks(fa fb:De):De:=λZ=>(fa Z).bind λa=>match a.1 with
 |.tup ds=>(fb a.2).bind λb=>if (okN 60 b.1 && ds.all (okN 60))=true then match zk9 b.1 ds with
   |some j=>.ok (.int j,b.2)
   |none=>.no
  else .no
 |_=>.no
theorem zol(hu:X.A.units+65<cLine)(ha:JE X C a fa)(hb:JE X C b fb)(hbase:attributeBase a "index" X.env (eval a X.env)=eval a X.env:=by rfl)
  (hfew:((backTo pos (starEach [b] X.env)).all (λx=>!x.1) && (backToKw pos (keywordEach [] X.env)).all (λx=>x.1.isSome) && decide ([b].length+([]:List Keyword).length+(if ([]:List Keyword).isEmpty then 0 else 1)<30))=true:=by rfl)
  (hline:(apos.endLine == pos.line)=true:=by rfl) (hs:starEach [b] X.env=(false,eval b X.env)::starEach [] X.env:=by rfl) (hplain:(backTo pos (starEach [] X.env)).any (·.1)=false:=by rfl) :
  JE X C (.Call (.Attribute a "index" apos) [b] [] pos) (zks fa fb) :=
 PE.weak (zuz PySem.F.slot_tuple_index PySem.F.type_tuple_index (znr hu) ha (zbE hb zdH hs) hbase hfew hline hs hplain) λY H Q ⟨G,w,Z,r,p⟩=>by
  refine zee (κ:=λG H w=>kE X.K C Y Q G H w) zbU r p λd Z1 v G1 H1 w1 r1 s1 q1 p1=>?_;cases d with
  |tup ds =>
   obtain ⟨ad,vs,rfl,h1,h2⟩:=zcU q1;refine ⟨⟨ad,vs,rfl,h1.same r1.gh⟩,?_⟩;refine zee (κ:=λG H w=>kE X.K C Y Q G H w) zbU r1 p1 λd2 Z2 v2 G2 H2 w2 r2 s2 q2 p2=>?_;dsimp only at p2;split at p2
   ·rename_i hk;rw[Bool.and_eq_true] at hk;split at p2
    ·rename_i j ej;exact ⟨ad,vs,d2,ds,j,v2,rfl,rfl,zaE r2.gh (zaE s2.g h1.sq),(h2.same s2.g).same r2.gh,q2.same r2.gh,hk.1,hk.2,ej,p2 _ G2 H2 w2 (.refl _ _ _) r2 (zaz _)⟩
    ·exact waO p2
   ·exact waO p2
  |_=>exact waO p1
end
section
variable{X:Cx}{C:Cn}{e1 e2:Expr}{fk fv:De}{pos ps apos:Pos}{x:Str}
theorem zpP{y1 y2:V}{us:List Value}(h:zaR [y1,y2] us):∃ u1 u2,us=[u1,u2]/\zby y1 u1/\zby y2 u2:=by
 cases h with
 |cons h1 t=>cases t with
  |cons h2 t2=>cases t2;exact ⟨_,_,rfl,h1,h2⟩
end
structure Ep(h:Heap)(e it l:Addr)(i:Nat):Prop where
 e:∃ old,IsEnum h e it i old
 a:h.IsListIter it l i
theorem Ep.keep{h h':Heap}{e it l:Addr}{i:Nat}(p:Ep h e it l i)(k:∀ b∈[e,it],∀ o,h.get? b=some o->h'.get? b=some o):Ep h' e it l i :=
 ⟨let ⟨old,q⟩:=p.e;⟨old,k e xws _ q⟩,p.a.at λo q=>k it xws o q⟩
section
variable{X:Cx}{C:Cn}{elts:List Expr}{x1:Nat}{pt:Pos}{a:Expr}{fa:De}{p pos:Pos}
end
end PV
end
section
namespace PV
open PySem PySem.Spec L2 PyProof.Rows
section
variable{X:Cx}{C:Cn}{a b:Expr}{fa fb:De}{pos:Pos}
end
section
variable{prog:Program}{w:World}{A:Around}{E:Value->Shared->Prop}{s:Shared}
theorem zhQ(n:Nat):Builtin.Slice.sliceAdjust none none (-1) (n:Int)=((n:Int)-1,-1)/\Builtin.Slice.slicePlaces ((n:Int)-1) (-1) (-1)=n:=by
 constructor
 ·unfold Builtin.Slice.sliceAdjust;rfl
 ·unfold Builtin.Slice.slicePlaces;have h1:¬ ((-1:Int) > 0):=by lia
  simp only[h1,if_false];split
  ·have:((n:Int)-1 - -1-1) / (- -1)=(n:Int)-1:=by rw[show (- -1:Int)=1 from rfl,Int.ediv_one];lia
   rw[this];lia
  ·lia
theorem zfN{sl:Addr}{t:Tok}{n:Nat}{Q:Int×Int×Nat->Shared->Prop}(hs:s.heap.IsSliceOf sl .none .none (.int (-1) t))(h:Q ((n:Int)-1,-1,n) s):wpAny (model prog w) A (Builtin.Slice.sliceApplied (.ref sl) (pure (n:Int))) Q E s:=by obtain ⟨os,hos,hcs,hds⟩:=id hs;unfold Builtin.Slice.sliceApplied Builtin.Slice.sliceFields;refine wab (wab (wpAny_field hos hds (x:=.none) rfl (wab (wpAny_field hos hds (x:=.none) rfl (wab (wpAny_field hos hds (x:=.int (-1) t) rfl (wad ?_)))))));refine wab (slicePart_int ?_);show wpAny _ _ (if ((-1:Int) == 0)=true then _ else _) _ _ s;rw[if_neg xwd];refine wab (slicePart_none (wab (slicePart_none (wab (wad ?_)))));show wpAny _ _ (match Builtin.Slice.sliceAdjust none none (-1) (n:Int) with|(lo,hi)=>pure (lo,(-1:Int),Builtin.Slice.slicePlaces lo hi (-1))) _ _ s;rw[(zhQ n).1];show wpAny _ _ (pure ((n:Int)-1,(-1:Int),Builtin.Slice.slicePlaces ((n:Int)-1) (-1) (-1))) _ _ s;rw[(zhQ n).2];exact wad h
theorem zrz{α β:Type}{f:α->Option β}{g:α->β}:∀{l:List α},(∀ m∈l,f m=some (g m))->l.filterMap f=l.map g
 |[],_=>rfl
 |a::r,h=>by rw[List.filterMap_cons,h a xws,List.map_cons,zrz (l:=r) λm hm=>h m (List.mem_cons_of_mem _ hm)]
theorem zp5(xs:Array Value):((List.range xs.size).filterMap λ(m:Nat)=>xs[(((xs.size:Int)-1)+(m:Int) * (-1)).toNat]?).toArray=xs.toList.reverse.toArray:=by
 congr 1;apply List.ext_getElem?;intro i;have e:∀ m∈List.range xs.size,(λ(m:Nat)=>xs[(((xs.size:Int)-1)+(m:Int) * (-1)).toNat]?) m=some (xs.toList.reverse.getD m .none):=by
  intro m hm;have hm':=List.mem_range.mp hm;have e1:(((xs.size:Int)-1)+(m:Int) * (-1)).toNat=xs.size-1-m:=by lia
  show xs[(((xs.size:Int)-1)+(m:Int) * (-1)).toNat]? = _;rw[e1,List.getD_eq_getElem?_getD,List.getElem?_reverse (by simpa using hm'),Array.length_toList,Array.getElem?_toList];rw[Array.getElem?_eq_getElem xwl];rfl
 rw[show ((List.range xs.size).filterMap λ(m:Nat)=>xs[(((xs.size:Int)-1)+(m:Int) * (-1)).toNat]?)=(List.range xs.size).map (λm=>xs.toList.reverse.getD m .none) from zrz e];by_cases hi:i<xs.size
 ·rw[List.getElem?_map,List.getElem?_range hi];have hl:i<xs.toList.reverse.length:=by simpa using hi
  rw[List.getElem?_eq_getElem hl,Option.map_some,List.getD_eq_getElem?_getD,List.getElem?_eq_getElem hl];rfl
 ·rw[List.getElem?_eq_none (by simp;lia),List.getElem?_eq_none (by simp;lia)]
theorem zfl{t sl:Addr}{items:Array Value}{tk:Tok}{Q:Value->Shared->Prop}(ht:IsTup s.heap t items)(hs:s.heap.IsSliceOf sl .none .none (.int (-1) tk))
  (h:Q (.ref s.heap.objs.size) { s with heap:=s.heap.push { cls:=.type "tuple",data:=.seq items.toList.reverse.toArray } }) (hsz:items.size<=sizeLine):wpAny (model prog w) A (getItem (.ref t) (.ref sl)) Q E s:=by
 have htake:sizeOk (.seq items.toList.reverse.toArray):=by show items.toList.reverse.toArray.size<=sizeLine;rw[List.size_toArray,List.length_reverse,Array.length_toList];exact hsz
 obtain ⟨os,hos,hcs,hds⟩:=id hs;have hTs:s.TypeIs (.ref sl) "slice":=⟨os,hos,hcs⟩
 unfold getItem
 try with_reducible refine wpAny_holding ?_
 first|refine wab (wad ?_)|skip
 refine wab (wpAny_sequenceKey ht.typeIs xwd ?_);refine wab (wpAny_callSpecial?_slot (name:=Str.ofString "__getitem__") ht.typeIs PyProof.Rows.slot_tuple_getitem
  (wpAny_call_entry PyProof.Rows.slot_tuple_getitem ht.typeIs entry_tuple_getitem ?_ (args_tuple_getitem _ _)))
 show wpAny _ _ (Builtin.Tuple.tupleItemsOf (.ref t) >>= _) _ _ s;refine wab (tupleItemsOf_ ht ?_);refine wab (wpAny_typeOf hTs ?_);rw[if_pos xwd];refine wab (zfN hs ?_);have hno:¬ ((((items.size:Int)-1) == 0 && (-1:Int) == 1 && items.size == items.size)=true):=by intro q;rw[Bool.and_eq_true,Bool.and_eq_true] at q;exact absurd q.1.2 xwd
 show wpAny _ _ (if (((items.size:Int)-1) == 0 && (-1:Int) == 1 && items.size == items.size)=true then _ else _) _ _ s;rw[if_neg hno,zp5]
 first
  |exact wab (m:=Builtin.Tuple.tupleExact _) (wpAny_newObj_type (wad ⟨_,rfl,wad h⟩) htake)
  |exact wab (m:=Builtin.Tuple.tupleExact _) (wpAny_newObj_type (wab (wad (wad ⟨_,rfl,wad h⟩))) htake)
  |exact wab (wab (m:=Builtin.Tuple.tupleExact _) (wpAny_newObj_type (wad (wad ⟨_,rfl,wad h⟩)) htake))
  |exact wab (wab (m:=Builtin.Tuple.tupleExact _) (wpAny_newObj_type (wad ⟨_,rfl,wad h⟩) htake))
end
section
variable{X:Cx}{C:Cn}{a b e:Expr}{fa fb:De}{pos:Pos}
def zq8(fa:De):De:=λZ=>(fa Z).bind λa=>match a.1 with
 |.tup ds=>.ok (.tup ds.reverse,a.2)
 |_=>.no
theorem znO{k1:Nat}{p1 p2 p3:Pos}(ha:JE X C a fa):JE X C (.Subscript a (.Slice none none (some (.UnaryOp .USub (.Constant (.int 1) k1 p1) p2)) p3) pos) (zq8 fa):=by
 intro pS s Y H Q I ⟨G,w,Z,r,p⟩;refine PyProof.Rows.Subscript_ (thn (ha pS s Y H (λx H1=>∃ ad vs,x=.ref ad/\SqT X.K H1 ad vs/\∀ p,H1 p=none->Q (.ref p) (upd H1 p (.tup vs.reverse))) I ?_) λv s1 ⟨x,H1,I1,r1,ad,vs,ex,hx,q1⟩=>?_)
 ·refine zee (κ:=λG H w=>kE X.K C Y Q G H w) zbU r p λd Z1 v G1 H1 w1 r1 s1 q1 p1=>?_;cases d with
  |tup ds =>
   obtain ⟨ad,vs,rfl,h1,h2⟩:=zcU q1;refine ⟨ad,vs,rfl,zaE r1.gh h1.sq,λp hp=>?_⟩;have gr:zeF G1 H1 (upd G1 p (.tup vs.reverse)) (upd H1 p (.tup vs.reverse)):=.new r1.gh hp;exact p1 _ _ _ w1 gr.step (r1.grow gr) (by unfold Rep;exact ⟨p,_,rfl,zhT.of za1,h2.reverse.same gr.g⟩)
  |_=>exact p1.elim
 subst ex;cases r1;refine wpAny_Slice (evalPart_none_step (evalPart_none_step (evalPart_some_step (thn (zvI (a:=.Constant (.int 1) k1 p1) (pos:=p2) zrK znX pS s1 Y H1 (λx H2=>x=.int (-1)/\H2=H1) I1 ⟨1,rfl,rfl,rfl⟩) λvk s2 ⟨y,H2,I2,r2,ey,eH⟩=>?_))));subst ey;subst eH;obtain ⟨t,rfl⟩:=r2;have I4:L2.Inv X pS Y H2 { s2 with heap:=s2.heap.push { cls:=.type "slice",data:=.fields #[.none,.none,.int (-1) t] } }:=I2.kept (t':=s2.toks) λb ob q=>waa _ q;obtain ⟨its4,rv4,ht4,hz4⟩:=I4.tuple hx;have hlen4:=rv4.length;show wpAny (model X.prog X.w) X.A (PyProof.Rows.subscriptTail a (.Slice none none (some (.UnaryOp .USub (.Constant (.int 1) k1 p1) p2)) p3) (.ref ad) (.ref s2.heap.objs.size)) (EP X pS Y Q) X.xe { s2 with heap:=s2.heap.push { cls:=.type "slice",data:=.fields #[.none,.none,.int (-1) t] } };refine PyProof.Rows.tail_any (ops:=[.ref ad,.ref s2.heap.objs.size]) ht4.typeIs PyProof.Rows.slot_tuple_getitem.lookup ?_ (by with_unfolding_all rfl);refine zfl ht4 (Heap.IsSliceOf.new ..) ?_ (by rw[List.size_toArray] <;> lia);refine ⟨.ref _,_,I4.laid (t':=s2.toks) (o:=.tup vs.reverse) (λb ob q=>waa _ q) (wal _) ?_,rfl,q1 _ (I4.hok.fresh (wal _))⟩;exact ⟨by rw[List.length_reverse];exact hz4,its4.reverse,rv4.reverse,0,waj (o:={ cls:=.type "tuple",data:=.seq its4.toArray.toList.reverse.toArray }) _ rfl⟩
end
section
variable{prog:Program}{w:World}{A:Around}{E:Value->Shared->Prop}{s:Shared}
theorem zlq{l:Addr}{vs:List Value}{Q:List Value->Shared->Prop}(hl:s.heap.IsTuple l vs.toArray)
  (h:Q vs { s with heap:=(s.heap.push (seqObj "list" #[] 0)).update s.heap.objs.size (Obj.mapSeq (·++vs.toArray)) }) (hsz:vs.length<=sizeLine) :
  wpAny (model prog w) A (collect (.ref l)) Q E s:=by
 obtain ⟨o,ho,hc,n,hd⟩:=id hl;unfold collect;refine wab (wpAny_runValue (codeAny_builtin entry_proto_collect' ?_));show wpAny _ _ (do again (.builtin "list.__iadd__" ⟨[<- newList [],.ref l],[]⟩)) _ _ s;refine wab (wpAny_newList (wad ⟨Code.quiet_builtin _ xwD,codeAny_builtin entry_list_iadd' ?_⟩));show wpAny _ _ (Builtin.List.listExtendWith (.ref s.heap.objs.size) (.ref l) (.ref s.heap.objs.size)) _ _ { s with heap:=s.heap.push (seqObj "list" #[] 0) };unfold Builtin.List.listExtendWith;have ho':(s.heap.push (seqObj "list" #[] 0)).get? l=some o:=waa _ ho;refine wab (wpAny_typeOf (T:="tuple") ⟨o,ho',hc⟩ ?_);have ht:(Value.type "tuple" == Value.type "tuple")=true:=by rfl
 rw[if_pos (by rw[ht];simp)];refine wab (listItems_at ho' hd ?_);refine wab (listItems_at (xs:=#[]) (n:=0) (waj _ rfl) rfl ?_);rw[if_neg xws];refine wab (listUpdate_at (xs:=#[]) (n:=0) (waj _ rfl) rfl ?_ (Nat.zero_le _) (by show (#[]++vs.toArray).size<=sizeLine+1;simp only[Array.size_append,waf,List.length_nil];lia));refine wad ?_;show wpAny (model prog w) A (do
   let o <- load s.heap.objs.size
   match o.data with
   |.seq xs _=>pure xs.toList
   |_=>unsupported "internal:collect") Q E { s with heap:=(s.heap.push (seqObj "list" #[] 0)).update s.heap.objs.size (Obj.mapSeq (·++vs.toArray)) }
 refine wab (wpAny_load (get?_update_seq (waj _ rfl) _) ?_);show wpAny _ _ (pure ((#[]:Array Value)++vs.toArray).toList) Q E _;rw[show ((#[]:Array Value)++vs.toArray).toList=vs by simp];exact wad h
theorem zkq{l:Addr}{vs:List Value}{ns:List Int}{Q:Value->Shared->Prop}(hl:s.heap.IsTuple l vs.toArray)(hI:IntsAre vs ns)(h64:vs.length<64)
  (h:∀(out:Array Value)(ns':List Int),IntsAre out.toList ns'->ns'.Perm ns->ns'.Pairwise (· <= ·)->Q (.ref (s.heap.objs.size+1)) { s with heap:=sortedAll s.heap vs out }) :
  wpAny (model prog w) A (call (.builtin "sorted") [.ref l]) Q E s:=by
 refine Calls.call_function_entry kind_sorted plain_sorted entry_sorted (args_sorted1 _) ?_;unfold Builtin.«sorted»;refine wab (m:=checkCount "sorted" 1 1 _) (wad ?_);refine wab (zlq hl ?_ (by rw[zcF];lia));refine wab (wpAny_newList ?_);have hsz:((s.heap.push (seqObj "list" #[] 0)).update s.heap.objs.size (Obj.mapSeq (·++vs.toArray))).objs.size=s.heap.objs.size+1:=by rw[Heap.size_update,size_push']
 have hoL:(((s.heap.push (seqObj "list" #[] 0)).update s.heap.objs.size (Obj.mapSeq (·++vs.toArray))).push (seqObj "list" vs.toArray 0)).get? (s.heap.objs.size+1)=some (seqObj "list" vs.toArray 0):=by rw[<- hsz];exact waj _ rfl
 show wpAny _ _ _ _ _ { s with heap:=((s.heap.push (seqObj "list" #[] 0)).update s.heap.objs.size (Obj.mapSeq (·++vs.toArray))).push (seqObj "list" vs.toArray 0) };rw[hsz];refine wab (wpAny_holding (wpAny_call_entry slot_list_sort ⟨_,hoL,rfl⟩ entry_list_sort (list_sort_tree hoL hI h64 λout ns' a1 a2 a3=>⟨_,rfl,?_⟩) (args_list_sort _)));exact wad ⟨_,rfl,h out ns' a1 a2 a3⟩
end
section
variable{X:Cx}{C:Cn}{a b e:Expr}{fa fb:De}{pos:Pos}
theorem zmD:zcd X (.builtin "sorted") (λxs H Q=>∃(p:Addr)(ns:List Int),xs=[.ref p]/\SqT X.K H p (ns.map V.int)/\ns.length<64/\∀ l,H l=none->Q (.ref l) (upd H l (.lst ((zaT ns).map V.int)))):=by
 intro pS s Y H xs us Q I r h;obtain ⟨p,ns,rfl,hq,hl,q⟩:=h;obtain ⟨u,rfl,ru⟩:=zcG r;cases ru;obtain ⟨its,rv,pl,hz⟩:=I.tuple hq;have hlen:its.length=ns.length:=by rw[<- rv.length];simp
 refine zkq (show s.heap.IsTuple p its.toArray from pl) (PV.intsAre_of rv) xwl λout ns' a1 a2 a3=>?_;have e:ns'=zaT ns:=W.lks_uniq (a2.trans (zaB ns).symm) a3 (zcI ns);subst e;obtain ⟨c,hc⟩:=PyProof.Rows.sortedAll_at s.heap its out;refine ⟨.ref (s.heap.objs.size+1),_,I.laid (t':=s.toks) (λb o=>PyProof.Rows.sortedAll_old) (Nat.le_succ _) (o:=.lst ((zaT ns).map V.int)) ⟨?_,out.toList,c,PV.vals_ints a1,?_⟩,rfl,q _ (I.hok.fresh (Nat.le_succ _))⟩
 ·rw[List.length_map,(zaB ns).length_eq,zcF];lia
 ·simpa using hc
def zeJ:List Dt->R (List Dt)
 |[.tup l]=>match zh1 l with
  |some ns=>if ns.length<64 then .ok ((zaT ns).map .int) else .no
  |none=>.no
 |_=>.no
theorem zqn{K:W.Frag}:FnN K (λxs H Q=>∃(p:Addr)(ns:List Int),xs=[.ref p]/\SqT K H p (ns.map V.int)/\ns.length<64/\∀ l,H l=none->Q (.ref l) (upd H l (.lst ((zaT ns).map V.int)))) zeJ:=λG H vs ds z Q gh hr e k=>by
 unfold zeJ at e;split at e
 ·split at e
  ·rename_i ns en;split at e
   ·rename_i hl;obtain ⟨v,rfl,h1⟩:=zdu hr;obtain ⟨a,us,rfl,h2,h3⟩:=zcU h1;cases e;rw[ze4 h3 en] at h2;exact ⟨a,ns,rfl,zaE gh h2.sq,hl,λl hl=>k l _ hl (zdC _)⟩
   ·cases e
  ·cases e
 ·cases e
theorem zqS:ziO zeJ:=λx n h=>by
 unfold zeJ at h;split at h
 ·split at h
  ·split at h <;> cases h
  ·cases h
 ·cases h
theorem zpV{x:Expr}{p:Pos}(hg:Gl X "sorted")(hm:X.mg "sorted"=none)(ha:JE X C x fa)(hs:starEach [x] X.env=(false,eval x X.env)::starEach [] X.env:=by rfl)(hpl:(backTo pos (starEach [] X.env)).any (·.1)=false:=by rfl) :
  JN X C (.Call (.Name "sorted" p) [x] [] pos) (zf9 zeJ (dA fa dA0)) :=
 zij zqn zqS zmD hg hm PyProof.Rows.boot_sorted (zax ha zaC hs) xwd xwd hs hpl
end
def spH(PT:Addr)(sp:Sp):Sp:=λvs H Q E=>sp (vs++[.ref PT]) H Q E
section
variable{X:Cx}{C:Cn}{CX:CXT}{k k':Nat}{ks:List Bool}{Fd:FD}{x:Str}{p pos:Pos}{e:Expr}{es:List Expr}{far:DAr}{j:Nat}{PT:Addr}
structure DfnT(P:Program)(w:World)(K:W.Frag)(mg:Str->Option Value)(base:Heap)(CX:CXT)(xv:Nat->Value)(k:Nat)(x:Str)(ks:List Bool)(PT:Addr)(F:FD):Prop where
 ex:∃(f:Addr)(fd:FuncData)(ps:List Str),zf7 P w K mg base CX k f fd ps (spH PT (znj false K xv ks F))/\mg x=some (.ref f)/\W.keepIn K (.ref f)=true/\zgy K fd ps []/\∀ bs,F bs≠.no->zcc bs=ks
end
section
variable{X:Cx}{C:Cn}{a b e:Expr}{fa fb:De}{pos apos:Pos}{zaX:List Expr}
end
end PV
end
section
namespace PV
open PySem PySem.Spec L2
structure ZpL(h:Heap)(z TI TO i1 i2 l1 l2:Addr)(f0:Value)(k:Nat):Prop where
 z:IsZip h z TI TO f0
 ti:IsPair h TI (.ref i1) (.ref i2)
 to:∃ a b,IsPair h TO a b
 a1:h.IsListIter i1 l1 k
 a2:h.IsListIter i2 l2 k
theorem ZpL.keep{h h':Heap}{z TI TO i1 i2 l1 l2:Addr}{f0:Value}{k:Nat}(p:ZpL h z TI TO i1 i2 l1 l2 f0 k)(e:∀ b∈[z,TI,TO,i1,i2],∀ o,h.get? b=some o->h'.get? b=some o):ZpL h' z TI TO i1 i2 l1 l2 f0 k :=
 ⟨e z xws _ p.z,e TI xws _ p.ti,let ⟨a,b,q⟩:=p.to;⟨a,b,e TO xws _ q⟩,p.a1.at λo q=>e i1 xws o q,p.a2.at λo q=>e i2 xws o q⟩
theorem zcV{z TI TO i1 i2 l1 l2:Addr}(D:ZpD z TI TO i1 i2)(n1:∀ b∈[z,TI,TO,i1,i2],b≠l1)(n2:∀ b∈[z,TI,TO,i1,i2],b≠l2):ZipApart z TI TO i1 i2 l1 l2 :=
 ⟨D.d1,D.d2,D.d3,D.d4,D.d5,D.d6,D.d7,D.d8,D.d9,D.d0,(n1 z xws).symm,(n1 TO xws).symm,(n1 i1 xws).symm,(n1 i2 xws).symm,(n2 z xws).symm,(n2 TO xws).symm,(n2 i1 xws).symm,(n2 i2 xws).symm⟩
def Itl(K:W.Frag)(a b:Addr):It :=
 ⟨λi H=>∃ xs ys x y,SqL K H a xs/\SqL K H b ys/\xs[i]? = some x/\ys[i]? = some y,
   λi H v H'=>∃ p x y,v=.ref p/\H p=none/\H'=upd H p (.tup [x,y])/\(∀ xs,SqL K H a xs->xs[i]? = some x)/\∀ ys,SqL K H b ys->ys[i]? = some y,
   λi H=>∃ xs ys,SqL K H a xs/\SqL K H b ys/\xs.length<=i⟩
section
variable{X:Cx}{C:Cn}{elts:List Expr}{x1:Nat}{pt:Pos}{a b:Expr}{fa fb:De}{p pos:Pos}
end
end PV
end
section
namespace PV
open PySem PySem.Spec L2 PyProof.Rows
def zv3(i j:Nat)(f:DA):DS:=λZ=>(f Z).bind λa=>match a.1 with
 |[d,e]=>if i<a.2.length/\j<a.2.length then .ok (.nx,(a.2.set i (some (.val d))).set j (some (.val e))) else .no
 |_=>.no
section
variable{X:Cx}{C:Cn}{pos:Pos}
theorem zvU{i j:Nat}{x y:Str}{a b:Expr}{f:DA}{px py pt:Pos}{kt k2 pt2}(hc:X.calm=true)(hN:X.N.Nodup)(hi:X.N[i]? = some x)(hj:X.N[j]? = some y)(hij:i≠j)
  (hx:X.env.scope.names.lookup x=some .local) (hy:X.env.scope.names.lookup y=some .local) (hp:i∉C.pp) (hq:j∉C.pp) (ha:JA X C [a,b] f)
  (hw:swappedStores [.Tuple [.Name x px,.Name y py] kt pt] (.Tuple [a,b] k2 pt2) X.env=pure (some [x,y]))
  (hs:swapsWithSole [.Tuple [.Name x px,.Name y py] kt pt] (.Tuple [a,b] k2 pt2) pos.line X.env=pure false:=by rfl) :
  JS X C (.Assign [.Tuple [.Name x px,.Name y py] kt pt] (.Tuple [a,b] k2 pt2) pos) (zv3 i j f) :=
 PS.weak (zwa hc hN hi hj hij hx hy ha hw hs) λD Y H ⟨G,w,Z,r,p⟩=>by
  refine zun (κ:=λG H w=>kS X.K C D G H w) zdw r p λds Z1 vs G1 H1 w1 r1 s1 q1 p1=>?_;dsimp only at p1;split at p1
  ·obtain ⟨v1,t,rfl,qa,q2⟩:=q1.cons_inv;obtain ⟨v2,t2,rfl,qb,q4⟩:=q2.cons_inv;rw[q4.nil_inv];by_cases hl:i < Z1.length/\j < Z1.length
   ·rw[if_pos hl] at p1;exact ⟨v1,v2,rfl,p1 _ G1 H1 w1 (.refl _ _ _) ((r1.setVal hl.1 hp qa).setVal (by simpa using hl.2) hq qb)⟩
   ·rw[if_neg hl] at p1;exact p1.elim
  ·exact p1.elim
end
section
variable{X:Cx}{C:Cn}{CX:CXT}{k k':Nat}{ks:List Bool}{Fd:FD}{x a b:Str}{p pos pa pb:Pos}
end
section
variable{X:Cx}{C:Cn}{a b:Expr}{fa fb:De}{pos:Pos}
end
end PV
end
section
end
section
namespace PV
open PySem PySem.Spec L2 PyProof.Rows
structure KeepO(i:Nat)(g:DG)(ft:DT)(fe:De):Prop where
 t:∀ d Z Z1 b Z2,g d Z=.ok Z1->ft Z1=.ok (b,Z2)->Z2[i]? = Z[i]?
 e:∀ Z y Z1,fe Z=.ok (y,Z1)->Z1[i]? = Z[i]?
section
variable{X:Cx}{C:Cn}
end
structure CBlk(X:Cx)(xr xc xl:Str)(ci:Nat)(scope:Scope)(N':List Str)(p2 p3 p5:Pos):Prop where
 hc:X.calm=true
 hci:X.N[ci]? = some xl
 hvl:Vis X.env.scope xl
 hb:zfp X.N N' scope.names 1=true
 hkind:scope.kind=.function
 hcell:Hce scope
 hfr:Hfr X scope
 hnames:Hnm scope
 hN':N'.Nodup
 hcs:N'[X.N.length]? = some xc
 hgl:∀ cl L s H fp,Gl (zca X N' scope cl L s H fp) xr
 he:∀ cl L s H fp,starEach [.Name xc p2] (zca X N' scope cl L s H fp).env=(false,eval (.Name xc p2) (zca X N' scope cl L s H fp).env)::starEach [] (zca X N' scope cl L s H fp).env
 hpl:∀ cl L s H fp,(backTo p3 (starEach [] (zca X N' scope cl L s H fp).env)).any (·.1)=false
 hvx:∀ cl L s H fp,Vis (zca X N' scope cl L s H fp).env.scope xc/\Loc (zca X N' scope cl L s H fp).env.scope xc/\(zca X N' scope cl L s H fp).env.scope.names.lookup xc=some .local
 hs:∀ x,foldedSetIterable (.Name xl p5) X.env x=pure x
 hdb:(xr == ("__debug__" : Str))=false:=by decide
 hdc:(xc == ("__debug__" : Str))=false:=by decide
 hdd:(xc == ("__classdict__" : Str))=false:=by decide
 hdl:(xl == ("__debug__" : Str))=false:=by decide
 hdm:(xl == ("__classdict__" : Str))=false:=by decide
section
variable{X:Cx}{C:Cn}{f:Addr}{fd:FuncData}{st:Stmt}{xq xr xc xl:Str}{NR:List Str}{m k n ci:Nat}{dB:Nat->Addr->DS}
end
structure CS(X:Cx)(C:Cn)(k n ci:Nat)(Z:Ev)(G0 H0:Hp)(w:Wn)(l:Nat)(Y:L2.St)(H:Hp):Prop where
 ex:∃(p:Addr)(G1:Hp)(Fs:List Addr),Fs.length=l/\Y[ci]? = some (some (.ref p))/\Rel X.K C G1 w Z Y H/\zbj G0 H0 w G1 H w/\H0 p=none/\C.H₀ p=none/\H p=some (.lst (Fs.map V.ref))/\G1 p=none/\w p=none/\∀ Fa∈Fs,zp7 X C.xv k n Z G1 Fa
structure AppOk(X:Cx)(xl:Str)(pa:Arguments)(b:Expr)(s:Scope)(l q4 q5 q6 q7:Pos):Prop where
 hsw:swapsWith (.Call (.Attribute (.Name xl q4) "append" q5) [.Lambda pa b s l] [] q6) none q7.line X.env=pure false
 hse:starEach [.Lambda pa b s l] X.env=(false,eval (.Lambda pa b s l) X.env)::starEach [] X.env
 hba:attributeBase (.Name xl q4) "append" X.env (eval (.Name xl q4) X.env)=eval (.Name xl q4) X.env
 hfw:((backTo q6 (starEach [.Lambda pa b s l] X.env)).all (λx=>!x.1) && (backToKw q6 (keywordEach [] X.env)).all (λx=>x.1.isSome) && decide ([Expr.Lambda pa b s l].length+([]:List Keyword).length+(if ([]:List Keyword).isEmpty then 0 else 1)<30))=true
 hln:(q5.endLine == q6.line)=true
 hpl:(backTo q6 (starEach [] X.env)).any (·.1)=false
section
variable{X:Cx}{C:Cn}{P f:Addr}{fd:FuncData}{st:Stmt}{xq xr xc xl:Str}{NR N':List Str}{m k n ci j l:Nat}{dB:Nat->Addr->DS}{Z:Ev}{G0 H0:Hp}{w:Wn}{scope:Scope}{p1 p2 p3 p4 p5 pos:Pos}
 (LB:ztP X P) (hjp:j∈C.pp) (hσ0:C.σ₀[j]? = some (some (.ref P))) (hip:ci∉C.pp)
include LB hjp hσ0 hip
variable(cls:Nat->Addr)(hxv:∀ n,n<8->C.xv n=.ref (cls n))(hfn:X.fn=λ_=>true)
 (Fu:Fun X.K xq xr st f fd) (S:za8 NR ["call"] (zak st)) (hNR:NR.length=m+1) (hbi:zgy X.K fd ["call"] []) (hm:X.mg xr=some (.ref f)) (hr:zew (k+2) X.A) (hu:X.A.units+64<cLine)
 (hB:∀(C:Cn),(∀ n,n<8->C.xv n=.ref (cls n))->HB X C xr st f NR k cls dB) (hden:HD m dB)
include hxv hfn Fu S hNR hbi hm hr hu hB hden
omit LB hjp hσ0 in
end
end PV
end
section
end
section
namespace PV
open PySem PySem.Spec L2 PyProof.Rows
section
variable{X:Cx}{C:Cn}{CX:CXT}{k k':Nat}{ks:List Bool}{Fd:FD}{x a:Str}{eb:Expr}{fb:De}{p pos pa:Pos}
end
section
variable{X:Cx}{C:Cn}{e e':Expr}{fa fb:De}{pos:Pos}
end
section
variable{X:Cx}{C:Cn}{a b e:Expr}{fa fb:De}{pos apos p2:Pos}{zaX:List Expr}
end
section
variable{X:Cx}{C:Cn}{tg a b:Expr}{fa fb:De}{pos:Pos}
end
section
variable{X:Cx}{C:Cn}{pos ps py sp apos p1 p2 spos:Pos}{x y:Str}
end
section
variable{X:Cx}{C:Cn}{a b e:Expr}{fa fb:De}{pos ps:Pos}{x:Str}{ad:Addr}{D:List (Str×Str)}
end
section
variable{X:Cx}{C:Cn}{pos ps sp apos spos pd:Pos}{x:Str}{k v:Expr}{fk fv:De}
end
def LtAt(A:Around)(s:Shared)(u v:Value)(b:Bool):Prop:=∀(prog:Program)(w:World)(E:Value->Shared->Prop)(Q:Value->Shared->Prop),Q (.bool b) s->wpAny (model prog w) A (richCompare .Lt u v) Q E s
inductive zur(A:Around)(s:Shared):List Value->List Value->Bool->Prop where
 |nil:zur A s [] [] false
 |left {w:Value} {ws:List Value}:zur A s [] (w::ws) true
 |right {v:Value} {vs:List Value}:zur A s (v::vs) [] false
 |eq {v w:Value} {vs ws:List Value} {b:Bool} (h:SeqAt.EqAt A s v w true) (t:zur A s vs ws b):zur A s (v::vs) (w::ws) b
 |ne {v w:Value} {vs ws:List Value} {b:Bool} (h:SeqAt.EqAt A s v w false) (t:LtAt A s v w b):zur A s (v::vs) (w::ws) b
section
open PySem.SeqAt
open PySem.AutoSeq1 (wpAny_loadPart')
open PySem.MeetsSeq PySem.MeetsSeq2 PySem.MeetsSeq3
end
section
variable{X:Cx}{pS:List (Addr×Obj)}{Y:L2.St}{H:Hp}{s:Shared}
end
section
variable{X:Cx}{C:Cn}{pS:List (Addr×Obj)}{Y:L2.St}{G1 H1:Hp}{w1:Wn}{Z1:Ev}{l q S I:Addr}{xs:List V}{kd:List (Dt×Dt)}{dv:Value}{R:Result->Shared->Prop}
end
section
variable{X:Cx}{C:Cn}{pS:List (Addr×Obj)}{Y:L2.St}{k:Nat}{x:Str}{params:Arguments}{body:Expr}{scope:Scope}{fE:De}
end
section
variable{X:Cx}{C:Cn}{pS:List (Addr×Obj)}{Y:L2.St}{G1 H1:Hp}{w1:Wn}{Z1:Ev}{l q:Addr}{xs:List V}{kd:List (Dt×Dt)}{s:Shared}{Q:Value->Shared->Prop}{E:Value->Shared->Prop}
end
section
variable{X:Cx}{C:Cn}{P:Addr}{j k:Nat}{x:Str}{params:Arguments}{body:Expr}{scope:Scope}{fE fa:De}{a:Expr}{p pos lpos kp kp2 cp:Pos}{cj:Nat}
end
end PV
end
section
namespace PV
open PySem PySem.Spec L2
section
variable{prog:Program}{w:World}{A:Around}{E:Value->Shared->Prop}{s:Shared}
structure ZpM(h:Heap)(z TI TO i1 i2 l1 l2:Addr)(f0:Value)(k:Nat):Prop where
 z:IsZip h z TI TO f0
 ti:IsPair h TI (.ref i1) (.ref i2)
 to:∃ a b,IsPair h TO a b
 a1:h.IsTupleIter i1 l1 k
 a2:h.IsListIter i2 l2 k
theorem ZpM.keep{h h':Heap}{z TI TO i1 i2 l1 l2:Addr}{f0:Value}{k:Nat}(p:ZpM h z TI TO i1 i2 l1 l2 f0 k)(e:∀ b∈[z,TI,TO,i1,i2],∀ o,h.get? b=some o->h'.get? b=some o):ZpM h' z TI TO i1 i2 l1 l2 f0 k :=
 ⟨e z xws _ p.z,e TI xws _ p.ti,let ⟨a,b,q⟩:=p.to;⟨a,b,e TO xws _ q⟩,p.a1.at λo q=>e i1 xws o q,p.a2.at λo q=>e i2 xws o q⟩
variable{z TI TO i1 i2 l1 l2:Addr}{k:Nat}{xs ys:Array Value}
end
section
variable{prog:Program}{w:World}{A:Around}{E:Value->Shared->Prop}{s:Shared}
end
section
variable{X:Cx}{C:Cn}{elts:List Expr}{x1:Nat}{pt:Pos}{a b:Expr}{fa fb:De}{p pos:Pos}
end
open AutoSeq1 (wpAny_loadPart')
theorem ze7{prog:Program}{w:World}{A:Around}(hh:A.handled=none)(it l:Addr)(hne:l≠it)(items:Array Value) :
  Draws prog w A it [it,l] items.size (λi v=>items[i]? = some v) (λi h=>h.IsTupleIter it l i/\h.IsTuple l items) where
 live:=λ_ _ st=>let ⟨o,ho,_⟩:=st.1;⟨o,ho⟩
 frame:=λ_ _ _ st hk=>⟨st.1.at λo e=>hk it xws o e,let ⟨o,e,r⟩:=st.2;⟨o,hk l xws o e,r⟩⟩
 item:=λi s Q E hi st hQ=>by refine zpU st.1 st.2 (x:=items[i]) (by simp[hi]) λh' hit' hs'=>?_;exact hQ _ h' s.toks (by simp[hi]) ⟨hit',st.2.extBut hs'.extBut hne⟩ hs'
 done:=λs Q E st hE=>znM hh st.1 st.2 xws hE
section
variable{prog:Program}{w:World}{A:Around}{E:Value->Shared->Prop}{s:Shared}
end
structure EpT(h:Heap)(e it l:Addr)(i:Nat):Prop where
 e:∃ old,IsEnum h e it i old
 a:h.IsTupleIter it l i
theorem EpT.keep{h h':Heap}{e it l:Addr}{i:Nat}(p:EpT h e it l i)(k:∀ b∈[e,it],∀ o,h.get? b=some o->h'.get? b=some o):EpT h' e it l i :=
 ⟨let ⟨old,q⟩:=p.e;⟨old,k e xws _ q⟩,p.a.at λo q=>k it xws o q⟩
section
variable{X:Cx}{C:Cn}{elts:List Expr}{x1:Nat}{pt:Pos}{a:Expr}{fa:De}{p pos:Pos}
end
end PV
end
section
namespace PV
open PySem PySem.Spec L2 PyProof.Rows
section
variable{prog:Program}{w:World}{A:Around}{E:Value->Shared->Prop}{s:Shared}
end
section
variable{X:Cx}{C:Cn}{pos:Pos}
end
section
variable{X:Cx}
end
section
variable{X:Cx}{C:Cn}{e:Expr}{fa:De}{p pos:Pos}
end
abbrev DC:=Dt->Ev->R (Bool×Ev)
section
variable{X:Cx}{C:Cn}{pos:Pos}{op op':CmpOp}{ops:List CmpOp}{e:Expr}{r':Sem Value}{rs:List (Sem Value)}{g:Dt->Dt->R Dt}{r:R2}{fe:De}{f:DC}
end
def n2(i j:Int):Nat:=if i<j then ((j-i-1) / 2+1).toNat else 0
section
variable{X:Cx}{C:Cn}{tg e e':Expr}{fa fb:De}{p ps p3:Pos}{k3:Nat}
end
section
variable{X:Cx}{C:Cn}{a e:Expr}{fa fb:De}{p ps pos:Pos}
end
section
variable{prog:Program}{w:World}{A:Around}{E:Value->Shared->Prop}{s:Shared}
end
section
variable{X:Cx}{C:Cn}{a:Expr}{fa:De}{pos:Pos}
end
section
variable{X:Cx}{C:Cn}{a:Expr}{fa:De}{pos pn:Pos}{j:Nat}
end
section
variable{X:Cx}{C:Cn}{pos ps sp apos spos pd:Pos}{x:Str}{k v a:Expr}{fk fv fa:De}
end
def dd(ds:List Dt):List (Dt×Dt):=ds.map λd=>(d,d)
section
variable{X:Cx}{C:Cn}{pS:List (Addr×Obj)}{Y:L2.St}{G1 H1:Hp}{w1:Wn}{Z1:Ev}{l S I:Addr}{xs:List V}{ds:List Dt}{R:Result->Shared->Prop}
end
section
variable{X:Cx}{C:Cn}{pS:List (Addr×Obj)}{Y:L2.St}{G1 H1:Hp}{w1:Wn}{Z1:Ev}{l:Addr}{xs:List V}{ds:List Dt}{d0:Dt}{s:Shared}{Q:Value->Shared->Prop}{E:Value->Shared->Prop}
end
section
variable{X:Cx}{C:Cn}{e:Expr}{fa:De}{p pos:Pos}
end
end PV
end
section
namespace Ts
open PySem PyProof.Rows
def ziA:Bool->Keyed->Array Keyed->Nat->Nat->Nat->StateT SortSt Sem (Option Nat):=sortPriv% PySem.Builtin.gallop
section
variable{prog:Program}{w:World}{A:Around}{E:Value->Shared->Prop}{s:Shared}
def Cp(prog:Program)(w:World)(A:Around)(s:Shared)(kd:SortKind)(P:Keyed->Prop)(r:Keyed->Int):Prop :=
 ∀(E:Value->Shared->Prop)(x y:Keyed)(st:SortSt)(Q:Option Bool->SortSt->Prop),P x->P y->kindOf st=kd->Q (some (decide (r x<r y))) st->wpS (model prog w) A E s (lt' x y) Q st
def bey(r:Keyed->Int)(left:Bool)(key x:Keyed):Bool:=if left=true then decide (r x<r key) else !decide (r key<r x)
theorem zaw{arr:Array Keyed}{i:Nat}{x:Keyed}{st:SortSt}{Q:Keyed->SortSt->Prop}(h:arr[i]? = some x)(q:Q x st):wpS (model prog w) A E s (elem' arr i) Q st:=by rw[elem'_eq,h];exact waD q
theorem zmP{kd:SortKind}{P:Keyed->Prop}{r:Keyed->Int}(C:Cp prog w A s kd P r){left:Bool}{key x:Keyed}{arr:Array Keyed}{i:Nat}{st:SortSt}{Q:Option Bool->SortSt->Prop}(hk:kindOf st=kd)(hP:P key)(hx:arr[i]? = some x)(hp:P x)(q:Q (some (bey r left key x)) st) :
  wpS (model prog w) A E s (elem' arr i >>= λx=>if left=true then lt' x key else lt' key x >>= λo=>pure (o.map (!·))) Q st:=by
 refine waC (zaw hx ?_);unfold bey at q;cases left with
 |true=>exact C E x key st Q hp hP hk q
 |false =>
  refine waC (C E key x st _ hP hp hk ?_);exact waD q
theorem zh0{kd:SortKind}{P:Keyed->Prop}{r:Keyed->Int}(C:Cp prog w A s kd P r){left:Bool}{key:Keyed}{arr:Array Keyed}{base n hint:Nat}{st:SortSt}{Q:Option Nat->SortSt->Prop}(hk:kindOf st=kd)(hP:P key){bb:Nat->Bool}
  (hv:∀ i,i<n->∃ x,arr[base+i]? = some x/\P x/\bb i=bey r left key x) (ha:∀ i j,i<=j->j<n->bb j=true->bb i=true) (hh:hint<n) (h:∀ k,k<=n->(∀ i,i<k->bb i=true)->(∀ i,k<=i->i<n->bb i=false)->Q (some k) st) :
  wpS (model prog w) A E s (ziA left key arr base n hint) Q st:=by
 have hb:∀ i,i<n->∀{Q:Option Bool->SortSt->Prop},Q (some (bb i)) st->wpS (model prog w) A E s (elem' arr (base+i) >>= λx=>if left=true then lt' x key else lt' key x >>= λo=>pure (o.map (!·))) Q st:=λi hi Q q=>by obtain ⟨x,h1,h2,h3⟩:=hv i hi;exact zmP C hk hP h1 h2 (by rw[<- h3];exact q)
 have srch:∀ lo hi,lo<=hi->hi<=n->(∀ i,i<lo->bb i=true)->(∀ i,hi<=i->i<n->bb i=false)->∀(f:Nat->Option (Option Nat)×Nat×Nat->StateT SortSt Sem (ForInStep (Option (Option Nat)×Nat×Nat))),
   (∀ x lo hi,hi<=lo->f x (none,lo,hi)=pure (.done (none,lo,hi)))->(∀ x lo hi,¬ hi<=lo->∀ Q:ForInStep (Option (Option Nat)×Nat×Nat)->SortSt->Prop,lo+(hi-lo) / 2<n->Q (.yield (none,if bb (lo+(hi-lo) / 2)=true then (lo+(hi-lo) / 2+1,hi) else (lo,lo+(hi-lo) / 2))) st->wpS (model prog w) A E s (f x (none,lo,hi)) Q st) ->
   ∀ Q:Option (Option Nat)×Nat×Nat->SortSt->Prop,(∀ k,k<=n->(∀ i,i<k->bb i=true)->(∀ i,k<=i->i<n->bb i=false)->∀ lo,Q (none,lo,k) st)->wpS (model prog w) A E s (forIn [:n] (none,lo,hi) f) Q st:=by
  intro lo hi h1 h2 h3 h4 f f1 f2 Q hQ;refine wpS_forRange (I:=λt c st'=>st'=st/\∃ lo hi,c=(none,lo,hi)/\lo<=hi/\hi<=n/\hi-lo+t<=n/\(∀ i,i<lo->bb i=true)/\∀ i,hi<=i->i<n->bb i=false) ?_ ?_ ⟨rfl,lo,hi,rfl,h1,h2,xwo,h3,h4⟩
  ·rintro t c st' _ ht ⟨rfl,lo,hi,rfl,g1,g2,g3,g4,g5⟩;by_cases e:hi<=lo
   ·rw[f1 t lo hi e];refine waD (hQ hi g2 (λi hi'=>g4 i xwo) g5 lo)
   ·refine f2 t lo hi e _ xwo ?_;cases eb:bb (lo+(hi-lo) / 2) with
    |true =>
     refine ⟨rfl,lo+(hi-lo) / 2+1,hi,rfl,xwo,g2,xwo,λi hi'=>?_,g5⟩;exact ha i (lo+(hi-lo) / 2) xwo xwo eb
    |false =>
     refine ⟨rfl,lo,lo+(hi-lo) / 2,rfl,xwo,xwo,xwo,g4,λi hi' hn=>?_⟩;cases eq:bb i with
     |false=>rfl
     |true=>rw[ha (lo+(hi-lo) / 2) i hi' hn eq] at eb;cases eb
  ·rintro c st' ⟨rfl,lo,hi,rfl,g1,g2,g3,g4,g5⟩;have:max 0 n=n:=by omega
   rw[this] at g3;exact hQ hi g2 (λi hi'=>g4 i xwo) g5 lo
 have two:∀{lo hi:Nat}(Q:ForInStep (Option (Option Nat)×Nat×Nat)->SortSt->Prop)(b:Bool),b=bb (lo+(hi-lo) / 2)->Q (.yield (none,if bb (lo+(hi-lo) / 2)=true then (lo+(hi-lo) / 2+1,hi) else (lo,lo+(hi-lo) / 2))) st ->
   wpS (model prog w) A E s (if b=true then pure (ForInStep.yield (none,lo+(hi-lo) / 2+1,hi)) else pure (ForInStep.yield (none,lo,lo+(hi-lo) / 2)):StateT SortSt Sem (ForInStep (Option (Option Nat)×Nat×Nat))) Q st:=λ{lo hi} Q b e q=>by
  rw[<- e] at q;cases b with
  |true=>exact waD q
  |false=>exact waD q
 unfold ziA;refine waC (hb hint hh ?_);cases eh:bb hint with
 |true =>
  dsimp only;rw[if_pos rfl];refine waC (wpS_mono (Q:=λc st'=>st'=st/\∃ lo ofs,c=(none,lo,ofs)/\lo<ofs/\hint+lo<n/\bb (hint+lo)=true/\(n-hint<=ofs\/bb (hint+ofs)=false)) (wpS_forRange (I:=λt c st'=>st'=st/\∃ lo ofs,c=(none,lo,ofs)/\t+1<=ofs/\lo<ofs/\hint+lo<n/\bb (hint+lo)=true) ?_ ?_ ⟨rfl,0,1,rfl,xwo,xwo,xwo,eh⟩) ?_)
  ·rintro t c st' _ ht ⟨rfl,lo,ofs,rfl,g1,g2,g3,g4⟩;dsimp only;by_cases e:ofs ≥ n-hint
   ·rw[if_pos e];exact waD ⟨rfl,lo,ofs,rfl,g2,g3,g4,.inl e⟩
   ·rw[if_neg e];refine waC (hb (hint+ofs) xwo ?_);dsimp only;cases eb:bb (hint+ofs) with
    |true=>exact waD ⟨rfl,ofs,2 * ofs+1,rfl,xwo,xwo,xwo,eb⟩
    |false=>exact waD ⟨rfl,lo,ofs,rfl,g2,g3,g4,.inr eb⟩
  ·rintro c st' ⟨rfl,lo,ofs,rfl,g1,g2,g3,g4⟩;exact ⟨rfl,lo,ofs,rfl,g2,g3,g4,.inl xwo⟩
  ·rintro c st' ⟨rfl,lo,ofs,rfl,g2,g3,g4,g5⟩;dsimp only;refine waC (srch (hint+lo+1) (hint+min ofs (n-hint)) xwo xwo (λi hi=>ha i (hint+lo) xwo g3 g4) (λi hi hn=>?_) _ (λx lo hi e=>if_pos e) (λx lo hi e Q hn q=>?_) _ (λk k1 k2 k3 lo=>?_))
   ·cases eq:bb i with
    |false=>rfl
    |true =>
     rcases g5 with g5|g5
     ·omega
     ·rw[ha (hint+ofs) i xwo hn eq] at g5;cases g5
   ·dsimp only;rw[if_neg e];refine waC (hb _ hn ?_);exact two Q _ rfl q
   ·dsimp only;exact waD (h k k1 k2 k3)
 |false =>
  dsimp only;rw[if_neg xws];refine waC (wpS_mono (Q:=λc st'=>st'=st/\∃ lo ofs,c=(none,lo,ofs)/\lo<ofs/\lo<=hint/\bb (hint-lo)=false/\(hint+1<=ofs\/(ofs<=hint/\bb (hint-ofs)=true))) (wpS_forRange (I:=λt c st'=>st'=st/\∃ lo ofs,c=(none,lo,ofs)/\t+1<=ofs/\lo<ofs/\lo<=hint/\bb (hint-lo)=false) ?_ ?_ ⟨rfl,0,1,rfl,xwo,xwo,xwo,eh⟩) ?_)
  ·rintro t c st' _ ht ⟨rfl,lo,ofs,rfl,g1,g2,g3,g4⟩;dsimp only;by_cases e:ofs ≥ hint+1
   ·rw[if_pos e];exact waD ⟨rfl,lo,ofs,rfl,g2,g3,g4,.inl e⟩
   ·rw[if_neg e];refine waC (hb (hint-ofs) xwo ?_);dsimp only;cases eb:bb (hint-ofs) with
    |true=>exact waD ⟨rfl,lo,ofs,rfl,g2,g3,g4,.inr ⟨xwo,eb⟩⟩
    |false=>exact waD ⟨rfl,ofs,2 * ofs+1,rfl,xwo,xwo,xwo,eb⟩
  ·rintro c st' ⟨rfl,lo,ofs,rfl,g1,g2,g3,g4⟩;exact ⟨rfl,lo,ofs,rfl,g2,g3,g4,.inl xwo⟩
  ·rintro c st' ⟨rfl,lo,ofs,rfl,g2,g3,g4,g5⟩;dsimp only;refine waC (srch (hint+1-min ofs (hint+1)) (hint-lo) xwo xwo (λi hi=>?_) (λi hi hn=>?_) _ (λx lo hi e=>if_pos e) (λx lo hi e Q hn q=>?_) _ (λk k1 k2 k3 lo=>?_))
   ·rcases g5 with g5|⟨g5,g6⟩
    ·omega
    ·exact ha i (hint-ofs) xwo xwo g6
   ·cases eq:bb i with
    |false=>rfl
    |true=>rw[ha (hint-lo) i hi hn eq] at g4;cases g4
   ·dsimp only;rw[if_neg e];refine waC (hb _ hn ?_);exact two Q _ rfl q
   ·dsimp only;exact waD (h k k1 k2 k3)
end
def Srt(r:Keyed->Int)(l:List Keyed):Prop:=l.Pairwise λx y=>r x<=r y
structure Mg(r:Keyed->Int)(a b out:List Keyed)(ia ib:Nat):Prop where
 pm:(out++(a.drop ia++b.drop ib)).Perm (a++b)
 so:Srt r out
 le:∀ x∈out,∀ y∈a.drop ia++b.drop ib,r x<=r y
variable{r:Keyed->Int}{a b out:List Keyed}{ia ib:Nat}
theorem Srt.drop{l:List Keyed}(h:Srt r l)(k:Nat):Srt r (l.drop k):=h.sublist (List.drop_sublist _ _)
theorem Srt.take{l:List Keyed}(h:Srt r l)(k:Nat):Srt r (l.take k):=h.sublist (List.take_sublist _ _)
theorem Srt.at{l:List Keyed}(h:Srt r l){i j:Nat}{x y:Keyed}(hij:i<=j)(hx:l[i]? = some x)(hy:l[j]? = some y):r x<=r y:=by
 rcases Nat.lt_or_eq_of_le hij with z|z
 ·obtain ⟨hi,rfl⟩:=wam.mp hx;obtain ⟨hj,rfl⟩:=wam.mp hy;exact List.pairwise_iff_getElem.mp h i j hi hj z
 ·subst z;rw[hx] at hy;cases hy;exact Int.le_refl _
theorem zcn{l:List Keyed}{k:Nat}{x:Keyed}(h:x∈l.drop k):∃ j,k<=j/\l[j]? = some x:=by obtain ⟨i,hi⟩:=List.getElem?_of_mem h;rw[List.getElem?_drop] at hi;exact ⟨k+i,xwo,hi⟩
theorem zet{l:List Keyed}{k:Nat}{x:Keyed}(h:x∈l.take k):∃ j,j<k/\l[j]? = some x:=by
 obtain ⟨i,hi⟩:=List.getElem?_of_mem h;rw[List.getElem?_take] at hi;split at hi
 ·exact ⟨i,by assumption,hi⟩
 ·cases hi
theorem Mg.as(h:Mg r a b out ia ib)(ha:Srt r a)(hb:Srt r b)(k:Nat)(hk:∀ i x,i<k->a[ia+i]? = some x->∀ y,b[ib]? = some y->r x<=r y):Mg r a b (out++(a.drop ia).take k) (ia+k) ib:=by
 have e:(a.drop ia).take k++a.drop (ia+k)=a.drop ia:=by rw[<- List.drop_drop];exact List.take_append_drop k _
 have hin:∀ x∈(a.drop ia).take k,x∈a.drop ia:=λx hx=>List.mem_of_mem_take hx;refine ⟨?_,?_,?_⟩
 ·have:=h.pm;rw[<- e] at this;simpa [List.append_assoc] using this
 ·refine List.pairwise_append.mpr ⟨h.so,(ha.drop ia).take k,λx hx y hy=>h.le x hx y (waR _ (hin y hy))⟩
 ·intro x hx y hy;rcases wax.mp hx with hx|hx
  ·refine h.le x hx y ?_;rcases wax.mp hy with hy|hy
   ·exact waR _ (by rw[<- e];exact waz _ hy)
   ·exact waz _ hy
  ·obtain ⟨j,hj,ej⟩:=zet hx;rw[List.getElem?_drop] at ej;rcases wax.mp hy with hy|hy
   ·obtain ⟨i,hi,ei⟩:=zcn hy;exact ha.at xwo ej ei
   ·obtain ⟨i,hi,ei⟩:=zcn hy;have hl:ib<b.length:=by have:=(wam.mp ei).1;omega
    have:=hk j x hj ej _ (wac hl);exact Int.le_trans this (hb.at hi (wac hl) ei)
theorem Mg.swap(h:Mg r a b out ia ib):Mg r b a out ib ia :=
 ⟨(List.Perm.append_left out List.perm_append_comm).trans (h.pm.trans List.perm_append_comm),h.so,λx hx y hy=>h.le x hx y (wax.mpr ((wax.mp hy).symm))⟩
theorem Mg.bs(h:Mg r a b out ia ib)(ha:Srt r a)(hb:Srt r b)(k:Nat)(hk:∀ i x,i<k->b[ib+i]? = some x->∀ y,a[ia]? = some y->r x<=r y):Mg r a b (out++(b.drop ib).take k) ia (ib+k):=(h.swap.as hb ha k hk).swap
theorem Mg.a1(h:Mg r a b out ia ib)(ha:Srt r a)(hb:Srt r b){x:Keyed}(hx:a[ia]? = some x)(hk:∀ y,b[ib]? = some y->r x<=r y):Mg r a b (out++[x]) (ia+1) ib:=by
 have:=h.as ha hb 1 (λi z hi hz y hy=>by
  have:i=0:=by omega
  subst this;rw[Nat.add_zero,hx] at hz;cases hz;exact hk y hy)
 rwa [show (a.drop ia).take 1=[x] by obtain ⟨hl,e⟩:=wam.mp hx;rw[List.drop_eq_getElem_cons hl,e];rfl] at this
theorem Mg.b1(h:Mg r a b out ia ib)(ha:Srt r a)(hb:Srt r b){x:Keyed}(hx:b[ib]? = some x)(hk:∀ y,a[ia]? = some y->r x<=r y):Mg r a b (out++[x]) ia (ib+1):=(h.swap.a1 hb ha hx hk).swap
def Mgd(r:Keyed->Int)(a b out:List Keyed):Prop:=out.Perm (a++b)/\Srt r out
theorem Mg.fin(h:Mg r a b out ia ib)(ha:Srt r a)(hb:Srt r b)(e:a.length<=ia\/b.length<=ib):Mgd r a b (out++(a.drop ia++b.drop ib)):=by
 refine ⟨h.pm,List.pairwise_append.mpr ⟨h.so,?_,h.le⟩⟩;rcases e with e|e
 ·rw[List.drop_eq_nil_iff.mpr e,List.nil_append];exact hb.drop ib
 ·rw[List.drop_eq_nil_iff.mpr e,List.append_nil];exact ha.drop ia
theorem Mg.finA(h:Mg r a b out ia ib)(ha:Srt r a)(hb:Srt r b)(e:ia+1=a.length)(hl:∀ x,a[ia]? = some x->∀ y∈b,r y<=r x):Mgd r a b (out++(b.drop ib++a.drop ia)):=by
 refine ⟨(List.Perm.append_left out List.perm_append_comm).trans h.pm,List.pairwise_append.mpr ⟨h.so,List.pairwise_append.mpr ⟨hb.drop ib,ha.drop ia,λy hy x hx=>?_⟩,λx hx y hy=>h.le x hx y (wax.mpr ((wax.mp hy).symm))⟩⟩;obtain ⟨i,hi,ei⟩:=zcn hx;have:i=ia:=by have:=(wam.mp ei).1;omega
 subst this;exact hl x ei y (List.mem_of_mem_drop hy)
def zl7:Array Keyed->Array Keyed->StateT SortSt Sem (Array Keyed):=sortPriv% PySem.Builtin.mergeLo
abbrev mkG(st:SortSt)(g:Nat):SortSt:=SortSt.mk' (kindOf st) (arrOf st) (pendingOf st) g (failedOf st)
theorem ziX(a:Array Keyed)(i:Nat):(a.extract i).toList=a.toList.drop i:=by rw[Array.toList_extract,List.extract_eq_take_drop];exact List.take_of_length_le xws
theorem zfS(a:Array Keyed)(i k:Nat):(a.extract i (i+k)).toList=(a.toList.drop i).take k:=by rw[Array.toList_extract,List.extract_eq_take_drop,Nat.add_sub_cancel_left]
section
variable{prog:Program}{w:World}{A:Around}{E:Value->Shared->Prop}{s:Shared}
theorem zdf{x:String}{st:SortSt}{Q:Unit->SortSt->Prop}(h:Q () st):wpS (model prog w) A E s (liftM (rule x):StateT SortSt Sem Unit) Q st:=wpS_lift (wpAny_rule ⟨rfl,h⟩)
theorem zai{c:Prop} [Decidable c] {α:Type} {m n:StateT SortSt Sem α} {st:SortSt} {Q:α->SortSt->Prop} (h1:c->wpS (model prog w) A E s m Q st) (h2:¬ c->wpS (model prog w) A E s n Q st):wpS (model prog w) A E s (if c then m else n) Q st:=by
 by_cases h:c
 ·rw[if_pos h];exact h1 h
 ·rw[if_neg h];exact h2 h
theorem zcg{kd:SortKind}{P:Keyed->Prop}{r:Keyed->Int}(C:Cp prog w A s kd P r){left:Bool}{key:Keyed}{a:Array Keyed}{i n hint:Nat}{st:SortSt}{Q:Option Nat->SortSt->Prop}(hk:kindOf st=kd)(hP:P key)(hPa:∀ x∈a.toList,P x)(ha:Srt r a.toList)(hn:i+n<=a.size)(hh:hint<n)
  (h:∀ k,k<=n->(∀ j x,j<k->a.toList[i+j]? = some x->bey r left key x=true)->(∀ j x,k<=j->j<n->a.toList[i+j]? = some x->bey r left key x=false)->Q (some k) st) :
  wpS (model prog w) A E s (ziA left key a i n hint) Q st:=by
 have at_:∀ j,j<n->∃ x,a.toList[i+j]? = some x/\a[i+j]? = some x:=λj hj=>by
  have hl:i+j<a.size:=by lia
  exact ⟨a[i+j],by rw[Array.getElem?_toList];exact getElem?_pos a _ hl,getElem?_pos a _ hl⟩
 refine zh0 C hk hP (bb:=λj=>match a.toList[i+j]? with|some x=>bey r left key x|none=>false) (λj hj=>?_) (λj j' hjj hj' hb=>?_) hh (λk hk h1 h2=>h k hk (λj x hj hx=>?_) (λj x hkj hj hx=>?_))
 ·obtain ⟨x,e1,e2⟩:=at_ j hj;exact ⟨x,e2,hPa x (waH e1),by rw[e1]⟩
 ·obtain ⟨x,e1,_⟩:=at_ j xwl;obtain ⟨y,e2,_⟩:=at_ j' hj'
  try dsimp only at hb ⊢
  rw[e2] at hb;rw[e1];have:=ha.at (show i+j<=i+j' by lia) e1 e2;dsimp only at hb ⊢;unfold bey at hb ⊢;cases left with
  |true =>
   simp only[if_true,war] at hb ⊢;lia
  |false =>
   simp only[Bool.false_eq_true,if_false,Bool.not_eq_true',decide_eq_false_iff_not] at hb ⊢;lia
 ·have:=h1 j hj
  try dsimp only at this
  rw[hx] at this;exact this
 ·have:=h2 j hkj hj
  try dsimp only at this
  rw[hx] at this;exact this
def JL(r:Keyed->Int)(a b out:Array Keyed)(ia ib:Nat):Prop:=Mg r a.toList b.toList out.toList ia ib/\ia+1<a.size/\ib<b.size
theorem zkZ{kd:SortKind}{P:Keyed->Prop}{r:Keyed->Int}(C:Cp prog w A s kd P r){a b:Array Keyed}{st:SortSt}{Q:Array Keyed->SortSt->Prop}(hk:kindOf st=kd)(hPa:∀ x∈a.toList,P x)(hPb:∀ x∈b.toList,P x)(ha:Srt r a.toList)(hb:Srt r b.toList)(ha0:0<a.size)(hb0:0<b.size)
  (h0:∀ x y,a.toList[0]? = some x->b.toList[0]? = some y->r y<=r x) (hl:∀ x,a.toList[a.size-1]? = some x->∀ y∈b.toList,r y<=r x) (h:∀ out g,Mgd r a.toList b.toList out.toList->Q out (mkG st g)):wpS (model prog w) A E s (zl7 a b) Q st:=by
 have aA:∀ i,i<a.size->∃ x,a.toList[i]? = some x/\a[i]? = some x/\P x:=λi hi=>by
  have e:a.toList[i]? = some a[i]:=by rw[Array.getElem?_toList];exact getElem?_pos a _ hi
  exact ⟨a[i],e,getElem?_pos a _ hi,hPa _ (waH e)⟩
 have bA:∀ i,i<b.size->∃ x,b.toList[i]? = some x/\b[i]? = some x/\P x:=λi hi=>by
  have e:b.toList[i]? = some b[i]:=by rw[Array.getElem?_toList];exact getElem?_pos b _ hi
  exact ⟨b[i],e,getElem?_pos b _ hi,hPb _ (waH e)⟩
 have fin:∀{out:Array Keyed}{ia ib:Nat},Mg r a.toList b.toList out.toList ia ib->(a.size<=ia\/b.size<=ib)->Mgd r a.toList b.toList (out++a.extract ia++b.extract ib).toList:=λ{out ia ib} m e=>by rw[Array.toList_append,Array.toList_append,ziX,ziX,List.append_assoc];exact m.fin ha hb (by simpa using e)
 have finA:∀{out:Array Keyed}{ia ib:Nat},Mg r a.toList b.toList out.toList ia ib->ia+1=a.size->Mgd r a.toList b.toList (out++b.extract ib++a.extract ia).toList:=λ{out ia ib} m e=>by rw[Array.toList_append,Array.toList_append,ziX,ziX,List.append_assoc];exact m.finA ha hb (by simpa using e) λx hx=>hl x (by rw[show a.size-1=ia by lia];exact hx)
 unfold zl7;refine waC (zdf ?_);dsimp only;obtain ⟨y0,e1,e2,p0⟩:=bA 0 hb0;refine waC (zaw e2 ?_);have m0:Mg r a.toList b.toList (#[y0]:Array Keyed).toList 0 1:=by
  have:Mg r a.toList b.toList [] 0 0:=⟨xws,.nil,λx hx=>by cases hx⟩
  exact this.b1 ha hb e1 λx hx=>h0 x y0 hx e1
 by_cases c1:(1 == b.size)=true
 ·rw[if_pos c1];exact waD (h _ (gallopOf st) (fin m0 (.inr (by have:=beq_iff_eq.mp c1;lia))))
 rw[if_neg c1];have hb1:1<b.size:=by have:¬ 1=b.size:=λz=>c1 (beq_iff_eq.mpr z);lia
 by_cases c2:(0+1 == a.size)=true
 ·rw[if_pos c2];exact waD (h _ (gallopOf st) (finA m0 (by have:=beq_iff_eq.mp c2;lia)))
 rw[if_neg c2];have ha1:1<a.size:=by have:¬ 0+1=a.size:=λz=>c2 (beq_iff_eq.mpr z);lia
 refine waC (wpS_get ?_)
 try dsimp only
 refine waC (wpS_mono (Q:=λc st'=>∃ g,st'=mkG st g/\∃ res,c.1=some res/\Mgd r a.toList b.toList res.toList) (wpS_forRange (I:=λt c st'=>∃ g,st'=mkG st g/\∃ out ia ib mg,c=(none,out,ia,ib,mg)/\JL r a b out ia ib/\t<=ia+ib) ?_ ?_ ⟨gallopOf st,rfl,_,_,_,_,rfl,⟨m0,xwl,hb1⟩,xwl⟩) ?_)
 rotate_left
 ·rintro c st' ⟨g,rfl,out,ia,ib,mg,rfl,⟨_,j1,j2⟩,j3⟩;lia
 ·rintro ⟨c1,c⟩ st' ⟨g,rfl,res,e,hm⟩;dsimp only at e ⊢;subst e;exact waD (h res g hm)
 rintro t c st1 _ ht ⟨g,rfl,out,ia,ib,mg,rfl,hJ,hc⟩;dsimp only;refine waC (wpS_mono (Q:=λc st'=>st'=mkG st g/\((∃ out ia2 ib2 ac bc,c=(none,out,ia2,ib2,ac,bc)/\JL r a b out ia2 ib2/\ia+ib+1<=ia2+ib2)\/∃ res,c.1=some res/\Mgd r a.toList b.toList res.toList)) (wpS_forRange (I:=λt c st'=>st'=mkG st g/\∃ out ia2 ib2 ac bc,c=(none,out,ia2,ib2,ac,bc)/\JL r a b out ia2 ib2/\ia+ib+t<=ia2+ib2) ?_ ?_ ⟨rfl,_,_,_,_,_,rfl,hJ,xwl⟩) ?_)
 ·rintro t c st2 _ ht ⟨rfl,out,ia,ib,ac,bc,rfl,⟨m,j1,j2⟩,hc⟩;dsimp only;obtain ⟨y,y1,y2,yP⟩:=bA ib j2;obtain ⟨x,x1,x2,xP⟩:=aA ia xwl;refine waC (zaw y2 (waC (zaw x2 (waC (C E y x _ _ yP xP hk ?_)))));dsimp only;by_cases hlt:r y<r x
  ·rw[if_pos (decide_eq_true hlt)];refine waC (zaw y2 ?_);have m':Mg r a.toList b.toList (out.push y).toList ia (ib+1):=by rw[Array.toList_push];exact m.b1 ha hb y1 λz hz=>by rw[x1] at hz;cases hz;lia
   by_cases c3:(ib+1 == b.size)=true
   ·rw[if_pos c3];exact waD ⟨rfl,.inr ⟨_,rfl,fin m' (.inr (by have:=beq_iff_eq.mp c3;lia))⟩⟩
   rw[if_neg c3];have j2':ib+1<b.size:=by have:¬ ib+1=b.size:=λz=>c3 (beq_iff_eq.mpr z);lia
   by_cases c4:bc+1 ≥ mg
   ·rw[if_pos c4];exact waD ⟨rfl,.inl ⟨_,_,_,_,_,rfl,⟨m',j1,j2'⟩,xwl⟩⟩
   ·rw[if_neg c4];exact waD ⟨rfl,_,_,_,_,_,rfl,⟨m',j1,j2'⟩,xwl⟩
  ·rw[if_neg (by simpa using hlt)];refine waC (zaw x2 ?_);have m':Mg r a.toList b.toList (out.push x).toList (ia+1) ib:=by rw[Array.toList_push];exact m.a1 ha hb x1 λz hz=>by rw[y1] at hz;cases hz;lia
   by_cases c3:(ia+1+1 == a.size)=true
   ·rw[if_pos c3];exact waD ⟨rfl,.inr ⟨_,rfl,finA m' (by have:=beq_iff_eq.mp c3;lia)⟩⟩
   rw[if_neg c3];have j1':ia+1+1<a.size:=by have:¬ ia+1+1=a.size:=λz=>c3 (beq_iff_eq.mpr z);lia
   by_cases c4:ac+1 ≥ mg
   ·rw[if_pos c4];exact waD ⟨rfl,.inl ⟨_,_,_,_,_,rfl,⟨m',j1',j2⟩,xwl⟩⟩
   ·rw[if_neg c4];exact waD ⟨rfl,_,_,_,_,_,rfl,⟨m',j1',j2⟩,xwl⟩
 ·rintro c st2 ⟨rfl,out,ia2,ib2,ac,bc,rfl,hJ2,hc2⟩;exact ⟨rfl,.inl ⟨_,_,_,_,_,rfl,hJ2,xwl⟩⟩
 rintro ⟨c1,c⟩ st2 ⟨rfl,hc1⟩;rcases hc1 with ⟨out,ia,ib,ac,bc,e,hJ,hc⟩|⟨res,e,hm⟩
 rotate_left
 ·dsimp only at e ⊢;subst e;exact waD ⟨g,rfl,res,rfl,hm⟩
 cases e;dsimp only;refine waC (zdf ?_);refine waC (wpS_mono (Q:=λc st'=>∃ g,st'=mkG st g/\((∃ out ia2 ib2 mg ac bc,c=(none,out,ia2,ib2,mg,ac,bc)/\JL r a b out ia2 ib2/\ia+ib<=ia2+ib2)\/∃ res,c.1=some res/\Mgd r a.toList b.toList res.toList)) (wpS_forRange (I:=λt c st'=>∃ g,st'=mkG st g/\∃ out ia2 ib2 mg ac bc,c=(none,out,ia2,ib2,mg,ac,bc)/\JL r a b out ia2 ib2/\ia+ib<=ia2+ib2) ?_ ?_ ⟨g,rfl,_,_,_,_,_,_,rfl,hJ,xwl⟩) ?_)
 rotate_left
 ·rintro c st2 ⟨g,rfl,out,ia2,ib2,mg,ac,bc,rfl,hJ2,hc2⟩;exact ⟨g,rfl,.inl ⟨_,_,_,_,_,_,rfl,hJ2,hc2⟩⟩
 ·rintro ⟨c1,c⟩ st2 ⟨g,rfl,hc1⟩;rcases hc1 with ⟨out,ia,ib,mg,ac,bc,e,hJ,hc⟩|⟨res,e,hm⟩
  ·cases e;dsimp only;refine waC (wpS_modify ?_);exact waD ⟨mg+1,rfl,_,_,_,_,rfl,hJ,xwl⟩
  ·dsimp only at e ⊢;subst e;exact waD ⟨g,rfl,res,rfl,hm⟩
 rintro t c st2 _ ht ⟨g,rfl,out,ia,ib,mg,ac,bc,rfl,⟨m,j1,j2⟩,hc2⟩;dsimp only;obtain ⟨y,y1,y2,yP⟩:=bA ib j2;refine zai (λhh=>?_) (λhh=>?_)
 all_goals
  refine waC (wpS_modify (waC (zaw y2 (waC (zcg C hk yP hPa ha xwl xwl λk k1 k2 k3=>?_)))));dsimp only;have mA:Mg r a.toList b.toList (out++a.extract ia (ia+k)).toList (ia+k) ib:=by rw[Array.toList_append,zfS];refine m.as ha hb k λi x hi hx z hz=>?_;rw[y1] at hz;cases hz;have:=k2 i x hi hx;unfold bey at this;simp only[Bool.false_eq_true,if_false,Bool.not_eq_true',decide_eq_false_iff_not] at this;lia
  have nA:∀ z,a.toList[ia+k]? = some z->r y<=r z:=λz hz=>by have hl:=(wam.mp hz).1;rw[Array.length_toList] at hl;have:=k3 k z (wal _) xwl hz;unfold bey at this;simp only[Bool.false_eq_true,if_false,Bool.not_eq_false',war] at this;lia
  refine zai (λhh=>?_) (λhh=>?_)
  ·have ck:=hh;refine zai (λhh=>?_) (λhh=>?_)
   ·have c3:=hh;exact waD ⟨_,rfl,.inr ⟨_,rfl,finA mA (by have:=beq_iff_eq.mp c3;lia)⟩⟩
   have c3:=hh;rw[beq_iff_eq] at c3;refine zai (λhh=>?_) (λhh=>?_)
   ·have c4:=hh;exact waD ⟨_,rfl,.inr ⟨_,rfl,fin mA (.inl (by have:=beq_iff_eq.mp c4;lia))⟩⟩
   have c4:=hh;rw[beq_iff_eq] at c4;refine waC (zaw y2 ?_);have M2:=mA.b1 ha hb y1 nA;rw[<- Array.toList_push] at M2;refine zai (λhh=>?_) (λhh=>?_)
   ·have c5:=hh;exact waD ⟨_,rfl,.inr ⟨_,rfl,fin M2 (.inr (by have:=beq_iff_eq.mp c5;lia))⟩⟩
   have c5:=hh;rw[beq_iff_eq] at c5;obtain ⟨x,x1,x2,xP⟩:=aA (ia+k) xwl;refine waC (zaw x2 (waC (zcg C hk xP hPb hb xwl xwl λk' k1' k2' k3'=>?_)));dsimp only;have mB:Mg r a.toList b.toList ((out++a.extract ia (ia+k)).push y++b.extract (ib+1) (ib+1+k')).toList (ia+k) (ib+1+k'):=by rw[Array.toList_append,zfS];refine M2.bs ha hb k' λi z hi hz v hv=>?_;rw[x1] at hv;cases hv;have:=k2' i z hi hz;unfold bey at this;simp only[if_true,war] at this;lia
   have nB:∀ z,b.toList[ib+1+k']? = some z->r x<=r z:=λz hz=>by have hl:=(wam.mp hz).1;rw[Array.length_toList] at hl;have:=k3' k' z (wal _) xwl hz;unfold bey at this;simp only[if_true,decide_eq_false_iff_not] at this;lia
   refine zai (λhh=>?_) (λhh=>?_)
   ·refine zai (λhh=>?_) (λhh=>?_)
    ·have c6:=hh;exact waD ⟨_,rfl,.inr ⟨_,rfl,fin mB (.inr (by have:=beq_iff_eq.mp c6;lia))⟩⟩
    have c6:=hh;rw[beq_iff_eq] at c6;refine waC (zaw x2 ?_);have M4:=mB.a1 ha hb x1 nB;rw[<- Array.toList_push] at M4;refine zai (λhh=>?_) (λhh=>?_)
    ·have c7:=hh;exact waD ⟨_,rfl,.inr ⟨_,rfl,finA M4 (by have:=beq_iff_eq.mp c7;lia)⟩⟩
    have c7:=hh;rw[beq_iff_eq] at c7;refine zai (λhh=>?_) (λhh=>?_)
    ·exact waD ⟨_,rfl,.inl ⟨_,_,_,_,_,_,rfl,⟨M4,xwl,xwl⟩,xwl⟩⟩
    ·exact waD ⟨_,rfl,_,_,_,_,_,_,rfl,⟨M4,xwl,xwl⟩,xwl⟩
   ·have ck':=hh;have e0:k'=0:=by lia
    subst e0;refine waC (zaw x2 ?_);have M4:=M2.a1 ha hb x1 nB;rw[<- Array.toList_push] at M4;refine zai (λhh=>?_) (λhh=>?_)
    ·have c7:=hh;exact waD ⟨_,rfl,.inr ⟨_,rfl,finA M4 (by have:=beq_iff_eq.mp c7;lia)⟩⟩
    have c7:=hh;rw[beq_iff_eq] at c7;refine zai (λhh=>?_) (λhh=>?_)
    ·exact waD ⟨_,rfl,.inl ⟨_,_,_,_,_,_,rfl,⟨M4,xwl,xwl⟩,xwl⟩⟩
    ·exact waD ⟨_,rfl,_,_,_,_,_,_,rfl,⟨M4,xwl,xwl⟩,xwl⟩
  ·have ck:=hh;have e0:k=0:=by lia
   subst e0;refine waC (zaw y2 ?_);have M2:=m.b1 ha hb y1 nA;rw[<- Array.toList_push] at M2;refine zai (λhh=>?_) (λhh=>?_)
   ·have c5:=hh;exact waD ⟨_,rfl,.inr ⟨_,rfl,fin M2 (.inr (by have:=beq_iff_eq.mp c5;lia))⟩⟩
   have c5:=hh;rw[beq_iff_eq] at c5;obtain ⟨x,x1,x2,xP⟩:=aA ia xwl;refine waC (zaw x2 (waC (zcg C hk xP hPb hb xwl xwl λk' k1' k2' k3'=>?_)));dsimp only;have mB:Mg r a.toList b.toList (out.push y++b.extract (ib+1) (ib+1+k')).toList ia (ib+1+k'):=by rw[Array.toList_append,zfS];refine M2.bs ha hb k' λi z hi hz v hv=>?_;rw[x1] at hv;cases hv;have:=k2' i z hi hz;unfold bey at this;simp only[if_true,war] at this;lia
   have nB:∀ z,b.toList[ib+1+k']? = some z->r x<=r z:=λz hz=>by have hl:=(wam.mp hz).1;rw[Array.length_toList] at hl;have:=k3' k' z (wal _) xwl hz;unfold bey at this;simp only[if_true,decide_eq_false_iff_not] at this;lia
   refine zai (λhh=>?_) (λhh=>?_)
   ·refine zai (λhh=>?_) (λhh=>?_)
    ·have c6:=hh;exact waD ⟨_,rfl,.inr ⟨_,rfl,fin mB (.inr (by have:=beq_iff_eq.mp c6;lia))⟩⟩
    have c6:=hh;rw[beq_iff_eq] at c6;refine waC (zaw x2 ?_);have M4:=mB.a1 ha hb x1 nB;rw[<- Array.toList_push] at M4;refine zai (λhh=>?_) (λhh=>?_)
    ·have c7:=hh;exact waD ⟨_,rfl,.inr ⟨_,rfl,finA M4 (by have:=beq_iff_eq.mp c7;lia)⟩⟩
    have c7:=hh;rw[beq_iff_eq] at c7;refine zai (λhh=>?_) (λhh=>?_)
    ·exact waD ⟨_,rfl,.inl ⟨_,_,_,_,_,_,rfl,⟨M4,xwl,xwl⟩,xwl⟩⟩
    ·exact waD ⟨_,rfl,_,_,_,_,_,_,rfl,⟨M4,xwl,xwl⟩,xwl⟩
   ·have ck':=hh;have e0:k'=0:=by lia
    subst e0;refine waC (zaw x2 ?_);have M4:=M2.a1 ha hb x1 nB;rw[<- Array.toList_push] at M4;refine zai (λhh=>?_) (λhh=>?_)
    ·have c7:=hh;exact waD ⟨_,rfl,.inr ⟨_,rfl,finA M4 (by have:=beq_iff_eq.mp c7;lia)⟩⟩
    have c7:=hh;rw[beq_iff_eq] at c7;refine zai (λhh=>?_) (λhh=>?_)
    ·exact waD ⟨_,rfl,.inl ⟨_,_,_,_,_,_,rfl,⟨M4,xwl,xwl⟩,xwl⟩⟩
    ·exact waD ⟨_,rfl,_,_,_,_,_,_,rfl,⟨M4,xwo,xwo⟩,xwo⟩
end
def zlO:Array Keyed->Array Keyed->StateT SortSt Sem (Array Keyed):=sortPriv% PySem.Builtin.mergeHi
abbrev ng(r:Keyed->Int):Keyed->Int:=λx=>- r x
theorem Srt.rev{r:Keyed->Int}{l:List Keyed}(h:Srt r l):Srt (ng r) l.reverse:=by unfold Srt;rw[List.pairwise_reverse];exact h.imp λh=>by show-r _<=- r _;omega
theorem Srt.rev'{r:Keyed->Int}{l:List Keyed}(h:Srt (ng r) l):Srt r l.reverse:=by unfold Srt;rw[List.pairwise_reverse];exact h.imp λ{x y} h=>by have h':- r x<=- r y:=h;show r y<=r x;omega
theorem zfd(l:List Keyed){n:Nat}(h:n<=l.length):l.reverse.drop (l.length-n)=(l.take n).reverse:=by rw[List.drop_reverse,show l.length-(l.length-n)=n by omega]
theorem zg7(a:Array Keyed){i n:Nat}(hi:i<=n)(hn:n<=a.size):(a.extract i n).reverse.toList=(a.toList.reverse.drop (a.size-n)).take (n-i):=by
 have hn':n<=a.toList.length:=by rw[Array.length_toList];exact hn
 rw[show a.size=a.toList.length from rfl,zfd _ hn',Array.toList_reverse,Array.toList_extract,List.extract_eq_take_drop,List.take_reverse,List.length_take];congr 1;rw[List.drop_take];rw[show min n a.toList.length-(n-i)=i by omega]
theorem zq1(a:Array Keyed)(n:Nat):(a.extract 0 n).toList=a.toList.take n:=by rw[Array.toList_extract,List.extract_eq_take_drop];simp
theorem Mgd.rev{r:Keyed->Int}{a b l:List Keyed}(h:Mgd (ng r) b.reverse a.reverse l):Mgd r a b l.reverse:=by refine ⟨?_,h.2.rev'⟩;refine l.reverse_perm.trans (h.1.trans ?_);refine (List.perm_append_comm).trans ?_;exact (a.reverse_perm).append b.reverse_perm
section
variable{prog:Program}{w:World}{A:Around}{E:Value->Shared->Prop}{s:Shared}
def JH(r:Keyed->Int)(a b out:Array Keyed)(na nb:Nat):Prop:=Mg (ng r) b.toList.reverse a.toList.reverse out.toList (b.size-nb) (a.size-na)/\2<=nb/\nb<=b.size/\1<=na/\na<=a.size
def MS(a b:Array Keyed)(na nb:Nat):Nat:=(a.size-na)+(b.size-nb)
theorem msb{a b:Array Keyed}{na nb:Nat}(h1:1<=na)(h2:na<=a.size)(h3:2<=nb)(h4:nb<=b.size):MS a b na nb+3<=a.size+b.size:=by unfold MS;omega
theorem msA{a b:Array Keyed}{na nb:Nat}(h1:1<=na)(h2:na<=a.size):MS a b na nb+1<=MS a b (na-1) nb:=by unfold MS;omega
theorem msB{a b:Array Keyed}{na nb:Nat}(h1:1<=nb)(h2:nb<=b.size):MS a b na nb+1<=MS a b na (nb-1):=by unfold MS;omega
theorem msL{a b:Array Keyed}{na nb p q:Nat}(h1:p<=na)(h2:q<=nb):MS a b na nb<=MS a b p q:=by unfold MS;omega
theorem zlj{kd:SortKind}{P:Keyed->Prop}{r:Keyed->Int}(C:Cp prog w A s kd P r){a b:Array Keyed}{st:SortSt}{Q:Array Keyed->SortSt->Prop}(hk:kindOf st=kd)(hPa:∀ x∈a.toList,P x)(hPb:∀ x∈b.toList,P x)(ha:Srt r a.toList)(hb:Srt r b.toList)(ha0:0<a.size)(hb0:0<b.size)
  (h0:∀ y,b.toList[0]? = some y->∀ x∈a.toList,r y<=r x) (hl:∀ x y,a.toList[a.size-1]? = some x->b.toList[b.size-1]? = some y->r y<=r x) (h:∀ out g,Mgd r a.toList b.toList out.toList->Q out (mkG st g)):wpS (model prog w) A E s (zlO a b) Q st:=by
 have sA:=hb.rev;have sB:=ha.rev;have aA:∀ na,1<=na->na<=a.size->∃ x,a.toList.reverse[a.size-na]? = some x/\a.toList[na-1]? = some x/\a[na-1]? = some x/\P x:=λna h1 h2=>by
  have hl:na-1<a.size:=by omega
  have e:a.toList[na-1]? = some a[na-1]:=by rw[Array.getElem?_toList];exact getElem?_pos a _ hl
  refine ⟨a[na-1],?_,e,getElem?_pos a _ hl,hPa _ (waH e)⟩;rw[List.getElem?_reverse (by rw[Array.length_toList];omega),Array.length_toList,show a.size-1-(a.size-na)=na-1 by omega];exact e
 have bA:∀ nb,1<=nb->nb<=b.size->∃ x,b.toList.reverse[b.size-nb]? = some x/\b.toList[nb-1]? = some x/\b[nb-1]? = some x/\P x:=λnb h1 h2=>by
  have hl:nb-1<b.size:=by omega
  have e:b.toList[nb-1]? = some b[nb-1]:=by rw[Array.getElem?_toList];exact getElem?_pos b _ hl
  refine ⟨b[nb-1],?_,e,getElem?_pos b _ hl,hPb _ (waH e)⟩;rw[List.getElem?_reverse (by rw[Array.length_toList];omega),Array.length_toList,show b.size-1-(b.size-nb)=nb-1 by omega];exact e
 have fin:∀{out:Array Keyed}{na nb:Nat},Mg (ng r) b.toList.reverse a.toList.reverse out.toList (b.size-nb) (a.size-na)->na<=a.size->nb<=b.size->(na=0\/nb=0)->Mgd r a.toList b.toList (a.extract 0 na++b.extract 0 nb++out.reverse).toList:=λ{out na nb} m h1 h2 e=>by have:=(m.fin sA sB (by simp;omega)).rev;rw[show b.size-nb=b.toList.length-nb from rfl,show a.size-na=a.toList.length-na from rfl,zfd _ (show nb<=b.toList.length by rw[Array.length_toList];exact h2),zfd _ (show na<=a.toList.length by rw[Array.length_toList];exact h1)] at this;rw[Array.toList_append,Array.toList_append,zq1,zq1,Array.toList_reverse];simpa [List.reverse_append] using this
 have finB:∀{out:Array Keyed}{na nb:Nat},Mg (ng r) b.toList.reverse a.toList.reverse out.toList (b.size-nb) (a.size-na)->na<=a.size->nb=1->Mgd r a.toList b.toList (b.extract 0 nb++a.extract 0 na++out.reverse).toList:=λ{out na nb} m h1 e=>by
  have:=(m.finA sA sB (by simp;omega) (λx hx y hy=>by rw[List.getElem?_reverse (by rw[Array.length_toList];omega),Array.length_toList,show b.size-1-(b.size-nb)=0 by omega] at hx;have:=h0 x hx y (List.mem_reverse.mp hy);show-r y<=- r x;omega)).rev
  rw[show b.size-nb=b.toList.length-nb from rfl,show a.size-na=a.toList.length-na from rfl,zfd _ (show nb<=b.toList.length by rw[Array.length_toList];omega),zfd _ (show na<=a.toList.length by rw[Array.length_toList];exact h1)] at this;rw[Array.toList_append,Array.toList_append,zq1,zq1,Array.toList_reverse];simpa [List.reverse_append] using this
 unfold zlO;refine waC (zdf ?_);dsimp only;obtain ⟨x0,e0,e1,e2,p0⟩:=aA a.size xwo (wal _);refine waC (zaw e2 ?_);have m0:Mg (ng r) b.toList.reverse a.toList.reverse (#[x0]:Array Keyed).toList (b.size-b.size) (a.size-(a.size-1)):=by
  have m:Mg (ng r) b.toList.reverse a.toList.reverse [] 0 0:=⟨xws,.nil,λx hx=>by cases hx⟩
  rw[Nat.sub_self] at e0;have:=m.b1 sA sB e0 λy hy=>by rw[List.getElem?_reverse (by rw[Array.length_toList];omega),Array.length_toList,Nat.sub_zero] at hy;have:=hl x0 y e1 hy;show-r x0<=- r y;omega
  rw[Nat.sub_self,show a.size-(a.size-1)=0+1 by omega];exact this
 refine zai (λw1=>?_) (λw1=>?_)
 ·exact waD (h _ (gallopOf st) (fin m0 xwo (wal _) (.inl (beq_iff_eq.mp w1))))
 rw[beq_iff_eq] at w1;refine zai (λw2=>?_) (λw2=>?_)
 ·exact waD (h _ (gallopOf st) (finB m0 xwo (beq_iff_eq.mp w2)))
 rw[beq_iff_eq] at w2;refine waC (wpS_get ?_)
 try dsimp only
 refine waC (wpS_mono (Q:=λc st'=>∃ g,st'=mkG st g/\∃ res,c.1=some res/\Mgd r a.toList b.toList res.toList) (wpS_forRange (I:=λt c st'=>∃ g,st'=mkG st g/\∃ na nb out mg,c=(none,na,nb,out,mg)/\JH r a b out na nb/\t<=MS a b na nb) ?_ ?_ ⟨gallopOf st,rfl,_,_,_,_,rfl,⟨m0,xwo,xwo,xwo,xwo⟩,xwo⟩) ?_)
 rotate_left
 ·rintro c st' ⟨g,rfl,na,nb,out,mg,rfl,⟨_,j1,j2,j3,j4⟩,j5⟩;have:=msb (a:=a) (b:=b) j3 j4 j1 j2;omega
 ·rintro ⟨c1,c⟩ st' ⟨g,rfl,res,e,hm⟩;dsimp only at e ⊢;subst e;exact waD (h res g hm)
 rintro t c st1 i9 ht9 ⟨g,rfl,na,nb,out,mg,rfl,hJ,hc9⟩;dsimp only;refine waC (wpS_mono (Q:=λc st'=>st'=mkG st g/\((∃ na2 nb2 out ac bc,c=(none,na2,nb2,out,ac,bc)/\JH r a b out na2 nb2/\MS a b na nb+1<=MS a b na2 nb2)\/∃ res,c.1=some res/\Mgd r a.toList b.toList res.toList)) (wpS_forRange (I:=λt c st'=>st'=mkG st g/\∃ na2 nb2 out ac bc,c=(none,na2,nb2,out,ac,bc)/\JH r a b out na2 nb2/\MS a b na nb+t<=MS a b na2 nb2) ?_ ?_ ⟨rfl,_,_,_,_,_,rfl,hJ,xwo⟩) ?_)
 ·rintro t c st2 i8 ht ⟨rfl,na,nb,out,ac,bc,rfl,⟨m,j1,j2,j3,j4⟩,hc⟩;clear i8 ht ht9 hc9 i9 w1 w2;dsimp only;obtain ⟨y,y1,y2,y3,yP⟩:=bA nb xwo j2;obtain ⟨x,x1,x2,x3,xP⟩:=aA na j3 j4;refine waC (zaw y3 (waC (zaw x3 (waC (C E y x _ _ yP xP hk ?_)))));dsimp only;by_cases hlt:r y<r x
  ·rw[if_pos (decide_eq_true hlt)];refine waC (zaw x3 ?_);have m':Mg (ng r) b.toList.reverse a.toList.reverse (out.push x).toList (b.size-nb) (a.size-(na-1)):=by rw[Array.toList_push,show a.size-(na-1)=a.size-na+1 by omega];exact m.b1 sA sB x1 λz hz=>by rw[y1] at hz;cases hz;show-r x<=- r y;omega
   refine zai (λc3=>?_) (λc3=>?_)
   ·exact waD ⟨rfl,.inr ⟨_,rfl,fin m' xwo j2 (.inl (beq_iff_eq.mp c3))⟩⟩
   rw[beq_iff_eq] at c3;refine zai (λc4=>?_) (λc4=>?_)
   ·exact waD ⟨rfl,.inl ⟨_,_,_,_,_,rfl,⟨m',j1,j2,xwo,xwo⟩,by have:=msA (b:=b) (nb:=nb) j3 j4;omega⟩⟩
   ·exact waD ⟨rfl,_,_,_,_,_,rfl,⟨m',j1,j2,xwo,xwo⟩,by have:=msA (b:=b) (nb:=nb) j3 j4;omega⟩
  ·rw[if_neg (by simpa using hlt)];refine waC (zaw y3 ?_);have m':Mg (ng r) b.toList.reverse a.toList.reverse (out.push y).toList (b.size-(nb-1)) (a.size-na):=by rw[Array.toList_push,show b.size-(nb-1)=b.size-nb+1 by omega];exact m.a1 sA sB y1 λz hz=>by rw[x1] at hz;cases hz;show-r y<=- r x;omega
   refine zai (λc3=>?_) (λc3=>?_)
   ·exact waD ⟨rfl,.inr ⟨_,rfl,finB m' j4 (beq_iff_eq.mp c3)⟩⟩
   rw[beq_iff_eq] at c3;refine zai (λc4=>?_) (λc4=>?_)
   ·exact waD ⟨rfl,.inl ⟨_,_,_,_,_,rfl,⟨m',xwo,xwo,j3,j4⟩,by have:=msB (a:=a) (na:=na) (Nat.le_of_succ_le j1) j2;omega⟩⟩
   ·exact waD ⟨rfl,_,_,_,_,_,rfl,⟨m',xwo,xwo,j3,j4⟩,by have:=msB (a:=a) (na:=na) (Nat.le_of_succ_le j1) j2;omega⟩
 ·rintro c st2 ⟨rfl,na2,nb2,out,ac,bc,rfl,hJ2,hc2⟩;exact ⟨rfl,.inl ⟨_,_,_,_,_,rfl,hJ2,xwo⟩⟩
 rintro ⟨c1,c⟩ st2 ⟨rfl,hc1⟩;rcases hc1 with ⟨na,nb,out,ac,bc,e,hJ,hc⟩|⟨res,e,hm⟩
 rotate_left
 ·dsimp only at e ⊢;subst e;exact waD ⟨g,rfl,res,rfl,hm⟩
 cases e;dsimp only;refine waC (zdf ?_);refine waC (wpS_mono (Q:=λc st'=>∃ g,st'=mkG st g/\((∃ na2 nb2 out mg ac bc,c=(none,na2,nb2,out,mg,ac,bc)/\JH r a b out na2 nb2/\MS a b na nb<=MS a b na2 nb2)\/∃ res,c.1=some res/\Mgd r a.toList b.toList res.toList)) (wpS_forRange (I:=λt c st'=>∃ g,st'=mkG st g/\∃ na2 nb2 out mg ac bc,c=(none,na2,nb2,out,mg,ac,bc)/\JH r a b out na2 nb2/\MS a b na nb<=MS a b na2 nb2) ?_ ?_ ⟨g,rfl,_,_,_,_,_,_,rfl,hJ,xwo⟩) ?_)
 rotate_left
 ·rintro c st2 ⟨g,rfl,na2,nb2,out,mg,ac,bc,rfl,hJ2,hc2⟩;exact ⟨g,rfl,.inl ⟨_,_,_,_,_,_,rfl,hJ2,hc2⟩⟩
 ·rintro ⟨c1,c⟩ st2 ⟨g,rfl,hc1⟩;rcases hc1 with ⟨na,nb,out,mg,ac,bc,e,hJ,hc⟩|⟨res,e,hm⟩
  ·cases e;dsimp only;refine waC (wpS_modify ?_);exact waD ⟨mg+1,rfl,_,_,_,_,rfl,hJ,xwo⟩
  ·dsimp only at e ⊢;subst e;exact waD ⟨g,rfl,res,rfl,hm⟩
 rintro t c st2 i8 ht ⟨g,rfl,na,nb,out,mg,ac,bc,rfl,⟨m,j1,j2,j3,j4⟩,hc2⟩;clear i8 ht hc ht9 hc9 i9 w1 w2;dsimp only;obtain ⟨y,y1,y2,y3,yP⟩:=bA nb xwo j2;refine zai (λ_=>?_) (λ_=>?_)
 all_goals
  refine waC (wpS_modify (waC (zaw y3 (waC (zcg C hk yP hPa ha xwo xwo λp p1 p2 p3=>?_)))));dsimp only;have p2':∀ j z,j<p->a.toList[j]? = some z->r z<=r y:=λj z hj hz=>by have:=p2 j z hj (by rw[Nat.zero_add];exact hz);unfold bey at this;simp only[Bool.false_eq_true,if_false,Bool.not_eq_true',decide_eq_false_iff_not] at this;omega
  have p3':∀ j z,p<=j->j<na->a.toList[j]? = some z->r y<r z:=λj z hj hj' hz=>by have:=p3 j z hj hj' (by rw[Nat.zero_add];exact hz);unfold bey at this;simp only[Bool.false_eq_true,if_false,Bool.not_eq_false',war] at this;exact this
  have nA:∀ z,a.toList.reverse[a.size-p]? = some z->ng r y<=ng r z:=λz hz=>by
   by_cases p0:p=0
   ·subst p0;rw[Nat.sub_zero,List.getElem?_eq_none xws] at hz;cases hz
   rw[List.getElem?_reverse (by rw[Array.length_toList];omega),Array.length_toList,show a.size-1-(a.size-p)=p-1 by omega] at hz;have:=p2' (p-1) z xwo hz;show-r y<=- r z;omega
  refine zai (λck=>?_) (λck=>?_)
  ·have mA:Mg (ng r) b.toList.reverse a.toList.reverse (out++(a.extract p na).reverse).toList (b.size-nb) (a.size-p):=by rw[Array.toList_append,zg7 a xwo xwo,show a.size-p=a.size-na+(na-p) by omega];refine m.bs sA sB (na-p) λi z hi hz v hv=>?_;rw[y1] at hv;cases hv;rw[List.getElem?_reverse (by rw[Array.length_toList];omega),Array.length_toList] at hz;have:=p3' _ z xwo xwo hz;show-r z<=- r y;omega
   refine zai (λc3=>?_) (λc3=>?_)
   ·exact waD ⟨_,rfl,.inr ⟨_,rfl,fin mA xwo xwo (.inl (beq_iff_eq.mp c3))⟩⟩
   rw[beq_iff_eq] at c3;have M2:=mA.a1 sA sB y1 nA;rw[<- Array.toList_push] at M2;have M3:Mg (ng r) b.toList.reverse a.toList.reverse ((out++(a.extract p na).reverse).push y).toList (b.size-(nb-1)) (a.size-p):=by rw[show b.size-(nb-1)=b.size-nb+1 by omega];exact M2
   refine waC (zaw y3 ?_);refine zai (λc5=>?_) (λc5=>?_)
   ·exact waD ⟨_,rfl,.inr ⟨_,rfl,finB M3 xwo (beq_iff_eq.mp c5)⟩⟩
   rw[beq_iff_eq] at c5;obtain ⟨x,x1,x2,x3,xP⟩:=aA (p) xwo xwo;refine waC (zaw x3 (waC (zcg C hk xP hPb hb xwo xwo λq q1 q2 q3=>?_)));dsimp only;have q2':∀ j z,j<q->b.toList[j]? = some z->r z<r x:=λj z hj hz=>by have:=q2 j z hj (by rw[Nat.zero_add];exact hz);unfold bey at this;simp only[if_true,war] at this;exact this
   have q3':∀ j z,q<=j->j<nb-1->b.toList[j]? = some z->r x<=r z:=λj z hj hj' hz=>by have:=q3 j z hj hj' (by rw[Nat.zero_add];exact hz);unfold bey at this;simp only[if_true,decide_eq_false_iff_not] at this;omega
   have nB:∀ z,b.toList.reverse[b.size-q]? = some z->ng r x<=ng r z:=λz hz=>by
    by_cases q0:q=0
    ·subst q0;rw[Nat.sub_zero,List.getElem?_eq_none xws] at hz;cases hz
    rw[List.getElem?_reverse (by rw[Array.length_toList];omega),Array.length_toList,show b.size-1-(b.size-q)=q-1 by omega] at hz;have:=q2' (q-1) z xwo hz;show-r x<=- r z;omega
   refine zai (λc9=>?_) (λc9=>?_)
   ·have M6:Mg (ng r) b.toList.reverse a.toList.reverse (((out++(a.extract p na).reverse).push y)++(b.extract q (nb-1)).reverse).toList (b.size-q) (a.size-p):=by rw[Array.toList_append,zg7 b xwo xwo,show b.size-q=b.size-(nb-1)+(nb-1-q) by omega];refine M3.as sA sB (nb-1-q) λi z hi hz v hv=>?_;rw[x1] at hv;cases hv;rw[List.getElem?_reverse (by rw[Array.length_toList];omega),Array.length_toList] at hz;have:=q3' _ z xwo xwo hz;show-r z<=- r x;omega
    refine zai (λc6=>?_) (λc6=>?_)
    ·exact waD ⟨_,rfl,.inr ⟨_,rfl,finB M6 xwo (beq_iff_eq.mp c6)⟩⟩
    rw[beq_iff_eq] at c6;refine zai (λc6'=>?_) (λc6'=>?_)
    ·exact waD ⟨_,rfl,.inr ⟨_,rfl,fin M6 xwo xwo (.inr (beq_iff_eq.mp c6'))⟩⟩
    rw[beq_iff_eq] at c6';have M4:=M6.b1 sA sB x1 nB;rw[<- Array.toList_push] at M4;refine waC (zaw x3 ?_);refine zai (λc7=>?_) (λc7=>?_)
    ·exact waD ⟨_,rfl,.inr ⟨_,rfl,fin (na:=p-1) (nb:=q) (by rw[show a.size-(p-1)=a.size-p+1 by omega];exact M4) xwo xwo (.inl (beq_iff_eq.mp c7))⟩⟩
    rw[beq_iff_eq] at c7;have M5:Mg (ng r) b.toList.reverse a.toList.reverse ((((out++(a.extract p na).reverse).push y)++(b.extract q (nb-1)).reverse).push x).toList (b.size-q) (a.size-(p-1)):=by rw[show a.size-(p-1)=a.size-p+1 by omega];exact M4
    refine zai (λc8=>?_) (λc8=>?_)
    ·exact waD ⟨_,rfl,.inl ⟨_,_,_,_,_,_,rfl,⟨M5,xwo,xwo,xwo,xwo⟩,waN hc2 (msL xwo xwo)⟩⟩
    ·exact waD ⟨_,rfl,_,_,_,_,_,_,rfl,⟨M5,xwo,xwo,xwo,xwo⟩,waN hc2 (msL xwo xwo)⟩
   ·have eq:q=nb-1:=by omega
    subst eq;have M4:=M3.b1 sA sB x1 nB;rw[<- Array.toList_push] at M4;refine waC (zaw x3 ?_);refine zai (λc7=>?_) (λc7=>?_)
    ·exact waD ⟨_,rfl,.inr ⟨_,rfl,fin (na:=p-1) (nb:=(nb-1)) (by rw[show a.size-(p-1)=a.size-p+1 by omega];exact M4) xwo xwo (.inl (beq_iff_eq.mp c7))⟩⟩
    rw[beq_iff_eq] at c7;have M5:Mg (ng r) b.toList.reverse a.toList.reverse (((out++(a.extract p na).reverse).push y).push x).toList (b.size-(nb-1)) (a.size-(p-1)):=by rw[show a.size-(p-1)=a.size-p+1 by omega];exact M4
    refine zai (λc8=>?_) (λc8=>?_)
    ·exact waD ⟨_,rfl,.inl ⟨_,_,_,_,_,_,rfl,⟨M5,xwo,xwo,xwo,xwo⟩,waN hc2 (msL xwo xwo)⟩⟩
    ·exact waD ⟨_,rfl,_,_,_,_,_,_,rfl,⟨M5,xwo,xwo,xwo,xwo⟩,waN hc2 (msL xwo xwo)⟩
  ·have ep:p=na:=by omega
   subst ep;have M2:=m.a1 sA sB y1 nA;rw[<- Array.toList_push] at M2;have M3:Mg (ng r) b.toList.reverse a.toList.reverse (out.push y).toList (b.size-(nb-1)) (a.size-p):=by rw[show b.size-(nb-1)=b.size-nb+1 by omega];exact M2
   refine waC (zaw y3 ?_);refine zai (λc5=>?_) (λc5=>?_)
   ·exact waD ⟨_,rfl,.inr ⟨_,rfl,finB M3 xwo (beq_iff_eq.mp c5)⟩⟩
   rw[beq_iff_eq] at c5;obtain ⟨x,x1,x2,x3,xP⟩:=aA (p) xwo xwo;refine waC (zaw x3 (waC (zcg C hk xP hPb hb xwo xwo λq q1 q2 q3=>?_)));dsimp only;have q2':∀ j z,j<q->b.toList[j]? = some z->r z<r x:=λj z hj hz=>by have:=q2 j z hj (by rw[Nat.zero_add];exact hz);unfold bey at this;simp only[if_true,war] at this;exact this
   have q3':∀ j z,q<=j->j<nb-1->b.toList[j]? = some z->r x<=r z:=λj z hj hj' hz=>by have:=q3 j z hj hj' (by rw[Nat.zero_add];exact hz);unfold bey at this;simp only[if_true,decide_eq_false_iff_not] at this;omega
   have nB:∀ z,b.toList.reverse[b.size-q]? = some z->ng r x<=ng r z:=λz hz=>by
    by_cases q0:q=0
    ·subst q0;rw[Nat.sub_zero,List.getElem?_eq_none xws] at hz;cases hz
    rw[List.getElem?_reverse (by rw[Array.length_toList];omega),Array.length_toList,show b.size-1-(b.size-q)=q-1 by omega] at hz;have:=q2' (q-1) z xwo hz;show-r x<=- r z;omega
   refine zai (λc9=>?_) (λc9=>?_)
   ·have M6:Mg (ng r) b.toList.reverse a.toList.reverse ((out.push y)++(b.extract q (nb-1)).reverse).toList (b.size-q) (a.size-p):=by rw[Array.toList_append,zg7 b xwo xwo,show b.size-q=b.size-(nb-1)+(nb-1-q) by omega];refine M3.as sA sB (nb-1-q) λi z hi hz v hv=>?_;rw[x1] at hv;cases hv;rw[List.getElem?_reverse (by rw[Array.length_toList];omega),Array.length_toList] at hz;have:=q3' _ z xwo xwo hz;show-r z<=- r x;omega
    refine zai (λc6=>?_) (λc6=>?_)
    ·exact waD ⟨_,rfl,.inr ⟨_,rfl,finB M6 xwo (beq_iff_eq.mp c6)⟩⟩
    rw[beq_iff_eq] at c6;refine zai (λc6'=>?_) (λc6'=>?_)
    ·exact waD ⟨_,rfl,.inr ⟨_,rfl,fin M6 xwo xwo (.inr (beq_iff_eq.mp c6'))⟩⟩
    rw[beq_iff_eq] at c6';have M4:=M6.b1 sA sB x1 nB;rw[<- Array.toList_push] at M4;refine waC (zaw x3 ?_);refine zai (λc7=>?_) (λc7=>?_)
    ·exact waD ⟨_,rfl,.inr ⟨_,rfl,fin (na:=p-1) (nb:=q) (by rw[show a.size-(p-1)=a.size-p+1 by omega];exact M4) xwo xwo (.inl (beq_iff_eq.mp c7))⟩⟩
    rw[beq_iff_eq] at c7;have M5:Mg (ng r) b.toList.reverse a.toList.reverse (((out.push y)++(b.extract q (nb-1)).reverse).push x).toList (b.size-q) (a.size-(p-1)):=by rw[show a.size-(p-1)=a.size-p+1 by omega];exact M4
    refine zai (λc8=>?_) (λc8=>?_)
    ·exact waD ⟨_,rfl,.inl ⟨_,_,_,_,_,_,rfl,⟨M5,xwo,xwo,xwo,xwo⟩,waN hc2 (msL xwo xwo)⟩⟩
    ·exact waD ⟨_,rfl,_,_,_,_,_,_,rfl,⟨M5,xwo,xwo,xwo,xwo⟩,waN hc2 (msL xwo xwo)⟩
   ·have eq:q=nb-1:=by omega
    subst eq;have M4:=M3.b1 sA sB x1 nB;rw[<- Array.toList_push] at M4;refine waC (zaw x3 ?_);refine zai (λc7=>?_) (λc7=>?_)
    ·exact waD ⟨_,rfl,.inr ⟨_,rfl,fin (na:=p-1) (nb:=(nb-1)) (by rw[show a.size-(p-1)=a.size-p+1 by omega];exact M4) xwo xwo (.inl (beq_iff_eq.mp c7))⟩⟩
    rw[beq_iff_eq] at c7;have M5:Mg (ng r) b.toList.reverse a.toList.reverse ((out.push y).push x).toList (b.size-(nb-1)) (a.size-(p-1)):=by rw[show a.size-(p-1)=a.size-p+1 by omega];exact M4
    refine zai (λc8=>?_) (λc8=>?_)
    ·exact waD ⟨_,rfl,.inl ⟨_,_,_,_,_,_,rfl,⟨M5,xwo,xwo,xwo,xwo⟩,waN hc2 (msL xwo xwo)⟩⟩
    ·exact waD ⟨_,rfl,_,_,_,_,_,_,rfl,⟨M5,xwo,xwo,xwo,xwo⟩,waN hc2 (msL xwo xwo)⟩
end
def zeQ:Nat->StateT SortSt Sem Bool:=sortPriv% PySem.Builtin.mergeAt
theorem zbt{l:List Keyed}{i n j:Nat}(hj:j<n):((l.drop i).take n)[j]? = l[i+j]? := by rw[List.getElem?_take,if_pos hj,List.getElem?_drop]
theorem znm(p0:Nat):∀(m:List Keyed)(k:Nat)(arr:Array Keyed),p0+k+m.length<=arr.size->((m.zipIdx k).foldl (λa x=>a.setIfInBounds (p0+x.2) x.1) arr).toList=arr.toList.take (p0+k)++m++arr.toList.drop (p0+k+m.length)
 |[],k,arr,_=>by simp
 |x::m,k,arr,h=>by
  rw[List.zipIdx_cons,List.foldl_cons];rw[List.length_cons] at h;have ih:=znm p0 m (k+1) (arr.setIfInBounds (p0+k) x) (by rw[Array.size_setIfInBounds];lia);dsimp only at ih ⊢;rw[ih,Array.toList_setIfInBounds];have hl:p0+k<arr.toList.length:=by rw[Array.length_toList];lia
  rw[List.set_eq_take_append_cons_drop,if_pos hl,List.length_cons];have e1:(arr.toList.take (p0+k)++x::arr.toList.drop (p0+k+1)).take (p0+(k+1))=arr.toList.take (p0+k)++[x]:=by rw[List.take_append,List.length_take,show p0+(k+1)-min (p0+k) arr.toList.length=1 by lia];rw[List.take_of_length_le (by rw[List.length_take];lia)];rfl
  have e2:(arr.toList.take (p0+k)++x::arr.toList.drop (p0+k+1)).drop (p0+(k+1)+m.length)=arr.toList.drop (p0+k+(m.length+1)):=by rw[List.drop_append,List.length_take,List.drop_eq_nil_iff.mpr (by rw[List.length_take];lia),List.nil_append,show p0+(k+1)+m.length-min (p0+k) arr.toList.length=m.length+1 by lia,List.drop_succ_cons,List.drop_drop];congr 1;lia
  rw[e1,e2];simp
section
variable{r:Keyed->Int}{RA RB:List Keyed}{k q:Nat}{y x:Keyed}
theorem glue(sA:Srt r RA)(sB:Srt r RB)(hy:RB[0]? = some y)(hx:RA[RA.length-1]? = some x)(h1:∀ j z,j<k->RA[j]? = some z->r z<=r y)(h3:∀ j z,q<=j->RB[j]? = some z->r x<=r z){m:List Keyed}(hm:Mgd r (RA.drop k) (RB.take q) m) :
  (RA.take k++(m++RB.drop q)).Perm (RA++RB)/\Srt r (RA.take k++(m++RB.drop q)):=by
 have inm:∀ z∈m,z∈RA.drop k\/z∈RB.take q:=λz hz=>wax.mp (hm.1.mem_iff.mp hz);have ly:∀ z∈RB,r y<=r z:=λz hz=>by obtain ⟨j,e⟩:=List.getElem?_of_mem hz;exact sB.at (Nat.zero_le _) hy e
 have lx:∀ z∈RA,r z<=r x:=λz hz=>by obtain ⟨j,e⟩:=List.getElem?_of_mem hz;exact sA.at (by have:=(wam.mp e).1;lia) e hx
 constructor
 ·refine (List.Perm.append_left _ (hm.1.append_right _)).trans ?_;rw[List.append_assoc,List.take_append_drop,<- List.append_assoc,List.take_append_drop]
 ·refine List.pairwise_append.mpr ⟨sA.take k,List.pairwise_append.mpr ⟨hm.2,sB.drop q,λz hz v hv=>?_⟩,λz hz v hv=>?_⟩
  ·obtain ⟨j',g1,g2⟩:=zcn hv;rcases inm z hz with w|w
   ·exact Int.le_trans (lx z (List.mem_of_mem_drop w)) (h3 j' v g1 g2)
   ·obtain ⟨j,g3,g4⟩:=zet w;exact sB.at xwl g4 g2
  ·obtain ⟨j,g1,g2⟩:=zet hz;have zy:=h1 j z g1 g2;have vb:v∈RB->r z<=r v:=λw=>Int.le_trans zy (ly v w);rcases wax.mp hv with w|w
   ·rcases inm v w with w|w
    ·obtain ⟨j',g3,g4⟩:=zcn w;exact sA.at xwl g2 g4
    ·exact vb (List.mem_of_mem_take w)
   ·exact vb (List.mem_of_mem_drop w)
end
section
variable{prog:Program}{w:World}{A:Around}{E:Value->Shared->Prop}{s:Shared}
theorem zt6{st st':SortSt}{Q:PUnit->SortSt->Prop}(h:Q ⟨⟩ st'):wpS (model prog w) A E s (set st':StateT SortSt Sem PUnit) Q st:=by unfold wpS;rw[StateT.run_set];exact wad ⟨rfl,h⟩
theorem zfH{kd:SortKind}{P:Keyed->Prop}{r:Keyed->Int}(C:Cp prog w A s kd P r){left:Bool}{key:Keyed}{a:Array Keyed}{i n hint:Nat}{st:SortSt}{Q:Option Nat->SortSt->Prop}(hk:kindOf st=kd)(hP:P key)(hPa:∀ x∈a.toList,P x)(ha:Srt r ((a.toList.drop i).take n))(hn:i+n<=a.size)(hh:hint<n)
  (h:∀ k,k<=n->(∀ j x,j<k->a.toList[i+j]? = some x->bey r left key x=true)->(∀ j x,k<=j->j<n->a.toList[i+j]? = some x->bey r left key x=false)->Q (some k) st) :
  wpS (model prog w) A E s (ziA left key a i n hint) Q st:=by
 have at_:∀ j,j<n->∃ x,a.toList[i+j]? = some x/\a[i+j]? = some x:=λj hj=>by
  have hl:i+j<a.size:=by lia
  exact ⟨a[i+j],by rw[Array.getElem?_toList];exact getElem?_pos a _ hl,getElem?_pos a _ hl⟩
 refine zh0 C hk hP (bb:=λj=>match a.toList[i+j]? with|some x=>bey r left key x|none=>false) (λj hj=>?_) (λj j' hjj hj' hb=>?_) hh (λk hk h1 h2=>h k hk (λj x hj hx=>?_) (λj x hkj hj hx=>?_))
 ·obtain ⟨x,e1,e2⟩:=at_ j hj;exact ⟨x,e2,hPa x (waH e1),by rw[e1]⟩
 ·obtain ⟨x,e1,_⟩:=at_ j xwl;obtain ⟨y,e2,_⟩:=at_ j' hj';have:=ha.at hjj (by rw[zbt xwl];exact e1) (by rw[zbt hj'];exact e2)
  try dsimp only at hb ⊢
  rw[e2] at hb;rw[e1];dsimp only at hb ⊢;unfold bey at hb ⊢;cases left with
  |true =>
   simp only[if_true,war] at hb ⊢;lia
  |false =>
   simp only[Bool.false_eq_true,if_false,Bool.not_eq_true',decide_eq_false_iff_not] at hb ⊢;lia
 ·have:=h1 j hj
  try dsimp only at this
  rw[hx] at this;exact this
 ·have:=h2 j hkj hj
  try dsimp only at this
  rw[hx] at this;exact this
theorem zkM{kd:SortKind}{P:Keyed->Prop}{r:Keyed->Int}(C:Cp prog w A s kd P r){i sa na sb nb pw p2:Nat}{st:SortSt}{Q:Bool->SortSt->Prop}(hk:kindOf st=kd)(hf:failedOf st=none)(hP:∀ x∈(arrOf st).toList,P x)(e1:(pendingOf st)[i]? = some (sa,na,pw))(e2:(pendingOf st)[i+1]? = some (sb,nb,p2))(hsb:sb=sa+na)(hna:0<na)(hnb:0<nb)(hsz:sb+nb<=(arrOf st).size)
  (sA:Srt r (((arrOf st).toList.drop sa).take na)) (sB:Srt r (((arrOf st).toList.drop sb).take nb))
  (h:∀(arr':Array Keyed)(m:List Keyed)(g:Nat),arr'.toList=(arrOf st).toList.take sa++m++(arrOf st).toList.drop (sb+nb)->m.Perm (((arrOf st).toList.drop sa).take (na+nb))->Srt r m->Q true (SortSt.mk' (kindOf st) arr' (((pendingOf st).setIfInBounds i (sa,na+nb,pw)).eraseIdxIfInBounds (i+1)) g none)) :
  wpS (model prog w) A E s (zeQ i) Q st:=by
 have at_:∀ j,j<(arrOf st).size->∃ x,(arrOf st).toList[j]? = some x/\(arrOf st)[j]? = some x/\P x:=λj hj=>by
  have e:(arrOf st).toList[j]? = some ((arrOf st)[j]'hj):=by rw[Array.getElem?_toList];exact getElem?_pos (arrOf st) j hj
  exact ⟨_,e,getElem?_pos (arrOf st) j hj,hP _ (waH e)⟩
 unfold zeQ;refine waC (wpS_get ?_);have e1':(sortPriv% PySem.Builtin.SortState.pending) st=pendingOf st:=rfl;rw[e1',e1,e2];dsimp only;refine waC (zt6 ?_);obtain ⟨y,y1,y2,yP⟩:=at_ sb xwl;refine waC (zaw y2 (waC (zfH (a:=arrOf st) C hk yP hP sA xwl xwl λk k1 k2 k3=>?_)));dsimp only;have cut:((arrOf st).toList.drop sa).take (na+nb)=((arrOf st).toList.drop sa).take na++((arrOf st).toList.drop sb).take nb:=by rw[List.take_add,List.drop_drop,hsb]
 have whole:(arrOf st).toList=(arrOf st).toList.take sa++((arrOf st).toList.drop sa).take (na+nb)++(arrOf st).toList.drop (sb+nb):=by rw[List.append_assoc,show sb+nb=sa+(na+nb) by lia,<- List.drop_drop,List.take_append_drop,List.take_append_drop]
 have lenA:(((arrOf st).toList.drop sa).take na).length=na:=by rw[List.length_take,List.length_drop,Array.length_toList];lia
 have lenB:(((arrOf st).toList.drop sb).take nb).length=nb:=by rw[List.length_take,List.length_drop,Array.length_toList];lia
 have hy0:(((arrOf st).toList.drop sb).take nb)[0]? = some y:=by rw[zbt hnb];exact y1
 have k2':∀ j z,j<k->(((arrOf st).toList.drop sa).take na)[j]? = some z->r z<=r y:=λj z hj hz=>by rw[zbt xwl] at hz;have:=k2 j z hj hz;unfold bey at this;simp only[Bool.false_eq_true,if_false,Bool.not_eq_true',decide_eq_false_iff_not] at this;lia
 have k3':∀ j z,k<=j->j<na->(arrOf st).toList[sa+j]? = some z->r y<r z:=λj z hj hj' hz=>by have:=k3 j z hj hj' hz;unfold bey at this;simp only[Bool.false_eq_true,if_false,Bool.not_eq_false',war] at this;exact this
 obtain ⟨x,x1,x2,xP⟩:=at_ (sa+na-1) xwl;have hx0:(((arrOf st).toList.drop sa).take na)[(((arrOf st).toList.drop sa).take na).length-1]? = some x:=by rw[lenA,zbt xwl,show sa+(na-1)=sa+na-1 by lia];exact x1
 have same:∀ q,(∀ j z,q<=j->(((arrOf st).toList.drop sb).take nb)[j]? = some z->r x<=r z)->(k=na\/q=0)->q<=nb->Q true (SortSt.mk' (kindOf st) (arrOf st) (((pendingOf st).setIfInBounds i (sa,na+nb,pw)).eraseIdxIfInBounds (i+1)) (gallopOf st) (failedOf st)):=λq hq e hqn=>by
  have hm:Mgd r ((((arrOf st).toList.drop sa).take na).drop k) ((((arrOf st).toList.drop sb).take nb).take q) ((((arrOf st).toList.drop sa).take na).drop k++(((arrOf st).toList.drop sb).take nb).take q):=by
   refine ⟨.refl _,?_⟩;rcases e with e|e
   ·rw[List.drop_eq_nil_iff.mpr xwl,List.nil_append];exact sB.take q
   ·subst e;rw[List.take_zero,List.append_nil];exact sA.drop k
  have g:=glue sA sB hy0 hx0 k2' hq hm;rw[List.append_assoc,List.take_append_drop,<- List.append_assoc,List.take_append_drop,<- cut] at g;have:=h (arrOf st) _ (gallopOf st) whole (.refl _) g.2;rw[<- hf] at this;exact this
 refine zai (λc1=>?_) (λc1=>?_)
 ·have:=beq_iff_eq.mp c1;exact waD (same nb (λj z hj hz=>absurd (wam.mp hz).1 xwl) (.inl xwl) (wal _))
 rw[beq_iff_eq] at c1;rw[show sa+k+(na-k)-1=sa+na-1 by lia];refine waC (zaw x2 (waC (zfH (a:=arrOf st) C hk xP hP sB xwl xwl λq q1 q2 q3=>?_)));dsimp only;have q2':∀ j z,j<q->(arrOf st).toList[sb+j]? = some z->r z<r x:=λj z hj hz=>by have:=q2 j z hj hz;unfold bey at this;simp only[if_true,war] at this;exact this
 have q3':∀ j z,q<=j->(((arrOf st).toList.drop sb).take nb)[j]? = some z->r x<=r z:=λj z hj hz=>by have hjl:=(wam.mp hz).1;rw[zbt xwl] at hz;have:=q3 j z hj xwl hz;unfold bey at this;simp only[if_true,decide_eq_false_iff_not] at this;lia
 refine zai (λc2=>?_) (λc2=>?_)
 ·exact waD (same q q3' (.inr (beq_iff_eq.mp c2)) q1)
 rw[beq_iff_eq] at c2;have xl:((arrOf st).extract (sa+k) sb).toList=(((arrOf st).toList.drop sa).take na).drop k:=by rw[Array.toList_extract,List.extract_eq_take_drop,List.drop_take,List.drop_drop,show sb-(sa+k)=na-k by lia]
 have yl:((arrOf st).extract sb (sb+q)).toList=(((arrOf st).toList.drop sb).take nb).take q:=by rw[zfS,List.take_take,show min q nb=q by lia]
 have xs:((arrOf st).extract (sa+k) sb).size=na-k:=by rw[<- Array.length_toList,xl,List.length_drop,lenA]
 have ys:((arrOf st).extract sb (sb+q)).size=q:=by rw[<- Array.length_toList,yl,List.length_take,lenB];lia
 have px:∀ z∈((arrOf st).extract (sa+k) sb).toList,P z:=λz hz=>hP z (by rw[xl] at hz;exact List.mem_of_mem_drop (List.mem_of_mem_take (List.mem_of_mem_drop hz)));have py:∀ z∈((arrOf st).extract sb (sb+q)).toList,P z:=λz hz=>hP z (by rw[yl] at hz;exact List.mem_of_mem_drop (List.mem_of_mem_take (List.mem_of_mem_take hz)));have ax:∀ j z,((arrOf st).extract (sa+k) sb).toList[j]? = some z->r y<r z/\j<na-k:=λj z hz=>by have hl:=(wam.mp hz).1;rw[Array.length_toList,xs] at hl;rw[xl,List.getElem?_drop,zbt xwl] at hz;exact ⟨k3' (k+j) z xwl xwl hz,hl⟩
 have ay:∀ j z,((arrOf st).extract sb (sb+q)).toList[j]? = some z->r z<r x/\(j=0->z=y):=λj z hz=>by have hl:=(wam.mp hz).1;rw[Array.length_toList,ys] at hl;rw[yl,List.getElem?_take,if_pos hl,zbt xwl] at hz;refine ⟨q2' j z hl hz,λe=>?_⟩;subst e;rw[Nat.add_zero,y1] at hz;exact (waA hz).symm
 have lastx:∀ z,((arrOf st).extract (sa+k) sb).toList[((arrOf st).extract (sa+k) sb).size-1]? = some z->z=x:=λz hz=>by rw[xl,xs,List.getElem?_drop,zbt xwl,show sa+(k+(na-k-1))=sa+na-1 by lia,x1] at hz;exact (waA hz).symm
 have sX:Srt r ((arrOf st).extract (sa+k) sb).toList:=by rw[xl];exact sA.drop k
 have sY:Srt r ((arrOf st).extract sb (sb+q)).toList:=by rw[yl];exact sB.take q
 have back:∀(out:Array Keyed)(g:Nat),Mgd r ((arrOf st).extract (sa+k) sb).toList ((arrOf st).extract sb (sb+q)).toList out.toList->Q true (SortSt.mk' (kindOf st) (out.toList.zipIdx.foldl (λa x=>a.setIfInBounds (sa+k+x.2) x.1) (arrOf st)) (((pendingOf st).setIfInBounds i (sa,na+nb,pw)).eraseIdxIfInBounds (i+1)) g none):=λout g hm=>by
  have ol:out.toList.length=na-k+q:=by rw[hm.1.length_eq,List.length_append,Array.length_toList,Array.length_toList,xs,ys]
  rw[xl,yl] at hm;have gl:=glue sA sB hy0 hx0 k2' q3' hm;rw[<- cut] at gl;refine h _ _ g ?_ gl.1 gl.2;rw[znm (sa+k) out.toList 0 (arrOf st) xwl,Nat.add_zero,ol];have t1:(arrOf st).toList.take (sa+k)=(arrOf st).toList.take sa++(((arrOf st).toList.drop sa).take na).take k:=by rw[List.take_take,show min k na=k by lia,List.take_add]
  have t2:(arrOf st).toList.drop (sa+k+(na-k+q))=(((arrOf st).toList.drop sb).take nb).drop q++(arrOf st).toList.drop (sb+nb):=by rw[List.drop_take,List.drop_drop,show sa+k+(na-k+q)=sb+q by lia,show sb+nb=sb+q+(nb-q) by lia,<- List.drop_drop (i:=nb-q) (j:=sb+q),List.take_append_drop]
  rw[t1,t2];simp[List.append_assoc]
 refine zai (λc3=>?_) (λc3=>?_)
 ·refine waC (zkZ C hk px py sX sY (by rw[xs];lia) (by rw[ys];lia) (λx' y' hx' hy'=>?_) (λx' hx' y' hy'=>?_) (λout g hm=>?_))
  ·rw[(ay 0 y' hy').2 rfl];have:=(ax 0 x' hx').1;lia
  ·rw[lastx x' hx'];obtain ⟨j,hj⟩:=List.getElem?_of_mem hy';have:=(ay j y' hj).1;lia
  ·refine waC (wpS_modify (waC (wpS_get (waD ?_))));have:=back out g hm;rw[show (none:Option Value)=failedOf st from hf.symm] at this;have e3:((failedOf st).isNone)=true:=by rw[hf];rfl
   show Q ((failedOf st).isNone) _;rw[e3];exact this
 ·refine waC (zlj C hk px py sX sY (by rw[xs];lia) (by rw[ys];lia) (λy' hy' x' hx'=>?_) (λx' y' hx' hy'=>?_) (λout g hm=>?_))
  ·rw[(ay 0 y' hy').2 rfl];obtain ⟨j,hj⟩:=List.getElem?_of_mem hx';have:=(ax j x' hj).1;lia
  ·rw[lastx x' hx'];have:=(ay _ y' hy').1;lia
  ·refine waC (wpS_modify (waC (wpS_get (waD ?_))));have:=back out g hm;rw[show (none:Option Value)=failedOf st from hf.symm] at this;have e3:((failedOf st).isNone)=true:=by rw[hf];rfl
   show Q ((failedOf st).isNone) _;rw[e3];exact this
end
def rk(r:Keyed->Int)(a:Array Keyed)(i:Nat):Int:=match a[i]? with
 |some x=>r x
 |none=>0
theorem zdQ{r:Keyed->Int}{a b:Array Keyed}{i j:Nat}(h:a[i]? = b[j]?):rk r a i=rk r b j:=by unfold rk;rw[h]
def SIn(r:Keyed->Int)(a:Array Keyed)(lo n:Nat):Prop:=∀ i j,lo<=i->i<=j->j<lo+n->rk r a i<=rk r a j
section
variable{prog:Program}{w:World}{A:Around}{E:Value->Shared->Prop}{s:Shared}
theorem zpc{kd:SortKind}{P:Keyed->Prop}{r:Keyed->Int}(C:Cp prog w A s kd P r){st:SortSt}{i j:Nat}{Q:Option Bool->SortSt->Prop}(hk:kindOf st=kd)(hP:∀ x∈(arrOf st).toList,P x)(hi:i<(arrOf st).size)(hj:j<(arrOf st).size)(q:Q (some (decide (rk r (arrOf st) i<rk r (arrOf st) j))) st):wpS (model prog w) A E s (ltAt' i j) Q st:=by
 have at_:∀ j,j<(arrOf st).size->∃ x,(arrOf st)[j]? = some x/\P x:=λj hj=>by
  have e:(arrOf st).toList[j]? = some ((arrOf st)[j]'hj):=by rw[Array.getElem?_toList];exact getElem?_pos (arrOf st) j hj
  exact ⟨_,getElem?_pos (arrOf st) j hj,hP _ (waH e)⟩
 obtain ⟨x,x1,xP⟩:=at_ i hi;obtain ⟨y,y1,yP⟩:=at_ j hj;unfold rk at q;rw[x1,y1] at q;unfold ltAt';refine waC (wpS_get ?_);exact waC (zaw x1 (waC (zaw y1 (C E x y st Q xP yP hk q))))
theorem zgI{kd:SortKind}{P:Keyed->Prop}{r:Keyed->Int}(C:Cp prog w A s kd P r){st:SortSt}{lo n ok:Nat}{Q:Bool->SortSt->Prop}(hk:kindOf st=kd)(hP:∀ x∈(arrOf st).toList,P x)(hn:lo+n<=(arrOf st).size)(hok:ok<=n)(h1:1<=n)(hs:SIn r (arrOf st) lo ok)
  (h:∀ a':Array Keyed,a'.Perm (arrOf st)->(∀ i,i<lo\/lo+n<=i->a'[i]? = (arrOf st)[i]?)->SIn r a' lo n->Q true (setArr st a')):wpS (model prog w) A E s (binarySort' lo n ok) Q st:=by
 unfold binarySort';refine waC (wpS_mono (Q:=λc st'=>∃ a':Array Keyed,c.1=none/\st'=setArr st a'/\a'.Perm (arrOf st)/\(∀ i,i<lo\/lo+n<=i->a'[i]? = (arrOf st)[i]?)/\SIn r a' lo n) (wpS_forRange (I:=λk c st'=>∃ a':Array Keyed,c=(none,())/\st'=setArr st a'/\a'.Perm (arrOf st)/\(∀ i,i<lo\/lo+n<=i->a'[i]? = (arrOf st)[i]?)/\SIn r a' lo k) ?_ ?_ ?_) ?_)
 ·rintro k c st' hk1 hkn ⟨a',rfl,rfl,pm,out,so⟩;have sz:a'.size=(arrOf st).size:=pm.size_eq;have hP':∀ x∈a'.toList,P x:=λx hx=>hP x ((Array.perm_iff_toList_perm.mp pm).mem_iff.mp hx)
  try dsimp only
  refine waC (wpS_mono (Q:=λc st'=>st'=setArr st a'/\∃ l rr,c=(none,l,rr)/\l<=k/\(∀ i,i<l->rk r a' (lo+i)<=rk r a' (lo+k))/\∀ i,l<=i->i<k->rk r a' (lo+k)<rk r a' (lo+i)) (wpS_forRange (I:=λt c st'=>st'=setArr st a'/\∃ l rr,c=(none,l,rr)/\l<=rr/\rr<=k/\rr-l+t<=k/\(∀ i,i<l->rk r a' (lo+i)<=rk r a' (lo+k))/\∀ i,rr<=i->i<k->rk r a' (lo+k)<rk r a' (lo+i)) ?_ ?_ ⟨rfl,0,k,rfl,xwl,xwl,xwl,λi hi=>by lia,λi hi hi'=>by lia⟩) ?_)
  ·rintro t c st2 _ ht ⟨rfl,l,rr,rfl,g1,g2,g3,g4,g5⟩;dsimp only;refine zai (λc1=>?_) (λc1=>?_)
   ·exact waD ⟨rfl,l,rr,rfl,xwl,g4,λi hi hi'=>g5 i xwl hi'⟩
   ·refine waC (zpc C (st:=setArr st a') hk hP' (show lo+k<a'.size by lia) (show lo+(l+rr) / 2<a'.size by lia) ?_);dsimp only;have ea:arrOf (setArr st a')=a':=rfl;rw[ea];by_cases hlt:rk r a' (lo+k)<rk r a' (lo+(l+rr) / 2)
    ·rw[if_pos (decide_eq_true hlt)];refine waD ⟨rfl,l,(l+rr) / 2,rfl,xwl,xwl,xwl,g4,λi hi hi'=>?_⟩;have:=so (lo+(l+rr) / 2) (lo+i) xwl xwl xwl;lia
    ·rw[if_neg (by simpa using hlt)];refine waD ⟨rfl,(l+rr) / 2+1,rr,rfl,xwl,xwl,xwl,λi hi=>?_,g5⟩;have:=so (lo+i) (lo+(l+rr) / 2) xwl xwl xwl;lia
  ·rintro c st2 ⟨rfl,l,rr,rfl,g1,g2,g3,g4,g5⟩;exact ⟨rfl,l,rr,rfl,xwl,g4,λi hi hi'=>g5 i xwl hi'⟩
  ·rintro c st2 ⟨rfl,l,rr,rfl,g1,g4,g5⟩;dsimp only;refine waC (wpS_modify ?_);have hb:∀ i,(bubble a' (lo+k) (lo+k-(lo+l)))[i]? = if i=lo+l then a'[lo+k]? else if lo+l<i/\i<=lo+k then a'[i-1]? else a'[i]? := λi=>by rw[getElem?_bubble xwl _ xwl,show lo+k-(lo+k-(lo+l))=lo+l by lia]
   refine waD ⟨bubble a' (lo+k) (lo+k-(lo+l)),rfl,rfl,(bubble_perm _ _ _).trans pm,λi hi=>?_,λi j hi hij hj=>?_⟩
   ·rw[hb i,if_neg xwl,if_neg xwl];exact out i hi
   ·have v:∀ i,lo<=i->i<lo+(k+1)->rk r (bubble a' (lo+k) (lo+k-(lo+l))) i=if i=lo+l then rk r a' (lo+k) else if lo+l<i then rk r a' (i-1) else rk r a' i:=λi h1 h2=>by
     unfold rk;rw[hb i];by_cases z1:i=lo+l
     ·rw[if_pos z1,if_pos z1]
     ·rw[if_neg z1,if_neg z1];by_cases z2:lo+l<i
      ·rw[if_pos ⟨z2,xwl⟩,if_pos z2]
      ·rw[if_neg xwl,if_neg z2]
    rw[v i hi xwl,v j xwl hj];by_cases z1:i=lo+l
    ·rw[if_pos z1];by_cases z2:j=lo+l
     ·rw[if_pos z2];exact Int.le_refl _
     ·rw[if_neg z2,if_pos xwl];have:=g5 (j-1-lo) xwl xwl;rw[show lo+(j-1-lo)=j-1 by lia] at this;lia
    ·rw[if_neg z1];by_cases z3:lo+l<i
     ·rw[if_pos z3,if_neg xwl,if_pos xwl];exact so (i-1) (j-1) xwl xwl xwl
     ·rw[if_neg z3];by_cases z2:j=lo+l
      ·rw[if_pos z2];have:=g4 (i-lo) xwl;rw[show lo+(i-lo)=i by lia] at this;exact this
      ·rw[if_neg z2];by_cases z4:lo+l<j
       ·rw[if_pos z4];exact so i (j-1) hi xwl xwl
       ·rw[if_neg z4];exact so i j hi hij xwl
 ·rintro c st' ⟨a',rfl,rfl,pm,out,so⟩;rw[show max (max ok 1) n=n by lia] at so;exact ⟨a',rfl,rfl,pm,out,so⟩
 ·refine ⟨arrOf st,rfl,rfl,.refl _,λi _=>rfl,λi j hi hij hj=>?_⟩;by_cases z:1<=ok
  ·exact hs i j hi hij xwl
  ·have:i=j:=by lia
   subst this;exact Int.le_refl _
 ·rintro ⟨c1,c⟩ st' ⟨a',e,rfl,pm,out,so⟩;dsimp only at e ⊢;subst e;exact waD (h a' pm out so)
end
def mir(a:Array Keyed)(i j:Nat):Array Keyed:=mirror a i j ((j-i) / 2)
structure Kp(b:Array Keyed)(lo hi:Nat)(a:Array Keyed):Prop where
 pm:a.Perm b
 out:∀ i,i<lo\/hi<=i->a[i]? = b[i]?
def DIn(r:Keyed->Int)(a:Array Keyed)(lo n:Nat):Prop:=∀ i j,lo<=i->i<=j->j<lo+n->rk r a j<=rk r a i
variable{r:Keyed->Int}
theorem Kp.size{b a:Array Keyed}{lo hi:Nat}(h:Kp b lo hi a):a.size=b.size:=h.pm.size_eq
theorem zj7{a:Array Keyed}{i j:Nat}(hj:j<=a.size)(k:Nat):(mir a i j)[k]? = if i<=k/\k<j then a[i+j-1-k]? else a[k]? := getElem?_mirror_all hj k
theorem Kp.mir{b a:Array Keyed}{lo hi i j:Nat}(h:Kp b lo hi a)(hi':lo<=i)(hj:j<=hi)(hs:hi<=b.size):Kp b lo hi (mir a i j) :=
 ⟨(mirror_perm _ _ _ _).trans h.pm,λk hk=>by rw[zj7 (by rw[h.size];lia),if_neg xwl];exact h.out k hk⟩
theorem zeN{a:Array Keyed}{i j:Nat}(hj:j<=a.size)(he:∀ k,i<=k->k<j->rk r a k=rk r a (j-1))(k:Nat):rk r (mir a i j) k=rk r a k:=by
 by_cases z:i<=k/\k<j
 ·rw[zdQ (r:=r) (a:=mir a i j) (b:=a) (i:=k) (j:=i+j-1-k) (by rw[zj7 hj,if_pos z]),he _ xwl xwl,he k z.1 z.2]
 ·exact zdQ (by rw[zj7 hj,if_neg z])
theorem zgi{a:Array Keyed}{lo n:Nat}(hj:lo+n<=a.size)(h:DIn r a lo n):SIn r (mir a lo (lo+n)) lo n:=λi j hi hij hj'=>by rw[zdQ (r:=r) (a:=mir a lo (lo+n)) (b:=a) (i:=i) (j:=lo+(lo+n)-1-i) (by rw[zj7 hj,if_pos xwl]),zdQ (r:=r) (a:=mir a lo (lo+n)) (b:=a) (i:=j) (j:=lo+(lo+n)-1-j) (by rw[zj7 hj,if_pos xwl])];exact h _ _ xwl xwl xwl
section
variable{prog:Program}{w:World}{A:Around}{E:Value->Shared->Prop}{s:Shared}
theorem zcZ{st:SortSt}{a:Array Keyed}{i j:Nat}{Q:Unit->SortSt->Prop}(h:Q () (setArr st (mir a i j))):wpS (model prog w) A E s (reverseSlice' i j) Q (setArr st a):=by rw[reverseSlice'_eq];exact wpS_modify h
theorem ziT{kd:SortKind}{P:Keyed->Prop}(C:Cp prog w A s kd P r){st:SortSt}{lo nrem:Nat}{b:Array Keyed}(eb:arrOf st=b){Q:Option Nat->SortSt->Prop}(hk:kindOf st=kd)(hP:∀ x∈b.toList,P x)(hn:lo+nrem<=b.size)(h1:1<=nrem)
  (h:∀(a:Array Keyed)(n:Nat),Kp b lo (lo+nrem) a->1<=n->n<=nrem->SIn r a lo n->Q (some n) (setArr st a)):wpS (model prog w) A E s (countRun' lo nrem) Q st:=by
 have lt:∀ a,Kp b lo (lo+nrem) a->∀ i j,i<lo+nrem->j<lo+nrem->∀{Q:Option Bool->SortSt->Prop},Q (some (decide (rk r a i<rk r a j))) (setArr st a)->wpS (model prog w) A E s (ltAt' i j) Q (setArr st a):=λa ka i j hi hj Q q =>
  zpc C (st:=setArr st a) hk (λx hx=>hP x ((Array.perm_iff_toList_perm.mp ka.pm).mem_iff.mp hx)) (show i<a.size by rw[ka.size];lia) (show j<a.size by rw[ka.size];lia) q
 have asc:∀ a,Kp b lo (lo+nrem) a->∀ n0,1<=n0->n0<=nrem->SIn r a lo n0->∀(f:Nat->Option (Option Nat)×Nat->StateT SortSt Sem (ForInStep (Option (Option Nat)×Nat))),(∀ x n,1<=n->n<nrem->∀ Q:ForInStep (Option (Option Nat)×Nat)->SortSt->Prop,Q (if rk r a (lo+n)<rk r a (lo+n-1) then .done (none,n) else .yield (none,n+1)) (setArr st a)->wpS (model prog w) A E s (f x (none,n)) Q (setArr st a)) ->
   ∀ Q:Option (Option Nat)×Nat->SortSt->Prop,(∀ n,n0<=n->n<=nrem->SIn r a lo n->(n=nrem\/rk r a (lo+n)<rk r a (lo+n-1))->Q (none,n) (setArr st a))->wpS (model prog w) A E s (forIn [n0:nrem] (none,n0) f) Q (setArr st a):=by
  intro a ka n0 h1 h2 so f hf Q hQ;refine wpS_forRange (I:=λx c st'=>st'=setArr st a/\c=(none,x)/\SIn r a lo x) ?_ ?_ ⟨rfl,rfl,so⟩
  ·rintro x c st' hx hxn ⟨rfl,rfl,so⟩;refine hf x x xwl hxn _ ?_;by_cases z:rk r a (lo+x)<rk r a (lo+x-1)
   ·rw[if_pos z];exact hQ x hx xwl so (.inr z)
   ·rw[if_neg z];refine ⟨rfl,rfl,λi j hi hij hj=>?_⟩;by_cases hjx:j<lo+x
    ·exact so i j hi hij hjx
    ·by_cases e:i=j
     ·subst e;exact Int.le_refl _
     ·have:=so i (lo+x-1) hi xwl xwl;have ej:j=lo+x:=by lia
      subst ej;lia
  ·rintro c st' ⟨rfl,rfl,so⟩;rw[show max n0 nrem=nrem by lia] at so ⊢;exact hQ nrem h2 (wal _) so (.inl rfl)
 have fstep:∀ a,Kp b lo (lo+nrem) a->∀ n,1<=n->n<nrem->∀ Q:ForInStep (Option (Option Nat)×Nat)->SortSt->Prop,Q (if rk r a (lo+n)<rk r a (lo+n-1) then .done (none,n) else .yield (none,n+1)) (setArr st a)->∀ g:Option Bool->StateT SortSt Sem (ForInStep (Option (Option Nat)×Nat)),(∀ c,g (some c)=if c=true then pure (.done (none,n)) else pure (.yield (none,n+1)))->wpS (model prog w) A E s (ltAt' (lo+n) (lo+n-1) >>= g) Q (setArr st a):=λa ka n h1 h2 Q q g hg=>by
  refine waC (lt a ka _ _ xwl xwl ?_);rw[hg];by_cases z:rk r a (lo+n)<rk r a (lo+n-1)
  ·rw[if_pos z] at q;rw[if_pos (decide_eq_true z)];exact waD q
  ·rw[if_neg z] at q;rw[if_neg (by simpa using z)];exact waD q
 have k0:Kp b lo (lo+nrem) (arrOf st):=by rw[eb];exact ⟨.refl _,λ_ _=>rfl⟩
 have s1:∀ a,SIn r a lo 1:=λa i j hi hij hj=>by
  have:i=j:=by lia
  subst this;exact Int.le_refl _
 unfold countRun';show wpS _ _ _ _ _ _ (setArr st (arrOf st));generalize arrOf st=a0 at k0 ⊢;refine waC (asc a0 k0 1 (wal _) h1 (s1 a0) _ (λx n h1 h2 Q q=>fstep a0 k0 n h1 h2 Q q _ λc=>rfl) _ λn g1 g2 so cs=>?_);dsimp only;refine zai (λc1=>?_) (λc1=>?_)
 ·exact waD (h a0 n k0 g1 g2 so)
 rw[beq_iff_eq] at c1;have cs:rk r a0 (lo+n)<rk r a0 (lo+n-1):=cs.resolve_left c1;have dstep:∀(a:Array Keyed)(x:Nat),1<=x->DIn r a lo x->rk r a (lo+x)<=rk r a (lo+x-1)->DIn r a lo (x+1):=λa x h1 dd hl i j hi hij hj=>by
  by_cases z:j<lo+x
  ·exact dd i j hi hij z
  ·by_cases e:i=j
   ·subst e;exact Int.le_refl _
   ·have:=dd i (lo+x-1) hi xwl xwl;have ej:j=lo+x:=by lia
    subst ej;lia
 refine zai (λc2=>?_) (λc2=>?_)
 ·refine waC (lt a0 k0 _ _ xwl xwl ?_);dsimp only;refine zai (λc3=>?_) (λc3=>?_)
  ·exact waD (h a0 n k0 g1 g2 so)
  have c3':¬ rk r a0 lo<rk r a0 (lo+n-1):=λz=>c3 (wat z);have eqs:∀ k,lo<=k->k<lo+n->rk r a0 k=rk r a0 (lo+n-1):=λk h h'=>by have u:=so lo k (wal _) h h';have v:=so k (lo+n-1) h xwl xwl;lia
  refine waC (zcZ ?_);have sm:=zeN (r:=r) (a:=a0) (i:=lo) (j:=lo+n) (by rw[k0.size];lia) eqs;have k1:=k0.mir (i:=lo) (j:=lo+n) (wal _) xwl hn;have d1:DIn r (mir a0 lo (lo+n)) lo (n+1):=λi j hi hij hj=>by rw[sm,sm];refine dstep a0 n g1 (λi j hi hij hj=>?_) xwl i j hi hij hj;rw[eqs i hi xwl,eqs j xwl hj];exact Int.le_refl _
  generalize mir a0 lo (lo+n)=a1 at k1 d1 ⊢;refine waC (zdf ?_);refine waC (wpS_mono (Q:=λc st'=>∃ a x neq,c=(none,x,neq)/\st'=setArr st a/\Kp b lo (lo+nrem) a/\1<=x/\x<=nrem/\neq+1<=x/\DIn r a lo x/\∀ k,lo+x-(neq+1)<=k->k<lo+x->rk r a k=rk r a (lo+x-1)) (wpS_forRange (I:=λx c st'=>∃ a neq,c=(none,x,neq)/\st'=setArr st a/\Kp b lo (lo+nrem) a/\neq+1<=x/\DIn r a lo x/\∀ k,lo+x-(neq+1)<=k->k<lo+x->rk r a k=rk r a (lo+x-1)) ?_ ?_ ⟨a1,0,rfl,rfl,k1,xwl,d1,λk h h'=>by rw[show k=lo+(n+1)-1 by lia]⟩) ?_)
  ·rintro x c st' hx hxn ⟨a,neq,rfl,rfl,ka,q1,dd,ee⟩;dsimp only;have sz:=ka.size;refine waC (lt a ka (lo+x) (lo+x-1) xwl xwl ?_);dsimp only;refine zai (λc5=>?_) (λc5=>?_)
   ·have c5':=of_decide_eq_true c5;refine zai (λc6=>?_) (λc6=>?_)
    ·refine waC (zcZ (waD ?_));have sm:=zeN (r:=r) (a:=a) (i:=lo+x-(neq+1)) (j:=lo+x) xwl ee;refine ⟨_,0,rfl,rfl,ka.mir xwl xwl hn,xwl,λi j hi hij hj=>?_,λk h h'=>by rw[show k=lo+(x+1)-1 by lia]⟩;rw[sm,sm];exact dstep a x xwl dd xwl i j hi hij hj
    ·exact waD ⟨a,0,rfl,rfl,ka,xwl,dstep a x xwl dd xwl,λk h h'=>by rw[show k=lo+(x+1)-1 by lia]⟩
   ·have c5':¬ rk r a (lo+x)<rk r a (lo+x-1):=λz=>c5 (wat z);refine waC (lt a ka (lo+x-1) (lo+x) xwl xwl ?_);dsimp only;refine zai (λc8=>?_) (λc8=>?_)
    ·exact waD ⟨a,x,neq,rfl,rfl,ka,xwl,xwl,q1,dd,ee⟩
    ·have c8':¬ rk r a (lo+x-1)<rk r a (lo+x):=λz=>c8 (wat z);refine waD ⟨a,neq+1,rfl,rfl,ka,xwl,dstep a x xwl dd xwl,λk h h'=>?_⟩;rw[show lo+(x+1)-1=lo+x by lia];by_cases z:k=lo+x
     ·rw[z]
     ·have:=ee k xwl xwl;lia
  ·rintro c st' ⟨a,neq,rfl,rfl,ka,q1,dd,ee⟩;rw[show max (n+1) nrem=nrem by lia] at q1 dd ee ⊢;exact ⟨a,nrem,neq,rfl,rfl,ka,h1,wal _,q1,dd,ee⟩
  ·rintro c st' ⟨a,x,neq,rfl,rfl,ka,q0,q1,q2,dd,ee⟩;dsimp only;have sz:=ka.size;refine zai (λc7=>?_) (λc7=>?_)
   ·have sm:=zeN (r:=r) (a:=a) (i:=lo+x-(neq+1)) (j:=lo+x) xwl ee;refine waC (zcZ (waC (zcZ ?_)));have ka':=ka.mir (i:=lo+x-(neq+1)) (j:=lo+x) xwl xwl hn;have dd':DIn r (mir a (lo+x-(neq+1)) (lo+x)) lo x:=λi j hi hij hj=>by rw[sm,sm];exact dd i j hi hij hj
    generalize mir a (lo+x-(neq+1)) (lo+x)=a2 at ka' dd' ⊢;have k3:=ka'.mir (i:=lo) (j:=lo+x) (wal _) xwl hn;have so3:=zgi (by rw[ka'.size];lia) dd';generalize mir a2 lo (lo+x)=a3 at k3 so3 ⊢;refine waC (asc a3 k3 x q0 q1 so3 _ (λy n h1 h2 Q q=>fstep a3 k3 n h1 h2 Q q _ λc=>rfl) _ λn g1 g2 so cs=>?_);exact waD (h a3 n k3 xwl g2 so)
   ·refine waC (zcZ ?_);have k3:=ka.mir (i:=lo) (j:=lo+x) (wal _) xwl hn;have so3:=zgi (by rw[ka.size];lia) dd;generalize mir a lo (lo+x)=a3 at k3 so3 ⊢;refine waC (asc a3 k3 x q0 q1 so3 _ (λy n h1 h2 Q q=>fstep a3 k3 n h1 h2 Q q _ λc=>rfl) _ λn g1 g2 so cs=>?_);exact waD (h a3 n k3 xwl g2 so)
 ·have k1:=k0;have d1:DIn r a0 lo (n+1):=dstep a0 n g1 (λi j hi hij hj=>by
   have:i=j:=by lia
   subst this;exact Int.le_refl _) xwl
  generalize a0=a1 at k1 d1 ⊢;refine waC (zdf ?_);refine waC (wpS_mono (Q:=λc st'=>∃ a x neq,c=(none,x,neq)/\st'=setArr st a/\Kp b lo (lo+nrem) a/\1<=x/\x<=nrem/\neq+1<=x/\DIn r a lo x/\∀ k,lo+x-(neq+1)<=k->k<lo+x->rk r a k=rk r a (lo+x-1)) (wpS_forRange (I:=λx c st'=>∃ a neq,c=(none,x,neq)/\st'=setArr st a/\Kp b lo (lo+nrem) a/\neq+1<=x/\DIn r a lo x/\∀ k,lo+x-(neq+1)<=k->k<lo+x->rk r a k=rk r a (lo+x-1)) ?_ ?_ ⟨a1,0,rfl,rfl,k1,xwl,d1,λk h h'=>by rw[show k=lo+(n+1)-1 by lia]⟩) ?_)
  ·rintro x c st' hx hxn ⟨a,neq,rfl,rfl,ka,q1,dd,ee⟩;dsimp only;have sz:=ka.size;refine waC (lt a ka (lo+x) (lo+x-1) xwl xwl ?_);dsimp only;refine zai (λc5=>?_) (λc5=>?_)
   ·have c5':=of_decide_eq_true c5;refine zai (λc6=>?_) (λc6=>?_)
    ·refine waC (zcZ (waD ?_));have sm:=zeN (r:=r) (a:=a) (i:=lo+x-(neq+1)) (j:=lo+x) xwl ee;refine ⟨_,0,rfl,rfl,ka.mir xwl xwl hn,xwl,λi j hi hij hj=>?_,λk h h'=>by rw[show k=lo+(x+1)-1 by lia]⟩;rw[sm,sm];exact dstep a x xwl dd xwl i j hi hij hj
    ·exact waD ⟨a,0,rfl,rfl,ka,xwl,dstep a x xwl dd xwl,λk h h'=>by rw[show k=lo+(x+1)-1 by lia]⟩
   ·have c5':¬ rk r a (lo+x)<rk r a (lo+x-1):=λz=>c5 (wat z);refine waC (lt a ka (lo+x-1) (lo+x) xwl xwl ?_);dsimp only;refine zai (λc8=>?_) (λc8=>?_)
    ·exact waD ⟨a,x,neq,rfl,rfl,ka,xwl,xwl,q1,dd,ee⟩
    ·have c8':¬ rk r a (lo+x-1)<rk r a (lo+x):=λz=>c8 (wat z);refine waD ⟨a,neq+1,rfl,rfl,ka,xwl,dstep a x xwl dd xwl,λk h h'=>?_⟩;rw[show lo+(x+1)-1=lo+x by lia];by_cases z:k=lo+x
     ·rw[z]
     ·have:=ee k xwl xwl;omega
  ·rintro c st' ⟨a,neq,rfl,rfl,ka,q1,dd,ee⟩;rw[show max (n+1) nrem=nrem by omega] at q1 dd ee ⊢;exact ⟨a,nrem,neq,rfl,rfl,ka,h1,wal _,q1,dd,ee⟩
  ·rintro c st' ⟨a,x,neq,rfl,rfl,ka,q0,q1,q2,dd,ee⟩;dsimp only;have sz:=ka.size;refine zai (λc7=>?_) (λc7=>?_)
   ·have sm:=zeN (r:=r) (a:=a) (i:=lo+x-(neq+1)) (j:=lo+x) xwo ee;refine waC (zcZ (waC (zcZ ?_)));have ka':=ka.mir (i:=lo+x-(neq+1)) (j:=lo+x) xwl xwl hn;have dd':DIn r (mir a (lo+x-(neq+1)) (lo+x)) lo x:=λi j hi hij hj=>by rw[sm,sm];exact dd i j hi hij hj
    generalize mir a (lo+x-(neq+1)) (lo+x)=a2 at ka' dd' ⊢;have k3:=ka'.mir (i:=lo) (j:=lo+x) (wal _) xwl hn;have so3:=zgi (by rw[ka'.size];lia) dd';generalize mir a2 lo (lo+x)=a3 at k3 so3 ⊢;refine waC (asc a3 k3 x q0 q1 so3 _ (λy n h1 h2 Q q=>fstep a3 k3 n h1 h2 Q q _ λc=>rfl) _ λn g1 g2 so cs=>?_);exact waD (h a3 n k3 xwo g2 so)
   ·refine waC (zcZ ?_);have k3:=ka.mir (i:=lo) (j:=lo+x) (wal _) xwo hn;have so3:=zgi (by rw[ka.size];omega) dd;generalize mir a lo (lo+x)=a3 at k3 so3 ⊢;refine waC (asc a3 k3 x q0 q1 so3 _ (λy n h1 h2 Q q=>fstep a3 k3 n h1 h2 Q q _ λc=>rfl) _ λn g1 g2 so cs=>?_);exact waD (h a3 n k3 xwo g2 so)
end
variable{r:Keyed->Int}
theorem ziV{a:Array Keyed}{i:Nat}{x:Keyed}(h:a.toList[i]? = some x):rk r a i=r x:=by unfold rk;rw[Array.getElem?_toList] at h;rw[h]
theorem SIn.srt{a:Array Keyed}{lo n:Nat}(h:SIn r a lo n):Srt r ((a.toList.drop lo).take n):=by
 refine List.pairwise_iff_getElem.mpr λi j hi hj hij=>?_;have hi':i<n:=by rw[List.length_take] at hi;lia
 have hj':j<n:=by rw[List.length_take] at hj;lia
 have e1:=zbt (l:=a.toList) (i:=lo) hi';have e2:=zbt (l:=a.toList) (i:=lo) hj';rw[List.getElem?_eq_getElem hi] at e1;rw[List.getElem?_eq_getElem hj] at e2;have:=h (lo+i) (lo+j) xwl xwl xwl;rwa [ziV e1.symm,ziV e2.symm] at this
theorem ztt{a:Array Keyed}{lo n:Nat}(hn:lo+n<=a.size)(h:Srt r ((a.toList.drop lo).take n)):SIn r a lo n:=λi j hi hij hj=>by
 have at_:∀ k,lo<=k->k<lo+n->∃ x,a.toList[k]? = some x/\((a.toList.drop lo).take n)[k-lo]? = some x:=λk h1 h2=>by
  have hl:k<a.toList.length:=by rw[Array.length_toList];lia
  refine ⟨_,wac hl,?_⟩;rw[zbt xwl,show lo+(k-lo)=k by lia];exact wac hl
 obtain ⟨x,x1,x2⟩:=at_ i hi xwl;obtain ⟨y,y1,y2⟩:=at_ j xwl hj;rw[ziV x1,ziV y1];exact h.at xwl x2 y2
inductive zeg(r:Keyed->Int)(a:Array Keyed):List (Nat×Nat×Nat)->Nat->Nat->Prop
 |nil {s:Nat}:zeg r a [] s s
 |cons {s n p e:Nat} {l:List (Nat×Nat×Nat)} (h1:1<=n) (hs:SIn r a s n) (t:zeg r a l (s+n) e):zeg r a ((s,n,p)::l) s e
theorem zeg.le{a:Array Keyed}:∀{l:List (Nat×Nat×Nat)}{s e:Nat},zeg r a l s e->s+l.length<=e
 |[],_,_,.nil=>by simp
 |_::_,_,_,.cons h1 hs t=>by have:=t.le;simp;lia
theorem SIn.same{a a':Array Keyed}{lo n:Nat}(h:SIn r a lo n)(e:∀ i,lo<=i->i<lo+n->a'[i]? = a[i]?):SIn r a' lo n:=λi j hi hij hj=>by rw[zdQ (e i hi xwl),zdQ (e j xwl hj)];exact h i j hi hij hj
theorem zeg.same{a a':Array Keyed}:∀{l:List (Nat×Nat×Nat)}{s e:Nat},zeg r a l s e->(∀ i,s<=i->i<e->a'[i]? = a[i]?)->zeg r a' l s e
 |[],_,_,.nil,_=>.nil
 |_::_,_,_,.cons h1 hs t,h=>.cons h1 (hs.same λi g1 g2=>h i g1 (by have:=t.le;lia)) (t.same λi g1 g2=>h i xwl g2)
theorem zeg.split{a:Array Keyed}:∀{l m:List (Nat×Nat×Nat)}{s e:Nat},zeg r a (l++m) s e->∃ k,zeg r a l s k/\zeg r a m k e
 |[],_,s,_,h=>⟨s,.nil,h⟩
 |_::_,_,_,_,.cons h1 hs t=>by obtain ⟨k,t1,t2⟩:=t.split;exact ⟨k,.cons h1 hs t1,t2⟩
theorem zeg.join{a:Array Keyed}:∀{l m:List (Nat×Nat×Nat)}{s k e:Nat},zeg r a l s k->zeg r a m k e->zeg r a (l++m) s e
 |[],_,_,_,_,.nil,h=>h
 |_::_,_,_,_,_,.cons h1 hs t,h=>.cons h1 hs (t.join h)
theorem zeg.snoc{a:Array Keyed}{l:List (Nat×Nat×Nat)}{s e n p:Nat}(h:zeg r a l s e)(h1:1<=n)(hs:SIn r a e n):zeg r a (l++[(e,n,p)]) s (e+n):=h.join (.cons h1 hs .nil)
theorem zqr{p:Array (Nat×Nat×Nat)}{i:Nat}{x y:Nat×Nat×Nat}(h1:p[i]? = some x)(h2:p[i+1]? = some y)(z:Nat×Nat×Nat):p.toList=p.toList.take i++x::y::p.toList.drop (i+2)/\((p.setIfInBounds i z).eraseIdxIfInBounds (i+1)).toList=p.toList.take i++z::p.toList.drop (i+2):=by
 have g1:p.toList[i]? = some x:=by rw[Array.getElem?_toList];exact h1
 have g2:p.toList[i+1]? = some y:=by rw[Array.getElem?_toList];exact h2
 obtain ⟨l1,e1⟩:=wam.mp g1;obtain ⟨l2,e2⟩:=wam.mp g2;have d:p.toList.drop i=x::y::p.toList.drop (i+2):=by rw[List.drop_eq_getElem_cons l1,e1,List.drop_eq_getElem_cons l2,e2]
 constructor
 ·rw[<- d,List.take_append_drop]
 ·rw[Array.toList_eraseIdxIfInBounds,Array.toList_setIfInBounds,List.set_eq_take_append_cons_drop,if_pos l1,List.drop_eq_getElem_cons l2];rw[List.eraseIdx_append_of_length_le (by rw[List.length_take];lia),List.length_take,show i+1-min i p.toList.length=1 by lia];rfl
section
variable{prog:Program}{w:World}{A:Around}{E:Value->Shared->Prop}{s:Shared}
structure Sg(kd:SortKind)(r:Keyed->Int)(b:Array Keyed)(lo:Nat)(st:SortSt):Prop where
 kd:kindOf st=kd
 ok:failedOf st=none
 pm:(arrOf st).Perm b
 rs:zeg r (arrOf st) (pendingOf st).toList 0 lo
theorem Sg.mergeAt{kd:SortKind}{P:Keyed->Prop}(C:Cp prog w A s kd P r){b:Array Keyed}(hP:∀ x∈b.toList,P x){lo i:Nat}{st:SortSt}{Q:Bool->SortSt->Prop}(h:Sg kd r b lo st)(hlo:lo<=b.size)(hi:i+1<(pendingOf st).size)
  (q:∀ st',Sg kd r b lo st'->(∀ j,lo<=j->(arrOf st')[j]? = (arrOf st)[j]?)->(pendingOf st').size+1=(pendingOf st).size->Q true st'):wpS (model prog w) A E s (zeQ i) Q st:=by
 have sz:(arrOf st).size=b.size:=h.pm.size_eq;have e1:(pendingOf st)[i]? = some ((pendingOf st)[i]'xwl):=getElem?_pos (pendingOf st) i xwl;have e2:(pendingOf st)[i+1]? = some ((pendingOf st)[i+1]'hi):=getElem?_pos (pendingOf st) (i+1) hi;generalize (pendingOf st)[i]'xwl=x at e1;generalize (pendingOf st)[i+1]'hi=y at e2;obtain ⟨sa,na,pw⟩:=x;obtain ⟨sb,nb,p2⟩:=y;obtain ⟨d1,d2⟩:=zqr e1 e2 (sa,na+nb,pw);have rs:=h.rs;rw[d1] at rs;obtain ⟨k,t1,t2⟩:=rs.split;cases t2 with
 |cons ha sa' t2 =>
  cases t2 with
  |cons hb sb' t3 =>
   have l3:=t3.le;refine zkM C h.kd h.ok (λx hx=>hP x ((Array.perm_iff_toList_perm.mp h.pm).mem_iff.mp hx)) e1 e2 rfl xwl xwl xwl sa'.srt sb'.srt λarr' m g em pm so=>?_;have lm:m.length=na+nb:=by rw[pm.length_eq,List.length_take,List.length_drop,Array.length_toList];lia
   have lt:((arrOf st).toList.take sa).length=sa:=by rw[List.length_take,Array.length_toList];lia
   have out:∀ j,j<sa\/sa+(na+nb)<=j->arr'[j]? = (arrOf st)[j]? := λj hj=>by
    rw[<- Array.getElem?_toList,<- Array.getElem?_toList,em];rcases hj with hj|hj
    ·rw[List.append_assoc,List.getElem?_append_left xwl,List.getElem?_take,if_pos hj]
    ·rw[List.getElem?_append_right (by rw[List.length_append];lia),List.getElem?_drop,wav,lt,lm];congr 1;lia
   have ps:arr'.Perm (arrOf st):=by
    refine Array.perm_iff_toList_perm.mpr ?_;rw[em];have wh:(arrOf st).toList=(arrOf st).toList.take sa++((arrOf st).toList.drop sa).take (na+nb)++(arrOf st).toList.drop (sa+na+nb):=by rw[List.append_assoc,show sa+na+nb=sa+(na+nb) by lia,<- List.drop_drop,List.take_append_drop,List.take_append_drop]
    refine List.Perm.trans ?_ (List.Perm.of_eq wh.symm);exact (List.Perm.append_left _ pm).append_right _
   have sz':arr'.size=(arrOf st).size:=ps.size_eq;have sM:SIn r arr' sa (na+nb):=by refine ztt xwl ?_;rw[em,List.append_assoc,List.drop_append,lt,List.drop_eq_nil_iff.mpr xwl,List.nil_append,Nat.sub_self,List.drop_zero,List.take_append,lm,Nat.sub_self,List.take_zero,List.append_nil,List.take_of_length_le xwl];exact so
   refine q _ ⟨h.kd,rfl,ps.trans h.pm,?_⟩ (λj hj=>out j (.inr xwl)) ?_
   ·show zeg r arr' _ 0 lo;have ep:(pendingOf (SortSt.mk' (kindOf st) arr' (((pendingOf st).setIfInBounds i (sa,na+nb,pw)).eraseIdxIfInBounds (i+1)) g none)).toList=(pendingOf st).toList.take i++(sa,na+nb,pw)::(pendingOf st).toList.drop (i+2):=d2;rw[ep];refine (t1.same λj _ hj=>out j (.inl hj)).join (.cons xwl sM ?_);rw[<- Nat.add_assoc];exact t3.same λj hj _=>out j (.inr xwl)
   ·show (((pendingOf st).setIfInBounds i (sa,na+nb,pw)).eraseIdxIfInBounds (i+1)).size+1=_;rw[<- Array.length_toList,d2,<- Array.length_toList,List.length_append,List.length_cons,List.length_take,List.length_drop];rw[<- Array.length_toList] at hi;lia
end
variable{r:Keyed->Int}
def zkf:StateT SortSt Sem Unit:=sortPriv% PySem.Builtin.sortRuns
theorem zeg.modify{a:Array Keyed}{f:Nat×Nat×Nat->Nat×Nat×Nat}(hf:∀ x,(f x).1=x.1/\(f x).2.1=x.2.1):∀{l:List (Nat×Nat×Nat)}{s e:Nat}(i:Nat),zeg r a l s e->zeg r a (l.modify i f) s e
 |[],_,_,i,.nil=>by rw[List.modify_nil];exact .nil
 | (s,n,p)::l,_,_,0,.cons h1 hs t=>by rw[List.modify_zero_cons];obtain ⟨e1,e2⟩:=hf (s,n,p);have:f (s,n,p)=(s,n,(f (s,n,p)).2.2):=Prod.ext e1 (Prod.ext e2 rfl);rw[this];exact .cons h1 hs t
 |_::l,_,_,i+1,.cons h1 hs t=>by rw[List.modify_succ_cons];exact .cons h1 hs (zeg.modify hf i t)
section
variable{prog:Program}{w:World}{A:Around}{E:Value->Shared->Prop}{s:Shared}
theorem Sg.arr{kd:SortKind}{b:Array Keyed}{lo hi:Nat}{st:SortSt}(h:Sg kd r b lo st){a:Array Keyed}(k:Kp (arrOf st) lo hi a):Sg kd r b lo (setArr st a) :=
 ⟨h.kd,h.ok,k.pm.trans h.pm,h.rs.same λi _ hi=>k.out i (.inl hi)⟩
theorem ziN{kd:SortKind}{P:Keyed->Prop}(C:Cp prog w A s kd P r){b:Array Keyed}(hP:∀ x∈b.toList,P x){st:SortSt}{Q:Unit->SortSt->Prop}(h0:Sg kd r b 0 st)(hsz:1<=b.size)
  (h:∀ st',Sg kd r b b.size st'->(pendingOf st').size<=1->Q () st'):wpS (model prog w) A E s zkf Q st:=by
 have sz:(arrOf st).size=b.size:=h0.pm.size_eq;have mloop:∀ lo,lo<=b.size->∀(st2:SortSt),Sg kd r b lo st2->∀ f:Nat->Option Unit×Unit->StateT SortSt Sem (ForInStep (Option Unit×Unit)),(∀ x st',Sg kd r b lo st'->∀ Q:ForInStep (Option Unit×Unit)->SortSt->Prop,Q (.done (none,())) st'->((pendingOf st').size > 1->wpS (model prog w) A E s (zeQ ((pendingOf st').size-2)) (λok st''=>Q (if ok=true then .yield (none,()) else .done (some (),())) st'') st')->wpS (model prog w) A E s (f x (none,())) Q st') ->
   ∀ Q:Option Unit×Unit->SortSt->Prop,(∀ st',Sg kd r b lo st'->(∀ j,lo<=j->(arrOf st')[j]? = (arrOf st2)[j]?)->Q (none,()) st')->wpS (model prog w) A E s (forIn [:b.size] (none,()) f) Q st2:=by
  intro lo hlo st2 S2 f hf Q hQ;refine wpS_forRange (I:=λ_ c st'=>c=(none,())/\Sg kd r b lo st'/\∀ j,lo<=j->(arrOf st')[j]? = (arrOf st2)[j]?) ?_ ?_ ⟨rfl,S2,λ_ _=>rfl⟩
  ·rintro t c st' _ _ ⟨rfl,S,keep⟩;refine hf t st' S _ (hQ st' S keep) λg=>?_;exact S.mergeAt C hP hlo xwl λst'' S' k' _=>⟨rfl,S',λj hj=>(k' j hj).trans (keep j hj)⟩
  ·rintro c st' ⟨rfl,S,keep⟩;exact hQ st' S keep
 unfold zkf;refine waC (wpS_get ?_);have ez:((sortPriv% PySem.Builtin.SortState.a) st).size=b.size:=sz;rw[ez];refine waC (wpS_mono (Q:=λc st'=>c.1=none/\Sg kd r b b.size st') (wpS_forRange (I:=λt c st'=>∃ lo,c=(none,lo)/\Sg kd r b lo st'/\lo<=b.size/\t<=lo) ?_ ?_ ⟨0,rfl,h0,xwl,xwl⟩) ?_)
 ·rintro t c st1 _ ht ⟨lo,rfl,S1,hlo,htl⟩;dsimp only;refine zai (λc1=>?_) (λc1=>?_)
  ·have:lo=b.size:=by lia
   subst this;exact waD ⟨rfl,S1⟩
  have z1:(arrOf st1).size=b.size:=S1.pm.size_eq;have p1:∀ x∈(arrOf st1).toList,P x:=λx hx=>hP x ((Array.perm_iff_toList_perm.mp S1.pm).mem_iff.mp hx);refine waC (ziT C rfl S1.kd p1 xwl xwl λa n ka n1 n2 so=>?_);dsimp only;have S2:=S1.arr ka;have za:=ka.size;refine zai (λc2=>?_) (λc2=>?_)
  ·refine waC (zdf ?_);have hF1:=Nat.le_min.mpr ⟨n2,Nat.le_of_lt c2⟩;have hF2:=Nat.min_le_left (b.size-lo) ((sortPriv% PySem.Builtin.minRun) b.size b.size 0);generalize min (b.size-lo) ((sortPriv% PySem.Builtin.minRun) b.size b.size 0)=N at hF1 hF2 ⊢;refine waC (zgI C (st:=setArr st1 a) S2.kd (λx hx=>p1 x ((Array.perm_iff_toList_perm.mp ka.pm).mem_iff.mp hx)) (show lo+N<=a.size by lia) hF1 xwl so λa' pm out so3=>?_);refine zai (λc3=>absurd c3 xws) (λ_=>?_);have S3:=S2.arr ⟨pm,out⟩;have so3:SIn r (arrOf (setArr (setArr st1 a) a')) lo N:=so3;have hN1:1<=N:=by lia
   generalize setArr (setArr st1 a) a'=st2 at S3 so3 ⊢;refine waC (wpS_get ?_);cases hb:(pendingOf st2).back? with
   |none =>
    dsimp only;refine waC (wpS_modify (waD ⟨lo+N,rfl,⟨S3.kd,S3.ok,S3.pm,?_⟩,xwl,xwl⟩));show zeg r (arrOf st2) ((pendingOf st2).push (lo,N,0)).toList 0 (lo+N);rw[Array.toList_push];exact S3.rs.snoc hN1 so3
   |some v =>
    obtain ⟨s1,m1,pp⟩:=v;dsimp only;refine waC (mloop lo hlo st2 S3 _ (λx st' S Q q1 q2=>?_) _ λst' S keep=>?_)
    ·refine waC (wpS_get ?_);by_cases g:(pendingOf st').size > 1
     ·have eg:(pendingOf st')[(pendingOf st').size-2]? = some ((pendingOf st')[(pendingOf st').size-2]'xwl):=getElem?_pos (pendingOf st') _ xwl;rw[if_pos g,eg];dsimp only;refine zai (λ_=>waD q1) (λ_=>waC (wpS_mono (q2 g) λok st'' hq=>?_));cases ok with
      |true=>exact waD hq
      |false=>exact waD hq
     ·rw[if_neg g];exact waD q1
    ·dsimp only;refine waC (wpS_modify (waC (wpS_modify (waD ⟨lo+N,rfl,⟨S.kd,S.ok,S.pm,?_⟩,xwl,xwl⟩))));show zeg r (arrOf st') (((pendingOf st').modify ((pendingOf st').size-1) _).push (lo,N,0)).toList 0 (lo+N);rw[Array.toList_push,Array.toList_modify];refine zeg.snoc (zeg.modify ?_ _ S.rs) hN1 (so3.same λi h1 h2=>keep i h1);exact λx=>⟨rfl,rfl⟩
  ·have S3:=S2;have so3:SIn r (arrOf (setArr st1 a)) lo n:=so;have hN1:1<=n:=n1;generalize setArr st1 a=st2 at S3 so3 ⊢;refine waC (wpS_get ?_);cases hb:(pendingOf st2).back? with
   |none =>
    dsimp only;refine waC (wpS_modify (waD ⟨lo+n,rfl,⟨S3.kd,S3.ok,S3.pm,?_⟩,xwl,xwl⟩));show zeg r (arrOf st2) ((pendingOf st2).push (lo,n,0)).toList 0 (lo+n);rw[Array.toList_push];exact S3.rs.snoc hN1 so3
   |some v =>
    obtain ⟨s1,m1,pp⟩:=v;dsimp only;refine waC (mloop lo hlo st2 S3 _ (λx st' S Q q1 q2=>?_) _ λst' S keep=>?_)
    ·refine waC (wpS_get ?_);by_cases g:(pendingOf st').size > 1
     ·have eg:(pendingOf st')[(pendingOf st').size-2]? = some ((pendingOf st')[(pendingOf st').size-2]'xwl):=getElem?_pos (pendingOf st') _ xwl;rw[if_pos g,eg];dsimp only;refine zai (λ_=>waD q1) (λ_=>waC (wpS_mono (q2 g) λok st'' hq=>?_));cases ok with
      |true=>exact waD hq
      |false=>exact waD hq
     ·rw[if_neg g];exact waD q1
    ·dsimp only;refine waC (wpS_modify (waC (wpS_modify (waD ⟨lo+n,rfl,⟨S.kd,S.ok,S.pm,?_⟩,xwl,xwl⟩))));show zeg r (arrOf st') (((pendingOf st').modify ((pendingOf st').size-1) _).push (lo,n,0)).toList 0 (lo+n);rw[Array.toList_push,Array.toList_modify];refine zeg.snoc (zeg.modify ?_ _ S.rs) hN1 (so3.same λi h1 h2=>keep i h1);exact λx=>⟨rfl,rfl⟩
 ·rintro c st' ⟨lo,rfl,S,g1,g2⟩;have:lo=b.size:=by lia
  subst this;exact ⟨rfl,S⟩
 ·rintro ⟨c1,c⟩ st' ⟨e,S⟩;dsimp only at e ⊢;subst e;dsimp only;refine waC (wpS_mono (Q:=λc st'=>c.1=none/\Sg kd r b b.size st'/\(pendingOf st').size<=1) (wpS_forRange (I:=λt c st'=>c=(none,())/\Sg kd r b b.size st'/\((pendingOf st').size<=1\/(pendingOf st').size+t<=b.size+1)) ?_ ?_ ⟨rfl,S,.inr (by have:=S.rs.le;rw[Array.length_toList] at this;lia)⟩) ?_)
  ·rintro t c st1 _ ht ⟨rfl,S1,g⟩;refine waC (wpS_get ?_);refine zai (λc1=>?_) (λc1=>?_)
   ·exact waD ⟨rfl,S1,c1⟩
   have c1':¬ (pendingOf st1).size<=1:=c1;have yes:∀ i,i+1<(pendingOf st1).size->∀ g:Bool->StateT SortSt Sem (ForInStep (Option Unit×Unit)),g true=pure (.yield (none,()))->∀ Q:ForInStep (Option Unit×Unit)->SortSt->Prop,(∀ st'',Sg kd r b b.size st''->(pendingOf st'').size+1=(pendingOf st1).size->Q (.yield (none,())) st'')->wpS (model prog w) A E s (zeQ i >>= g) Q st1:=λi hi g hg Q hQ=>by refine waC (S1.mergeAt C hP (wal _) hi λst'' S' _ e=>?_);rw[hg];exact waD (hQ st'' S' e)
   refine yes _ ?_ _ ?_ _ λst'' S' e=>⟨rfl,S',xwl⟩
   rotate_left
   ·rfl
   have two:∀(c:Prop) [Decidable c] (n:Nat),¬ n<=1->(if c then n-2-1 else n-2)+1<n:=λc _ n hn=>by split <;> lia
   exact two _ _ c1'
  ·rintro c st1 ⟨rfl,S1,g⟩;exact ⟨rfl,S1,xwl⟩
  ·rintro ⟨c1,c⟩ st1 ⟨e,S1,g⟩;dsimp only at e ⊢;subst e;exact waD (h st1 S1 g)
end
section
variable{prog:Program}{w:World}{A:Around}{E:Value->Shared->Prop}{s:Shared}{r:Keyed->Int}
theorem zhG{kd:SortKind}{PK:Keyed->Prop}{x:Addr}{vs:List Value}{n:Nat}{P:Fin->Shared->Prop}(ho:s.heap.get? x=some (seqObj "list" vs.toArray n))(h2:2<=vs.length)(hz:vs.length<=sizeLine)
  (hkk:∀(h':Heap),(∀ b o,b≠x->s.heap.get? b=some o->h'.get? b=some o)->∀(Q:SortKind->Shared->Prop)(E:Value->Shared->Prop),Q kd { s with heap:=h' }->wpAny (model prog w) A (keyKind' vs.toArray) Q E { s with heap:=h' })
  (C:∀(h':Heap),(∀ b o,b≠x->s.heap.get? b=some o->h'.get? b=some o)->Cp prog w A { s with heap:=h' } kd PK r) (hP:∀ p∈(pairsOf vs).toList,PK p)
  (h:∀ out:Array Keyed,out.Perm (pairsOf vs)->SIn r out 0 vs.length->P (.done (.ret .none)) { s with heap:=sortedHeap s.heap x vs (out.map (·.2)) }) :
  wpAny (model prog w) A (Builtin.«list.sort» ⟨[.ref x],[]⟩) P E s:=by
 have hx:=wai ho;have hn2:¬ vs.toArray.size<2:=by rw[List.size_toArray];omega
 rw[list_sort_plain];refine wab (listItems_at ho rfl (wab (listUpdate_at ho rfl ?_)));have g1:=get?_update_seq ho λ_=>(#[]:Array Value)
 have keep:∀ b o,b≠x->s.heap.get? b=some o->(s.heap.update x (Obj.mapSeq λ_=>#[])).get? b=some o:=λb o hb e=>((Heap.SameBut.update s.heap x (Obj.mapSeq λ_=>#[])).2 b hb).trans e;refine wab (seqEpoch_at g1 rfl (wab (wpAny_newTuple (wab (wpAny_newList (wpAny_holding ?_))))));have k6:∀ b o,b≠x->s.heap.get? b=some o->(((s.heap.update x (Obj.mapSeq λ_=>#[])).push (seqObj "tuple" vs.toArray 0)).push (seqObj "list" #[] 0)).get? b=some o:=λb o hb e=>waa _ (waa _ (keep b o hb e));have g6:=waa (seqObj "list" #[] 0) (waa (seqObj "tuple" vs.toArray 0) g1);have hps:(pairsOf vs).size=vs.length:=pairsOf_size vs;show wpAny _ A _ P E { s with heap:=((s.heap.update x (Obj.mapSeq λ_=>#[])).push (seqObj "tuple" vs.toArray 0)).push (seqObj "list" #[] 0) };dsimp only;rw[if_neg hn2];refine wab (hkk _ k6 _ _ ?_);rw[if_neg hn2];have run:=ziN (E:=E) (C _ k6) hP (st:=SortSt.mk' kd (pairsOf vs) #[] 7 none) (Q:=λ_ st'=>Sg kd r (pairsOf vs) (pairsOf vs).size st'/\(pendingOf st').size<=1) ⟨rfl,rfl,.refl _,.nil⟩ xwo λst' S p=>⟨S,p⟩
 refine wab (wpAny_mono run ?_ λ_ _ e=>e);rintro ⟨⟨⟩,st'⟩ s' ⟨rfl,S,hp⟩;dsimp only at S hp ⊢;have so:SIn r (arrOf st') 0 vs.length:=by
  have rs:=S.rs;rw[hps] at rs;cases hl:(pendingOf st').toList with
  |nil =>
   rw[hl] at rs;generalize hv:vs.length=L at rs h2;cases rs;omega
  |cons p q =>
   have hq:q=[]:=by have:=congrArg List.length hl;rw[Array.length_toList,List.length_cons] at this;exact List.length_eq_zero_iff.mp xwo
   subst hq;rw[hl] at rs;generalize hv:vs.length=L at rs h2 ⊢;cases rs with
   |cons h1 hs t =>
    cases t;rw[Nat.zero_add];exact hs
 refine wab (seqEpoch_at g6 rfl (wab (listUpdate_at g6 rfl ?_ (hsz2:=by rw[Array.size_map,S.pm.size_eq,hps];exact Nat.le_succ_of_le hz))));rw[S.ok];simp only[bne_self_eq_false,Bool.false_eq_true,if_false];exact wad (h (arrOf st') S.pm so)
end
section
variable{prog:Program}{w:World}{A:Around}{E:Value->Shared->Prop}{s:Shared}{r:Keyed->Int}
theorem zj0{kd:SortKind}{PK:Keyed->Prop}{l:Addr}{vs:List Value}{Q:Value->Shared->Prop}(hl:s.heap.IsList l vs.toArray)(h2:2<=vs.length)(hz:vs.length<=sizeLine)
  (hkk:∀(A:Around)(h':Heap),(∀ b o,s.heap.get? b=some o->h'.get? b=some o)->∀(Q:SortKind->Shared->Prop)(E:Value->Shared->Prop),Q kd { s with heap:=h' }->wpAny (model prog w) A (keyKind' vs.toArray) Q E { s with heap:=h' })
  (C:∀(h':Heap),(∀ b o,s.heap.get? b=some o->h'.get? b=some o)->Cp prog w A.in1.in1 { s with heap:=h' } kd PK r) (hP:∀ p∈(pairsOf vs).toList,PK p)
  (h:∀ out:Array Keyed,out.Perm (pairsOf vs)->SIn r out 0 vs.length->Q (.ref (s.heap.objs.size+1)) { s with heap:=sortedAll s.heap vs (out.map (·.2)) }) :
  wpAny (model prog w) A (call (.builtin "sorted") [.ref l]) Q E s:=by
 have keep0:∀ b o,s.heap.get? b=some o->(((s.heap.push (seqObj "list" #[] 0)).update s.heap.objs.size (Obj.mapSeq (·++vs.toArray))).push (seqObj "list" vs.toArray 0)).get? b=some o:=λb o e=>waa _ (((Heap.SameBut.update (s.heap.push (seqObj "list" #[] 0)) s.heap.objs.size (Obj.mapSeq (·++vs.toArray))).2 b (waM (wai e))).trans (waa _ e));have zz:((s.heap.push (seqObj "list" #[] 0)).update s.heap.objs.size (Obj.mapSeq (·++vs.toArray))).objs.size=s.heap.objs.size+1:=(Heap.size_update ..).trans (size_push' ..);have ff:(((s.heap.push (seqObj "list" #[] 0)).update s.heap.objs.size (Obj.mapSeq (·++vs.toArray))).push (seqObj "list" vs.toArray 0)).get? ((s.heap.push (seqObj "list" #[] 0)).update s.heap.objs.size (Obj.mapSeq (·++vs.toArray))).objs.size=some (seqObj "list" vs.toArray 0):=waj _ rfl;rw[zz] at ff;refine Calls.call_function_entry kind_sorted plain_sorted entry_sorted (args_sorted1 (.ref l)) (by unfold Builtin.«sorted»;refine wab (m:=checkCount "sorted" 1 1 _) (wad (wab (collect_list hl (wab (wpAny_newList ?_ hz)))));show wpAny _ _ _ _ _ { s with heap:=((s.heap.push (seqObj "list" #[] 0)).update s.heap.objs.size (Obj.mapSeq (·++vs.toArray))).push (seqObj "list" vs.toArray 0) };rw[zz];refine wab (wpAny_holding (wpAny_call_entry slot_list_sort ⟨_,ff,rfl⟩ entry_list_sort (zhG (kd:=kd) (PK:=PK) (r:=r) ff h2 hz (λh' k=>hkk _ h' λb o e=>k b o (λz=>absurd (wai e) (by rw[z];exact Nat.not_lt.mpr (Nat.le_succ _))) (keep0 b o e)) (λh' k=>C h' λb o e=>k b o (λz=>absurd (wai e) (by rw[z];exact Nat.not_lt.mpr (Nat.le_succ _))) (keep0 b o e)) hP λout pm so=>⟨_,rfl,wad ⟨_,rfl,h out pm so⟩⟩) (args_list_sort _))))
end
end Ts
end
section
namespace Ts
open PySem PySem.W PyProof.Rows
inductive IL:List Value->List Int->Prop
 |nil:IL [] []
 |cons {a:Int} {t:Tok} {vs:List Value} {l:List Int} (h:IL vs l):IL (.int a t::vs) (a::l)
theorem IL.len{vs:List Value}{l:List Int}(h:IL vs l):vs.length=l.length:=by
 induction h with
 |nil=>rfl
 |cons h ih=>simp[ih]
def lxB:List Int->List Int->Bool
 |[],[]=>false
 |[],_::_=>true
 |_::_,[]=>false
 |x::xs,y::ys=>if x=y then lxB xs ys else decide (x<y)
section
variable{prog:Program}{w:World}{A:Around}{E:Value->Shared->Prop}{s:Shared}
theorem zqK{c:Bool}{a b:Int}{t u:Tok}{Q:Bool->Shared->Prop}(h:Q (decide (a<b)) s):wpAny (model prog w) A (oneLt' c (.int a t) (.int b u)) Q E s:=by
 cases c with
 |true=>exact oneLt_int h
 |false =>
  rw[oneLt'_eq];simp only[Bool.false_eq_true,if_false];exact wab (richCompare_gives (op:=.Lt) (typeIs_int s _ t) (typeIs_int s _ u) PySem.F.slot_int_lt PySem.F.entry_int_lt (PySem.F.args_int_lt_2 _ _) (gives_int_lt _ _ t u) (λx=>nomatch x) (wpAny_truthy_bool h))
theorem zqm{c:Bool}{Q:Bool->Shared->Prop}{xs:List Value}{l:List Int}(hx:IL xs l):∀{ys:List Value}{m:List Int}{i:Nat}{fin:Bool},IL ys m->fin=decide (l.length<m.length)->Q (lxB l m) s->KatLex prog w A c fin Q (xs.zip ys) i s:=by
 induction hx with
 |nil =>
  intro ys m i fin hy hf q;rw[List.zip_nil_left];refine kat_nil ?_;cases hy with
  |nil=>rw[hf];exact q
  |cons h=>rw[hf];simpa [lxB] using q
 |@cons a t vs l h ih =>
  intro ys m i fin hy hf q;cases hy with
  |nil=>rw[List.zip_nil_right];refine kat_nil ?_;rw[hf];simpa [lxB] using q
  |@cons b u ws k h' =>
   rw[List.zip_cons_cons];refine kat_cons (wpAny_eqBool_int (kat_go (λe=>kat_yes (ih h' (by rw[hf];simp) ?_)) λe=>kat_no (zqK ?_)))
   ·rw[beq_iff_eq] at e;unfold lxB at q;rw[if_pos e] at q;exact q
   ·have e':¬ a=b:=by simpa using e
    unfold lxB at q;rw[if_neg e'] at q;exact q
theorem zkL{c:Bool}{st:SortSt}{p q:Keyed}{x y:Addr}{ox oy:Obj}{xs ys:Array Value}{n k:Nat}{l m:List Int}{Q:Option Bool->SortSt->Prop}(hk:kindOf st=tuples' c)(px:p.1=.ref x)(py:q.1=.ref y)(hx:s.heap.get? x=some ox)(dx:ox.data=.seq xs n)(hy:s.heap.get? y=some oy)(dy:oy.data=.seq ys k)(ix:IL xs.toList l)(iy:IL ys.toList m)
  (h:Q (some (lxB l m)) st):wpS (model prog w) A E s (lt' p q) Q st:=by
 rw[lt'_eq];refine waC (wpS_get ?_);rw[hk,px,py];refine waC (wpS_lift (wpAny_attempt (kat_lt hx dx hy dy (zqm ix iy ?_ ⟨rfl,?_⟩))))
 ·rw[<- ix.len,<- iy.len,Array.length_toList,Array.length_toList]
 ·exact waD h
end
theorem lxB_irr:∀ a:List Int,lxB a a=false
 |[]=>rfl
 |x::xs=>by unfold lxB;rw[if_pos rfl];exact lxB_irr xs
theorem lxB_tr:∀{a b c:List Int},lxB a b=true->lxB b c=true->lxB a c=true
 |[],[],_,h,_=>by cases h
 |[],_::_,[],_,h=>by cases h
 |[],_::_,_::_,_,_=>rfl
 |_::_,[],_,h,_=>by cases h
 |_::_,_::_,[],_,h=>by cases h
 |x::xs,y::ys,z::zs,h,h'=>by
  unfold lxB at h h' ⊢;by_cases e1:x=y
  ·subst e1;rw[if_pos rfl] at h;by_cases e2:x=z
   ·rw[if_pos e2] at h' ⊢;exact lxB_tr h h'
   ·rw[if_neg e2] at h' ⊢;exact h'
  ·rw[if_neg e1,decide_eq_true_eq] at h;by_cases e2:y=z
   ·subst e2;rw[if_neg e1,decide_eq_true_eq];exact h
   ·rw[if_neg e2,decide_eq_true_eq] at h';rw[if_neg xwo,decide_eq_true_eq];omega
theorem lxB_tot:∀{a b:List Int},lxB a b=false->lxB b a=false->a=b
 |[],[],_,_=>rfl
 |[],_::_,h,_=>by cases h
 |_::_,[],_,h=>by cases h
 |x::xs,y::ys,h,h'=>by
  unfold lxB at h h';by_cases e1:x=y
  ·subst e1;rw[if_pos rfl] at h h';rw[lxB_tot h h']
  ·rw[if_neg e1,decide_eq_false_iff_not] at h;rw[if_neg (Ne.symm e1),decide_eq_false_iff_not] at h';omega
theorem zjp{α:Type}{p q:α->Bool}(hpq:∀ x,p x=true->q x=true):∀{L:List α},(L.filter p).length<=(L.filter q).length/\(∀ a∈L,q a=true->p a=false->(L.filter p).length<(L.filter q).length)
 |[]=>⟨wal _,λa h=>by cases h⟩
 |x::L=>by
  obtain ⟨h1,h2⟩:=zjp (p:=p) (q:=q) hpq (L:=L);cases hp:p x with
  |true =>
   have hq:=hpq x hp;rw[List.filter_cons_of_pos hp,List.filter_cons_of_pos hq,List.length_cons,List.length_cons];refine ⟨xwo,λa ha qa pa=>?_⟩;rcases wap.mp ha with z|z
   ·subst z;rw[hp] at pa;cases pa
   ·have:=h2 a z qa pa;omega
  |false =>
   rw[List.filter_cons_of_neg (by rw[hp];simp)];cases hq:q x with
   |true =>
    rw[List.filter_cons_of_pos hq,List.length_cons];exact ⟨xwo,λa ha qa pa=>by omega⟩
   |false =>
    rw[List.filter_cons_of_neg (by rw[hq];simp)];refine ⟨h1,λa ha qa pa=>?_⟩;rcases wap.mp ha with z|z
    ·subst z;rw[hq] at qa;cases qa
    ·exact h2 a z qa pa
def ztc(Ls:List (List Int))(a:List Int):Int:=((Ls.filter λl=>lxB l a).length:Nat)
theorem zn8{Ls:List (List Int)}{a b:List Int}(ha:a∈Ls)(h:lxB a b=true):ztc Ls a<ztc Ls b:=by have:=(zjp (p:=λl=>lxB l a) (q:=λl=>lxB l b) (λx hx=>lxB_tr hx h) (L:=Ls)).2 a ha h (lxB_irr a);unfold ztc;omega
theorem znC{Ls:List (List Int)}{a b:List Int}(ha:a∈Ls)(hb:b∈Ls):decide (ztc Ls a<ztc Ls b)=lxB a b:=by
 cases h:lxB a b with
 |true=>exact wat (zn8 ha h)
 |false =>
  refine waw λz=>?_;cases h':lxB b a with
  |true=>have:=zn8 hb h';omega
  |false=>rw[lxB_tot h h'] at z;omega
section
variable{prog:Program}{w:World}{A:Around}{s:Shared}
theorem zt0{c:Bool}{tk:Keyed->List Int}{Ls:List (List Int)}:Cp prog w A s (tuples' c) (λp=>tk p∈Ls/\∃ x o xs n,p.1=.ref x/\s.heap.get? x=some o/\o.data=.seq xs n/\IL xs.toList (tk p)) (λp=>ztc Ls (tk p)):=by intro E p q st Q hp hq hk h;obtain ⟨m1,x,o,xs,n,e1,e2,e3,e4⟩:=hp;obtain ⟨m2,y,o',ys,k,g1,g2,g3,g4⟩:=hq;refine zkL hk e1 g1 e2 e3 g2 g3 e4 g4 ?_;rw[<- znC m1 m2];exact h
end
section
variable{prog:Program}{w:World}{A:Around}{E:Value->Shared->Prop}{s:Shared}
theorem zj9(vs:List Value):(pairsOf vs).map (·.2)=vs.toArray:=by
 unfold pairsOf;apply Array.ext
 ·simp
 ·intro i h1 h2;simp
theorem zmc{x:Addr}{vs:List Value}{n:Nat}{P:PySem.Fin->Shared->Prop}(ho:s.heap.get? x=some (seqObj "list" vs.toArray n))(h2:vs.length<2)
  (h:P (.done (.ret .none)) { s with heap:=sortedHeap s.heap x vs vs.toArray }) :
  wpAny (model prog w) A (Builtin.«list.sort» ⟨[.ref x],[]⟩) P E s:=by
 have hn2:vs.toArray.size<2:=by rw[List.size_toArray];exact h2
 rw[list_sort_plain];refine wab (listItems_at ho rfl (wab (listUpdate_at ho rfl ?_)));have g1:=get?_update_seq ho λ_=>(#[]:Array Value)
 refine wab (seqEpoch_at g1 rfl (wab (wpAny_newTuple (wab (wpAny_newList (wpAny_holding ?_))))));have g6:=waa (seqObj "list" #[] 0) (waa (seqObj "tuple" vs.toArray 0) g1);show wpAny _ A _ P E { s with heap:=((s.heap.update x (Obj.mapSeq λ_=>#[])).push (seqObj "tuple" vs.toArray 0)).push (seqObj "list" #[] 0) };dsimp only;rw[if_pos hn2];refine wab (wad ?_);rw[if_pos hn2,StateT.run_pure];refine wab (wad (wab (seqEpoch_at g6 rfl (wab (listUpdate_at g6 rfl ?_ (hsz2:=by rw[Array.size_map];show (pairsOf vs).size<=_;rw[pairsOf_size,sizeLine_eq];omega))))));simp only[bne_self_eq_false,Bool.false_eq_true,if_false];refine wad ?_;have h':P (.done (.ret .none)) { s with heap:=sortedHeap s.heap x vs ((pairsOf vs).map (·.2)) }:=by rw[zj9];exact h
 exact h'
theorem znf{l:Addr}{vs:List Value}{Q:Value->Shared->Prop}(hl:s.heap.IsList l vs.toArray)(h2:vs.length<2)(h:Q (.ref (s.heap.objs.size+1)) { s with heap:=sortedAll s.heap vs vs.toArray }) :
  wpAny (model prog w) A (call (.builtin "sorted") [.ref l]) Q E s:=by
 have hz:vs.length<=sizeLine:=by rw[sizeLine_eq];omega
 have zz:((s.heap.push (seqObj "list" #[] 0)).update s.heap.objs.size (Obj.mapSeq (·++vs.toArray))).objs.size=s.heap.objs.size+1:=(Heap.size_update ..).trans (size_push' ..);have ff:(((s.heap.push (seqObj "list" #[] 0)).update s.heap.objs.size (Obj.mapSeq (·++vs.toArray))).push (seqObj "list" vs.toArray 0)).get? ((s.heap.push (seqObj "list" #[] 0)).update s.heap.objs.size (Obj.mapSeq (·++vs.toArray))).objs.size=some (seqObj "list" vs.toArray 0):=waj _ rfl;rw[zz] at ff;refine Calls.call_function_entry kind_sorted plain_sorted entry_sorted (args_sorted1 (.ref l)) (by unfold Builtin.«sorted»;refine wab (m:=checkCount "sorted" 1 1 _) (wad (wab (collect_list hl (wab (wpAny_newList ?_ hz)))));show wpAny _ _ _ _ _ { s with heap:=((s.heap.push (seqObj "list" #[] 0)).update s.heap.objs.size (Obj.mapSeq (·++vs.toArray))).push (seqObj "list" vs.toArray 0) };rw[zz];refine wab (wpAny_holding (wpAny_call_entry slot_list_sort ⟨_,ff,rfl⟩ entry_list_sort (zmc ff h2 ⟨_,rfl,wad ⟨_,rfl,h⟩⟩) (args_list_sort _))))
def intsOf(h:Heap):Value->List Int
 |.ref x=>match h.get? x with
  |some o=>match o.data with
   |.seq xs _=>xs.toList.map λv=>match v with
    |.int a _=>a
    |_=>0
   |_=>[]
  |none=>[]
 |_=>[]
theorem zuR{xs:List Value}{l:List Int}(h:IL xs l):(xs.map λv=>match v with|.int a _=>a|_=>0)=l:=by
 induction h with
 |nil=>rfl
 |cons h ih=>rw[List.map_cons,ih]
structure TupAt(h:Heap)(v:Value)(l:List Int):Prop where
 ex:∃ x o xs n,v=.ref x/\h.get? x=some o/\o.cls=.type "tuple"/\o.data=.seq xs n/\IL xs.toList l
 ne:l≠[]
theorem TupAt.ints{h:Heap}{v:Value}{l:List Int}(t:TupAt h v l):intsOf h v=l:=by obtain ⟨x,o,xs,n,rfl,ho,_,hd,hi⟩:=t.ex;unfold intsOf;simp only[ho,hd];exact zuR hi
theorem TupAt.keep{h h':Heap}{v:Value}{l:List Int}(k:∀ b o,h.get? b=some o->h'.get? b=some o)(t:TupAt h v l):TupAt h' v l:=by obtain ⟨x,o,xs,n,e,ho,hc,hd,hi⟩:=t.ex;exact ⟨⟨x,o,xs,n,e,k _ _ ho,hc,hd,hi⟩,t.ne⟩
theorem zrO{h:Heap}:∀{vs:List Value},(∀ v∈vs,∃ l,TupAt h v l)->∃ fs,KatTups h vs fs/\fs.length=vs.length/\∀ f∈fs,∃ a t,f=.int a t
 |[],_=>⟨[],.nil,rfl,xws⟩
 |v::vs,H=>by
  obtain ⟨fs,h1,h2,h3⟩:=zrO (vs:=vs) λv hv=>H v (wah _ hv);obtain ⟨l,t⟩:=H v wau;obtain ⟨x,o,xs,n,rfl,ho,hc,hd,hi⟩:=t.ex;have:∃ a k,xs[0]? = some (.int a k):=by
   have hx:xs.toList[0]? = xs[0]? := by rw[Array.getElem?_toList]
   rw[<- hx];have:=t.ne;revert hi;generalize xs.toList=ys;intro hi;cases hi with
   |nil=>exact absurd rfl this
   |cons h=>exact ⟨_,_,rfl⟩
  obtain ⟨a,k,hf⟩:=this;refine ⟨_,KatTups.cons ho hc hd hf h1,by simp[h2],λf hf=>?_⟩;rcases wap.mp hf with rfl|hf
  ·exact ⟨a,k,rfl⟩
  ·exact h3 f hf
theorem zjI{α β:Type}{x y:Array α}(f:α->β)(h:x.Perm y):(x.toList.map f).Perm (y.toList.map f):=(Array.perm_iff_toList_perm.mp h).map f
def rkT(h:Heap)(vs:List Value)(p:Keyed):Int:=ztc (vs.map (intsOf h)) (intsOf h p.1)
def PT(h:Heap)(vs:List Value)(p:Keyed):Prop:=p.1∈vs/\p.2=p.1/\∃ l,TupAt h p.1 l
theorem zoF{h:Heap}{vs:List Value}(ht:∀ v∈vs,∃ l,TupAt h v l):∀ p∈(pairsOf vs).toList,PT h vs p:=λk hk=>by
 have:k.1∈vs/\k.2=k.1:=by unfold pairsOf at hk;obtain ⟨i,hi,rfl⟩:=List.mem_iff_getElem.mp hk;simp
 exact ⟨this.1,this.2,ht _ this.1⟩
theorem zuF{h':Heap}{vs:List Value}(k:∀ b o,s.heap.get? b=some o->h'.get? b=some o):Cp prog w A { s with heap:=h' } (tuples' true) (PT s.heap vs) (rkT s.heap vs):=by
 intro E p q st Q hp hq hk h;obtain ⟨m1,_,l,t⟩:=hp;obtain ⟨m2,_,m,u⟩:=hq;refine zt0 (prog:=prog) (w:=w) (A:=A) (s:={ s with heap:=h' }) (c:=true) (tk:=λp=>intsOf s.heap p.1) (Ls:=vs.map (intsOf s.heap)) E p q st Q ?_ ?_ hk h
 ·obtain ⟨x,o,xs,n,e,ho,hc,hd,hi⟩:=t.ex;exact ⟨List.mem_map_of_mem m1,x,o,xs,n,e,k _ _ ho,hd,by rw[t.ints];exact hi⟩
 ·obtain ⟨x,o,xs,n,e,ho,hc,hd,hi⟩:=u.ex;exact ⟨List.mem_map_of_mem m2,x,o,xs,n,e,k _ _ ho,hd,by rw[u.ints];exact hi⟩
theorem zoq{h':Heap}{vs:List Value}(ht:∀ v∈vs,∃ l,TupAt s.heap v l)(hv:0<vs.length)(k:∀ b o,s.heap.get? b=some o->h'.get? b=some o)(Q:SortKind->Shared->Prop)(E:Value->Shared->Prop)(q:Q (tuples' true) { s with heap:=h' }):wpAny (model prog w) A (keyKind' vs.toArray) Q E { s with heap:=h' }:=by
 obtain ⟨fs,h1,h2',h3⟩:=zrO (h:=h') (vs:=vs) λv hv=>by obtain ⟨l,t⟩:=ht v hv;exact ⟨l,t.keep k⟩
 exact kat_kind (s:={ s with heap:=h' }) (T:=.type "int") h1 xwo (λv hv=>by obtain ⟨a,t,rfl⟩:=h3 v hv;exact Looks.of_pure rfl) rfl q
theorem zsi{h:Heap}{vs:List Value}{out:Array Keyed}(pm:out.Perm (pairsOf vs))(ht:∀ v∈vs,∃ l,TupAt h v l)(so:SIn (rkT h vs) out 0 vs.length):(out.map (·.2)).toList.Perm vs/\(out.map (·.2)).toList.Pairwise (λa b=>lxB (intsOf h b) (intsOf h a)=false):=by
 have hs:out.size=vs.length:=by rw[pm.size_eq];exact pairsOf_size vs
 have hp:(out.map (·.2)).toList.Perm vs:=by have:=zjI (·.2) pm;rw[<- Array.toList_map,<- Array.toList_map,zj9] at this;exact this
 have hm:∀ x∈out.toList,PT h vs x:=λx hx=>zoF ht x ((Array.perm_iff_toList_perm.mp pm).mem_iff.mp hx);refine ⟨hp,?_⟩;rw[List.pairwise_iff_getElem];intro i j hi hj hij;rw[Array.length_toList,Array.size_map] at hi hj;simp only[Array.getElem_toList,Array.getElem_map];have e1:=hm out[i] (Array.getElem_mem_toList hi);have e2:=hm out[j] (Array.getElem_mem_toList hj);rw[e1.2.1,e2.2.1];have:=so i j (Nat.zero_le _) (Nat.le_of_lt hij) xwo;unfold rk at this;rw[Array.getElem?_eq_getElem hi,Array.getElem?_eq_getElem hj] at this;have r:=znC (Ls:=vs.map (intsOf h)) (List.mem_map_of_mem (f:=intsOf h) e2.1) (List.mem_map_of_mem (f:=intsOf h) e1.1);rw[<- r];unfold rkT at this;dsimp only at this;exact waw xwo
theorem zr3{α:Type}{R:α->α->Prop}:∀{vs:List α},vs.length<2->vs.Pairwise R
 |[],_=>.nil
 |[a],_=>by simp
 |a::b::r,h=>by simp at h;omega
theorem sorted_tups{l:Addr}{vs:List Value}{Q:Value->Shared->Prop}(hl:s.heap.IsList l vs.toArray)(hz:vs.length<=sizeLine)(ht:∀ v∈vs,∃ l,TupAt s.heap v l)
  (h:∀ out:List Value,out.Perm vs->out.Pairwise (λa b=>lxB (intsOf s.heap b) (intsOf s.heap a)=false)->Q (.ref (s.heap.objs.size+1)) { s with heap:=sortedAll s.heap vs out.toArray }) :
  wpAny (model prog w) A (call (.builtin "sorted") [.ref l]) Q E s:=by
 by_cases h2:vs.length<2
 ·exact znf hl h2 (h vs (.refl _) (zr3 h2))
 ·refine zj0 (kd:=tuples' true) (r:=rkT s.heap vs) (PK:=PT s.heap vs) hl xwo hz (λA h' k Q E q=>zoq ht xwo k Q E q) (λh' k=>zuF k) (zoF ht) λout pm so=>?_;obtain ⟨h3,h4⟩:=zsi pm ht so;have:=h _ h3 h4;rwa [Array.toArray_toList] at this
end
end Ts
end
section
namespace PV
open PySem PySem.Spec L2
def leL(a b:List Int):Bool:=!Ts.lxB b a
def ztJ(a:List Int):List (List Int)->List (List Int)
 |[]=>[a]
 |b::r=>if leL a b=true then a::b::r else b::ztJ a r
def zfo:List (List Int)->List (List Int)
 |[]=>[]
 |a::r=>ztJ a (zfo r)
theorem zgL(a:List Int):∀ l:List (List Int),(ztJ a l).Perm (a::l)
 |[]=>.refl _
 |b::r=>by
  unfold ztJ;split
  ·exact .refl _
  ·exact ((zgL a r).cons b).trans (.swap a b r)
theorem zbb:∀ l:List (List Int),(zfo l).Perm l
 |[]=>.refl _
 |a::r=>(zgL a _).trans ((zbb r).cons a)
theorem zvr{a b c:List Int}(h:leL a b=true)(h':leL b c=true):leL a c=true:=by
 unfold leL at *;rw[Bool.not_eq_true'] at *;cases e:Ts.lxB c a with
 |false=>rfl
 |true =>
  cases e1:Ts.lxB a b with
  |true=>rw[Ts.lxB_tr e e1] at h';cases h'
  |false =>
   rw[Ts.lxB_tot e1 h] at e;rw[e] at h';cases h'
theorem zs2{a b:List Int}(h:leL a b=false):leL b a=true:=by
 unfold leL at *;rw[Bool.not_eq_false'] at h;rw[Bool.not_eq_true'];cases e:Ts.lxB a b with
 |false=>rfl
 |true=>exact absurd (Ts.lxB_tr e h) (by rw[Ts.lxB_irr];simp)
theorem zqp{a b:List Int}(h:leL a b=true)(h':leL b a=true):a=b:=by unfold leL at *;rw[Bool.not_eq_true'] at *;exact Ts.lxB_tot h' h
theorem zlU(a:List Int):∀ l:List (List Int),l.Pairwise (λx y=>leL x y=true)->(ztJ a l).Pairwise (λx y=>leL x y=true)
 |[],_=>by simp[ztJ]
 |b::r,h=>by
  unfold ztJ;rw[List.pairwise_cons] at h;split
  ·rename_i z;refine List.pairwise_cons.mpr ⟨λx hx=>?_,List.pairwise_cons.mpr h⟩;rcases wap.mp hx with rfl|hx
   ·exact z
   ·exact zvr z (h.1 x hx)
  ·rename_i z;refine List.pairwise_cons.mpr ⟨λx hx=>?_,zlU a r h.2⟩;rcases wap.mp ((zgL a r).mem_iff.mp hx) with rfl|hx
   ·exact zs2 (by simpa using z)
   ·exact h.1 x hx
theorem zch:∀ l:List (List Int),(zfo l).Pairwise (λx y=>leL x y=true)
 |[]=>.nil
 |a::r=>zlU a _ (zch r)
theorem zeH:∀{l m:List (List Int)},l.Perm m->l.Pairwise (λx y=>leL x y=true)->m.Pairwise (λx y=>leL x y=true)->l=m
 |[],m,p,_,_=>by rw[p.symm.eq_nil]
 |a::l,[],p,_,_=>by have:=p.length_eq;simp at this
 |a::l,b::m,p,h,k=>by
  rw[List.pairwise_cons] at h k;have ab:a=b:=by
   have h1:leL a b=true:=by
    rcases wap.mp (p.mem_iff.mpr (wau:b∈b::m)) with e|e
    ·subst e;unfold leL;rw[Ts.lxB_irr];rfl
    ·exact h.1 b e
   have h2:leL b a=true:=by
    rcases wap.mp (p.mem_iff.mp (wau:a∈a::l)) with e|e
    ·subst e;unfold leL;rw[Ts.lxB_irr];rfl
    ·exact k.1 a e
   exact zqp h1 h2
  subst ab;rw[zeH (List.Perm.cons_inv p) h.2 k.2]
def zr6(K:W.Frag):List V->Hp->VK->Prop:=λxs H Q=>∃(p:Addr)(ps:List (Addr×List Int)),xs=[.ref p]/\SqL K H p (ps.map λq=>V.ref q.1)/\(∀ q∈ps,SqT K H q.1 (q.2.map V.int)/\q.2≠[]) /\
 ∀ ps':List (Addr×List Int),ps'.Perm ps->ps'.map (·.2)=zfo (ps.map (·.2))->∀ l,H l=none->Q (.ref l) (upd H l (.lst (ps'.map λq=>V.ref q.1)))
theorem zgX:∀{as:List Addr}{us:List Value},zaR (as.map V.ref) us->us=as.map Value.ref
 |[],_,.nil=>rfl
 |a::as,_,.cons h t=>by cases h;rw[zgX t];rfl
theorem zdN:∀(as:List Addr),zaR (as.map V.ref) (as.map Value.ref)
 |[]=>.nil
 |a::as=>.cons rfl (zdN as)
theorem ztZ:∀{ns:List Int}{us:List Value},zaR (ns.map V.int) us->Ts.IL us ns
 |[],_,.nil=>.nil
 |n::ns,_,.cons ⟨t,h⟩ r=>by subst h;exact .cons (ztZ r)
theorem zng{X:Cx}:zcd X (.builtin "sorted") (zr6 X.K):=by
 intro pS s Y H xs us Q I r h;obtain ⟨p,ps,rfl,hq,ht,q⟩:=h;obtain ⟨u,rfl,ru⟩:=zcG r;cases ru;obtain ⟨its,rv,pl,hz⟩:=I.list hq;have e0:(ps.map λq=>V.ref q.1)=(ps.map (·.1)).map V.ref:=by rw[List.map_map];rfl
 rw[e0] at rv;have ei:=zgX rv;have tup:∀ q∈ps,Ts.TupAt s.heap (.ref q.1) q.2:=λq hq'=>by obtain ⟨h1,h2⟩:=ht q hq';obtain ⟨its',rv',⟨o,ho,hc,n,hd⟩,hz'⟩:=I.tuple h1;exact ⟨⟨q.1,o,its'.toArray,n,rfl,ho,hc,hd,by simpa using ztZ rv'⟩,h2⟩
 have hlen:its.length<=sizeLine:=by rw[<- rv.length];rw[List.length_map] at hz;simpa using hz
 refine Ts.sorted_tups pl.isList hlen (λv hv=>?_) λout pm so=>?_
 ·rw[ei,List.map_map] at hv;obtain ⟨q,h1,rfl⟩:=List.mem_map.mp hv;exact ⟨q.2,tup q h1⟩
 ·let back:Value->Addr×List Int:=λv=>(match v with|.ref a=>a|_=>0,Ts.intsOf s.heap v)
  have eb:its.map back=ps:=by
   rw[ei,List.map_map,List.map_map];have:∀ q∈ps,((back ∘ Value.ref) ∘ λx=>x.1) q=q:=λq hq'=>by show (q.1,Ts.intsOf s.heap (.ref q.1))=q;rw[(tup q hq').ints]
   calc _=ps.map id:=List.map_congr_left this
    _=ps:=List.map_id _
  have pm':(out.map back).Perm ps:=by rw[<- eb];exact pm.map back
  have eo:out=((out.map back).map (·.1)).map Value.ref:=by
   rw[List.map_map,List.map_map];have:∀ v∈out,v=((Value.ref ∘ λx=>x.1) ∘ back) v:=λv hv=>by have hv':=pm.mem_iff.mp hv;rw[ei,List.map_map] at hv';obtain ⟨q,h1,rfl⟩:=List.mem_map.mp hv';rfl
   calc out=out.map id:=(List.map_id _).symm
    _=_:=List.map_congr_left this
  have es:(out.map back).map (·.2)=zfo (ps.map (·.2)):=by refine zeH ((pm'.map _).trans (zbb _).symm) ?_ (zch _);rw[List.map_map,List.pairwise_map];refine so.imp λ{a b} hab=>?_;show leL (Ts.intsOf s.heap a) (Ts.intsOf s.heap b)=true;unfold leL;rw[hab];rfl
  obtain ⟨c,hc⟩:=PyProof.Rows.sortedAll_at s.heap its out.toArray;refine ⟨.ref (s.heap.objs.size+1),_,I.laid (t':=s.toks) (λb o=>PyProof.Rows.sortedAll_old) (Nat.le_succ _) (o:=.lst ((out.map back).map λq=>V.ref q.1)) ⟨?_,out,c,?_,?_⟩,rfl,q _ pm' es _ (I.hok.fresh (Nat.le_succ _))⟩
  ·rw[List.length_map,List.length_map,pm.length_eq];exact hlen
  ·have e1:((out.map back).map λq=>V.ref q.1)=((out.map back).map (·.1)).map V.ref:=by rw[List.map_map,List.map_map,List.map_map];rfl
   have e2:=zdN ((out.map back).map (·.1));rw[<- eo] at e2;rw[e1];exact e2
  ·simpa using hc
def zqa:List Dt->Option (List (List Int))
 |[]=>some []
 |.tup x::r=>match zh1 x,zqa r with
  |some (a::l),some ls=>some ((a::l)::ls)
  |_,_=>none
 |_=>none
def zwm(l:List Int):Dt:=.tup (l.map .int)
def zfj:List Dt->R (List Dt)
 |[.lst l]=>match zqa l with
  |some ls=>.ok ((zfo ls).map zwm)
  |none=>.no
 |_=>.no
theorem zgu{K:W.Frag}{G:Hp}:∀{ds:List Dt}{vs:List V}{ls:List (List Int)},za2 K G ds vs->zqa ds=some ls->∃ ps:List (Addr×List Int),vs=(ps.map λq=>V.ref q.1)/\ps.map (·.2)=ls/\∀ q∈ps,zhT K G q.1 (q.2.map V.int)/\q.2≠[]
 |[],_,ls,h,e=>by rw[h.nil_inv];simp[zqa] at e;subst e;exact ⟨[],rfl,rfl,xws⟩
 |d::r,_,ls,h,e=>by
  obtain ⟨v,t,rfl,h1,h2⟩:=h.cons_inv;unfold zqa at e;split at e
  ·rename_i e0;cases e0
  ·rename_i x r' e0;cases e0;split at e
   ·rename_i a l ls' e1 e2;cases e;obtain ⟨ps,q1,q2,q3⟩:=zgu h2 e2;obtain ⟨ad,us,rfl,m1,m2⟩:=zcU h1;rw[ze4 m2 e1] at m1;refine ⟨(ad,a::l)::ps,by rw[q1];rfl,by rw[List.map_cons,q2],λq hq=>?_⟩;rcases wap.mp hq with rfl|hq
    ·exact ⟨m1,xws⟩
    ·exact q3 q hq
   ·cases e
  ·cases e
theorem zg1{K:W.Frag}{G:Hp}:∀{ps:List (Addr×List Int)},(∀ q∈ps,zhT K G q.1 (q.2.map V.int)/\q.2≠[])->za2 K G ((ps.map (·.2)).map zwm) (ps.map λq=>V.ref q.1)
 |[],_=>za2.nil
 |q::ps,h=>by refine za2.cons ?_ (zg1 λz hz=>h z (wah _ hz));unfold zwm Rep;exact ⟨q.1,_,rfl,(h q wau).1,zdC _⟩
theorem zqc{K:W.Frag}:FnN K (zr6 K) zfj:=λG H vs ds z Q gh hr e k=>by
 unfold zfj at e;split at e
 ·split at e
  ·rename_i ls el;obtain ⟨v,rfl,h1⟩:=zdu hr;obtain ⟨a,us,rfl,h2,h3⟩:=zaK h1;cases e;obtain ⟨ps,e1,e2,e3⟩:=zgu h3 el;subst e1;refine ⟨a,ps,rfl,SqL.of (gh _ _ h2),λq hq=>⟨zaE gh (e3 q hq).1.sq,(e3 q hq).2⟩,λps' pm es l hl=>k l _ hl ?_⟩;rw[<- e2,<- es];exact zg1 λq hq=>e3 q (pm.mem_iff.mp hq)
  ·cases e
 ·cases e
theorem zpX:ziO zfj:=λx n h=>by
 unfold zfj at h;split at h
 ·split at h <;> cases h
 ·cases h
section
variable{X:Cx}{C:Cn}{fa:De}{pos:Pos}
theorem zq2{x:Expr}{p:Pos}(hg:Gl X "sorted")(hm:X.mg "sorted"=none)(ha:JE X C x fa)(hs:starEach [x] X.env=(false,eval x X.env)::starEach [] X.env:=by rfl)(hpl:(backTo pos (starEach [] X.env)).any (·.1)=false:=by rfl) :
  JN X C (.Call (.Name "sorted" p) [x] [] pos) (zf9 zfj (dA fa dA0)) :=
 zij zqc zpX zng hg hm PyProof.Rows.boot_sorted (zax ha zaC hs) xwd xwd hs hpl
end
end PV
end
section
namespace PV
open PySem PySem.Spec L2 PyProof.Rows
open AutoSeq1 (wpAny_loadPart')
section
variable{M:Model}{A:Around}{E:Value->Shared->Prop}{s:Shared}{env:Env}
theorem zv1{pos:Pos}{T:String}{args:List (Bool×Sem Value)}{keywords:List (Option Str×Sem Value)}{Q:Value->Shared->Prop}(hp:args.any (·.1)=false)(hk:keywords.any (·.1.isNone)=false)
  (h:wpAny M A (evalArgs (.type T) true args keywords) (λa s1=>wpAny M A (call (.type T) a.pos a.kw) Q E s1) E s):wpAny M A (callWith pos (.type T) [] args keywords) Q E s:=by
 unfold callWith;refine wab (wpAny_holding (wpAny_mono h (λa s1 h1=>wab (wpAny_standAt ?_)) λ_ _ x=>x));simp only[hp,hk,Bool.or_false];exact wab (wad (wab (wpAny_mono h1 (λr s2 hr=>wab (wpAny_holding (wpAny_point (wad hr)))) λ_ _ x=>x)))
end
section
variable{prog:Program}{w:World}{A:Around}{E:Value->Shared->Prop}{s:Shared}
theorem ztg{T newId:String}{Bn:Builtin}{args:List Value}{kw:List (Str×Value)}{S:PySem.Spec}{Q:Value->Shared->Prop}(ft:TypeCalled T newId "object.__init__")
  (hct:checkTypeCall T ⟨args,kw⟩=pure ()) (hcn:checkBuiltinCall newId ⟨.type T::args,kw⟩=pure ()) (hok:∀ obj,argsOk "object.__init__" ⟨obj::args,kw⟩) (en:entryFor table newId=some Bn) (g:Meets (Bn ⟨.type T::args,kw⟩) S)
  (gi:∀ obj,Meets (Builtin.«object.__init__» ⟨obj::args,kw⟩) (λ_ R s=>s.TypeIs obj T/\R (.ok (.ret .none)) s))
  (h:S A.in1 (wants (λobj s1=>s1.TypeIs obj T/\Q obj s1) E) s):wpAny (model prog w) A (call (.type T) args kw) Q E s:=by
 obtain ⟨c,tl,hmro⟩:=ft.mro;have hmade:=ft.made;have hsub:=ft.sub;have h1:=ft.notType;have h2:=ft.canCreate;refine wpAny_call (codeAny_of_tree (show wpAny _ _ (callAny (.type T) _) _ _ _ from wad ⟨Code.quiet_builtin _ xwD,codeAny_builtin F.entry_type_call ?_⟩));rw[Around.under_plain (weight_type_call_type T args kw) (units_type_call_type T args kw)]
 repeat (any_goals (first|assumption|wp_step|fail))
 refine codeAny_mono (codeAny_call_builtin ft.plain en (wpAny_of_eq hcn (g prog w A.in1 _ s h))) λr t hr=>?_;cases r with
 |error e=>exact hr
 |ok fl =>
  cases fl with
  |ret obj =>
   obtain ⟨hT,hq⟩:=hr;have hli:=ft.init.lookup;have hbi:=ft.init.bind obj
   repeat (any_goals (first|assumption|wp_step|fail))
   refine codeAny_mono (codeAny_call_builtin ft.init.plain F.entry_object_init (ft.init.check _ _ _ _ _ _ _ _ hT (hok obj) (gi obj prog w A.in1 (wants (λr s2=>r=.none/\Q obj s2) E) t ⟨hT,rfl,hq⟩))) λr2 t2 hr2=>?_;cases r2 with
   |error e=>exact hr2
   |ok fl2 =>
    cases fl2 with
    |ret r =>
     obtain ⟨rfl,hq⟩:=hr2
     repeat (any_goals (first|assumption|wp_step|fail))
    |_=>exact hr2.elim
  |_=>exact hr.elim
theorem zp4(a:Value)(t:Tok):checkTypeCall "enumerate" ⟨[a],[(Str.ofString "start",.int 1 t)]⟩=pure ():=by kernel_rfl
theorem zsE(a:Value)(t:Tok):checkBuiltinCall "enumerate.__new__" ⟨[.type "enumerate",a],[(Str.ofString "start",.int 1 t)]⟩=pure ():=by kernel_rfl
theorem zrh(obj a:Value)(t:Tok):argsOk "object.__init__" ⟨[obj,a],[(Str.ofString "start",.int 1 t)]⟩:=by unfold argsOk;first|kernel_rfl|(rw[signature?_of (id:="object.__init__") (n:=['_','_','t','i','n','i','_','_']) (o:=['t','c','e','j','b','o']) xwk F.owner_object];kernel_rfl)
theorem zth(obj a:Value)(t:Tok):Meets (Builtin.«object.__init__» ⟨[obj,a],[(Str.ofString "start",.int 1 t)]⟩) (λ_ R s=>s.TypeIs obj "enumerate"/\R (.ok (.ret .none)) s):=by
 have hl:=F.called_enumerate.init.lookup;have hm:=F.called_enumerate.made;have hne:(some "enumerate.__new__" != some "object.__new__")=true:=by decide
 refine Meets.of_wp λprog w A R s hs=>?_;obtain ⟨hT,hq⟩:=hs
 repeat (any_goals (first|assumption|wp_step|fail))
 exact ⟨_,rfl,hq⟩
theorem zns(l:Addr)(items:Array Value)(n:Nat)(dct:Option Addr)(sl:Array (Option Value))(t:Tok) :
  Meets (Builtin.«enumerate.__new__» ⟨[.type "enumerate",.ref l],[(Str.ofString "start",.int 1 t)]⟩) (λ_ R s=>s.heap.get? l=some { cls:=.type "tuple",dict:=dct,data:=.seq items n,slots:=sl } /\
   R (.ok (.ret (.ref (s.heap.push { cls:=.type "tuple_iterator",data:=.fields #[.ref l,.int 0 0] }).objs.size)))
    { s with heap:=(s.heap.push { cls:=.type "tuple_iterator",data:=.fields #[.ref l,.int 0 0] }).push { cls:=.type "enumerate",data:=.fields #[.none,.bool false,.ref s.heap.objs.size,rawInt 1,.none,.none] } }) :=
 .of_wp λprog w A R s h=>by
  obtain ⟨hp,g,d,tk,os⟩:=s;obtain ⟨hl,h⟩:=h;have hsub:=sub_enumerate;have hL:Heap.IsTuple (Shared.heap ⟨hp,g,d,tk,os⟩) l items:=⟨_,hl,rfl,n,rfl⟩
  wp_walk using wpAny_loadPart' hl
  refine wpAny_stack_any λst=>wad ?_;split
  ·rename_i c _ _ _ _ _;cases (c == Value.type "enumerate")
   ·wp_walk using wpAny_loadPart' hl,wpAny_pyIter_tuple hL
    exact ⟨_,rfl,h⟩
   ·wp_walk using wpAny_loadPart' hl,wpAny_pyIter_tuple hL
    exact ⟨_,rfl,h⟩
  ·wp_walk using wpAny_loadPart' hl,wpAny_pyIter_tuple hL
   exact ⟨_,rfl,h⟩
end
end PV
end
section
namespace PV
open PySem PySem.Spec L2
theorem zjX{prog:Program}{w:World}{A:Around}(hh:A.handled=none)(it l:Addr)(hne:l≠it)(items:Array Value) :
  Draws prog w A it [it,l] (items.size+1) (λi v=>items[i-1]? = some v) (λi h=>1<=i/\h.IsTupleIter it l (i-1)/\h.IsTuple l items) where
 live:=λ_ _ st=>let ⟨o,ho,_⟩:=st.2.1;⟨o,ho⟩
 frame:=λi h h' st hk=>⟨st.1,(ze7 (prog:=prog) (w:=w) hh it l hne items).frame (i-1) h h' st.2 hk⟩
 item:=λi s Q E hi st hQ=>by
  obtain ⟨j,rfl⟩ : ∃ j,i=j+1:=⟨i-1,by have:=st.1;lia⟩
  exact (ze7 hh it l hne items).item j s Q E xwl st.2 λx h' tk p q k=>hQ x h' tk p ⟨Nat.le_add_left 1 _,q⟩ k
 done:=λs Q E st hE=>(ze7 hh it l hne items).done s Q E st.2 hE
theorem znA{prog:Program}{w:World}{A:Around}{E:Value->Shared->Prop}{s:Shared}{e it l:Addr}{i:Nat}{c:Int}{items:Array Value}{old:Value}{Q:Option Value->Shared->Prop}(hh:A.handled=none)(he:IsEnum s.heap e it c old)(hit:s.heap.IsTupleIter it l i)(hl:s.heap.IsTuple l items)(hx:items[i]? = none)
  (hQ:∀ h',Heap.ExtBut it s.heap h'->Q none { s with heap:=h' }):wpAny (model prog w) A (pyNext (.ref e)) Q E s:=by
 have hT:s.TypeIs (.ref e) "enumerate":=⟨_,he,rfl⟩
 unfold pyNext;refine wab (wpAny_attempt (wpAny_callSpecial?_slot (name:=Str.ofString "__next__") hT F.slot_enumerate_next (wpAny_call_entry F.slot_enumerate_next hT F.entry_enumerate_next ?_ (F.args_enumerate_next_1 _))));show wpAny _ _ (field (.ref e) 2 >>= _) _ _ _;refine wab (wpAny_field he rfl (x:=.ref it) rfl (wab (znM (show A.in1.handled=none from hh) hit hl hx λh' x he' hx'=>?_)));obtain ⟨o,ho,hc⟩:=hx';exact wab (wpAny_isInstance (T:="StopIteration") (b:=true) ⟨o,ho,hc⟩ isSubtype_stop (wad (hQ _ he')))
def zk3(ds:List Dt):List Dt:=(List.range ds.length).zip ds |>.map λp=>.tup [.int ((p.1+1:Nat):Int),p.2]
theorem zd1{prog:Program}{w:World}{A:Around}{E:Value->Shared->Prop}{s:Shared}{l:Addr}{items:Array Value}{t:Tok}{Q:Value->Shared->Prop}(hL:s.heap.IsTuple l items)
  (h:∀ h',IsEnum h' (s.heap.objs.size+1) s.heap.objs.size 1 .none->h'.IsTupleIter s.heap.objs.size l 0->h'.objs.size=s.heap.objs.size+2 ->
   (∀ b o,s.heap.get? b=some o->h'.get? b=some o)->Q (.ref (s.heap.objs.size+1)) { s with heap:=h' }) :
  wpAny (model prog w) A (call (.type "enumerate") [.ref l] [(Str.ofString "start",.int 1 t)]) Q E s:=by
 obtain ⟨⟨c,dct,dt,sl⟩,hl,hc,n,hd⟩:=hL;replace hc:c=.type "tuple":=hc;replace hd:dt=.seq items n:=hd;subst hc hd;refine ztg F.called_enumerate (zp4 _ t) (zsE _ t) (λobj=>zrh obj _ t) F.entry_enumerate_new (zns l items n dct sl t) (λobj=>zth obj _ t) ⟨hl,?_⟩;have hz:(s.heap.push { cls:=.type "tuple_iterator",data:=.fields #[.ref l,.int 0 0] }).objs.size=s.heap.objs.size+1:=Heap.size_push ..;show _/\_;rw[hz];have he:IsEnum ((s.heap.push { cls:=.type "tuple_iterator",data:=.fields #[.ref l,.int 0 0] }).push
   { cls:=.type "enumerate",data:=.fields #[.none,.bool false,.ref s.heap.objs.size,rawInt 1,.none,.none] }) (s.heap.objs.size+1) s.heap.objs.size 1 .none:=by
  have:=waj (s.heap.push { cls:=.type "tuple_iterator",data:=.fields #[.ref l,.int 0 0] })
   (o:={ cls:=.type "enumerate",data:=.fields #[.none,.bool false,.ref s.heap.objs.size,rawInt 1,.none,.none] }) rfl
  rw[hz] at this;exact this
 refine ⟨⟨_,he,rfl⟩,h _ he ⟨_,waa _ (waj _ rfl),rfl,rfl⟩ (by rw[Heap.size_push,hz]) λb o x=>waa _ (waa _ x)⟩
def zwy(K:W.Frag)(a:Addr):It :=
 ⟨λi H=>∃ xs x,SqT K H a xs/\xs[i]? = some x,
   λi H v H'=>∃ p x,v=.ref p/\H p=none/\H'=upd H p (.tup [.int ((i+1:Nat):Int),x])/\∀ xs,SqT K H a xs->xs[i]? = some x,
   λi H=>∃ xs,SqT K H a xs/\xs.length<=i⟩
structure EpU(h:Heap)(e it l:Addr)(i:Nat):Prop where
 e:∃ old,IsEnum h e it ((i+1:Nat):Int) old
 a:h.IsTupleIter it l i
theorem EpU.keep{h h':Heap}{e it l:Addr}{i:Nat}(p:EpU h e it l i)(k:∀ b∈[e,it],∀ o,h.get? b=some o->h'.get? b=some o):EpU h' e it l i :=
 ⟨let ⟨old,q⟩:=p.e;⟨old,k e xws _ q⟩,p.a.at λo q=>k it xws o q⟩
theorem zni{P:Program}{w:World}{K:W.Frag}{elts:List Expr}{x1}{ps:Pos}{a e it:Addr}(hne:e≠it):zqk P w K (.Tuple elts x1 ps) (zwy K a) [e,it] e (λi h=>EpU h e it a i) where
 mem:=by simp
 obj:=λi h st c hc=>by
  obtain ⟨⟨old,s1⟩,⟨o4,s4,_,d4⟩⟩:=st;simp only[wap,wak,or_false] at hc;rcases hc with rfl|rfl
  ·exact ⟨_,s1,λv q=>by cases q⟩
  ·exact ⟨_,s4,λv q=>by rw[d4] at q;cases q⟩
 keep:=λi h h' st k=>st.keep k
 item:=by
  intro X hP hw hK hc i pS s Y H E I hf st hg;subst hP hw hK;obtain ⟨xs,x,q1,hx⟩:=hg;obtain ⟨its,rv,p,hz⟩:=I.tuple q1;obtain ⟨u,hu,ru⟩:=rv.get hx;obtain ⟨old,he⟩:=st.e;have D:=zjX (prog:=X.prog) (w:=X.w) (A:=X.A.in1) (I.ok.hd hc) it a (Ne.symm (zuu I (hf it xws) q1)) its.toArray;refine wpAny_pyNext_enum_itemD (i:=i+1) D he ⟨Nat.le_add_left 1 i,st.a,show s.heap.IsTuple a its.toArray from p⟩ (by simpa using (wam.mp hu).1) hne (by simp[hne,zuu I (hf e xws) q1]) λx' h' tk hP a1 a2 a3 a4 a5=>?_;have ex:x'=u:=by have h9:its.toArray[i]? = some x':=hP;rw[show its.toArray[i]? = some u by simpa using hu] at h9;exact (waA h9).symm
  subst ex;refine ⟨_,rfl,wpAny_letOwnedTupleGo_enum a1 λh2 he2 sb=>?_⟩;have hel:e<s.heap.objs.size:=wai he;have hitl:it<s.heap.objs.size:=by obtain ⟨o,ho,_⟩:=st.a;exact wai ho
  have hzp:∀ c∈[e,it],c≠s.heap.objs.size:=λc hc q=>by
   simp only[wap,wak,or_false] at hc;rcases hc with rfl|rfl
   ·exact absurd (q ▸ hel) (waL _)
   ·exact absurd (q ▸ hitl) (waL _)
  have st2:EpU h2 e it a (i+1):=⟨⟨_,he2⟩,a2.2.1.extBut sb.extBut (Ne.symm hne)⟩
  have hk2:∀ c ob,c∉[e,it]->s.heap.get? c=some ob->h2.get? c=some ob:=λc ob nc q=>by simp only[wap,wak,or_false,not_or] at nc;exact sb.extBut _ _ nc.1 (a5 c ob nc.1 nc.2 q)
  have hth:∀ c ob,s.heap.get? c=some ob->∃ ob',h2.get? c=some ob':=λc ob q=>by
   by_cases nc:c∈[e,it]
   ·simp only[wap,wak,or_false] at nc;obtain ⟨⟨o1,s1⟩,⟨o4,s4,_⟩⟩:=st2;rcases nc with rfl|rfl
    ·exact ⟨_,s1⟩
    ·exact ⟨_,s4⟩
   ·exact ⟨ob,hk2 c ob nc q⟩
  have hnew:h2.get? s.heap.objs.size=some { cls:=.type "tuple",data:=.seq #[.int ((i+1:Nat):Int) tk,x'] }:=sb.extBut _ _ (Ne.symm (hzp e xws)) a3;have IN:L2.Inv X pS Y (upd H s.heap.objs.size (.tup [.int ((i+1:Nat):Int),x])) { s with heap:=h2,toks:=tk+1 }:=zk1 (s:=s) (t':=tk+1) (o:=.tup [.int ((i+1:Nat):Int),x]) I hf hk2 (wal _) hth ⟨by show 2<=sizeLine;decide,[.int ((i+1:Nat):Int) tk,x'],.cons ⟨_,rfl⟩ (.cons ru .nil),0,hnew⟩;exact ⟨.ref s.heap.objs.size,_,IN,rfl,
   ⟨_,x,rfl,I.hok.fresh (wal _),rfl,λzs q=>by rw[I.tuple_inj q q1];exact hx⟩,st2,λc hc=>by rw[zar (hzp c hc)];exact (hf c hc).1⟩
 done:=by
  intro X hP hw hK hc i pS s Y H E I hf st hg;subst hP hw hK;obtain ⟨xs,q1,hx⟩:=hg;obtain ⟨its,rv,p,hz⟩:=I.tuple q1;have hl:=rv.length;obtain ⟨old,he⟩:=st.e;have hge:its.toArray.size<=i:=by simp;lia
  refine znA (I.ok.hd hc) he st.a (show s.heap.IsTuple a its.toArray from p) (by simp;lia) λh' hk=>⟨rfl,?_⟩
  refine zgW (t':=s.toks) I hf λc ob nc q=>?_;simp only[wap,wak,or_false,not_or] at nc;exact hk c ob nc.2 q
 self:=λ_ _ _ _ _ st h=>let ⟨_,he⟩:=st.e;wpAny_pyIter_enum he h
def zhM(fa:De):DA:=λZ=>(fa Z).bind λa=>match a.1 with
 |.tup l=>.ok (zk3 l,a.2)
 |_=>.no
theorem zsw{K:W.Frag}{G:Hp}{a:Addr}{vs:List V}{ds:List Dt}(hs:SqT K G a vs)(q:za2 K G ds vs):zoZ K (zwy K a) G (zk3 ds):=λi G1 H s1 s2=>by
 have h1:SqT K H a vs:=zaE s2 (zaE s1 hs);refine ⟨λd e=>?_,λh=>⟨vs,h1,?_⟩⟩
 ·unfold zk3 at e;rw[List.getElem?_map] at e;have hi:i<ds.length:=by
   by_cases hi:i<ds.length
   ·exact hi
   ·rw[List.getElem?_eq_none (by rw[List.length_zip,List.length_range];lia)] at e;cases e
  have z1:(List.range ds.length)[i]? = some i:=by simp[hi]
  have z2:ds[i]? = some ds[i]:=by simp[hi]
  obtain ⟨v,e1,e2⟩:=q.get z2;have ed:d=.tup [.int ((i+1:Nat):Int),ds[i]]:=by rw[(List.getElem?_zip_eq_some (z:=(i,ds[i]))).mpr ⟨z1,z2⟩] at e;exact (waA e).symm
  refine ⟨⟨vs,v,h1,e1⟩,λx H' y=>?_⟩;obtain ⟨p,x',rfl,hp,rfl,k1⟩:=y;have kx:=k1 vs h1;rw[e1] at kx;cases kx;have gr:zeF G1 H (upd G1 p (.tup [.int ((i+1:Nat):Int),v])) (upd H p (.tup [.int ((i+1:Nat):Int),v])):=.new s2 hp;refine ⟨_,gr,?_⟩;rw[ed];unfold Rep;exact ⟨p,[.int ((i+1:Nat):Int),v],rfl,zhT.of za1,za2.cons (zaz _) (za2.cons ((e2.same s1).same gr.g) za2.nil)⟩
 ·rw[<- q.length];unfold zk3 at h;simpa using h
section
variable{X:Cx}{C:Cn}{elts:List Expr}{x1:Nat}{pt:Pos}{a:Expr}{fa:De}{p pos:Pos}
theorem zqN{cj:Nat}{cp kp:Pos}(hg:Gl X "enumerate")(hm:X.mg "enumerate"=none)(ha:JE X C a fa)(hs:starEach [a] X.env=(false,eval a X.env)::starEach [] X.env:=by rfl)(he:backTo pos (starEach [a] X.env)=(false,eval a X.env)::backTo pos (starEach [] X.env):=by rfl)(hplain:(backTo pos (starEach [a] X.env)).any (·.1)=false:=by rfl)
  (hall:(backToKw pos (keywordEach [⟨some "start",.Constant (.int 1) cj cp,kp⟩] X.env)).all (·.1.isSome)=true:=by rfl) (hkw:(backToKw pos (keywordEach [⟨some "start",.Constant (.int 1) cj cp,kp⟩] X.env)).any (·.1.isNone)=false:=by rfl) (hks:(backToKw pos (keywordEach [⟨some "start",.Constant (.int 1) cj cp,kp⟩] X.env)).filterMap (·.1)=[Str.ofString "start"]:=by rfl) :
  JI X C (.Tuple elts x1 pt) (.Call (.Name "enumerate" p) [a] [⟨some "start",.Constant (.int 1) cj cp,kp⟩] pos) (zhM fa):=by
 intro pS s Y H R I ⟨G,w,Z,r,pp⟩;refine wpAny_Call_Name_kw (zdq I hg hm PyProof.Rows.boot_enumerate (zv1 hplain hkw ?_));rw[he];refine PyProof.Rows.evalArgs_kwB hall ?_;rw[<- he];refine thn (zax ha zaC hs pos pS s Y H (λvs H1=>∃(l1:Addr)(xs:List V),vs=[.ref l1]/\SqT X.K H1 l1 xs/\R (zwy X.K l1) H1) I ?_) λus s1 ⟨vs,H1,I1,r1,q1⟩=>?_
 ·refine ⟨G,w,Z,r,?_⟩;unfold zhM at pp;unfold dA dA0;cases e:fa Z with
  |ok x =>
   obtain ⟨d,Z1⟩:=x;rw[e] at pp;simp only[PV.R.bind_ok] at pp ⊢;intro vs G1 H1 w1 s1 r1 q;obtain ⟨v,rfl,k1⟩:=zdu q;cases d with
   |tup l =>
    obtain ⟨a1,xs,rfl,m1,m2⟩:=zb4 k1;exact ⟨a1,xs,rfl,zaE r1.gh m1,pp _ G1 H1 w1 s1 r1 (zsw m1 m2)⟩
   |_=>exact waO pp
  |er n=>rw[e] at pp;exact pp
  |no=>rw[e] at pp;exact pp
 ·obtain ⟨l1,xs,rfl,k1,q⟩:=q1;obtain ⟨u1,rfl,c1⟩:=zcG r1;cases c1;refine thn (zle (nm:=some "start") (kpos:=kp) (znX (i:=1) (j:=cj) (pos:=cp)) znL pos pS s1 Y H1 (λvs H2=>vs=[.int 1]/\H2=H1) I1 ⟨rfl,rfl⟩) λws s2 ⟨zs,H2,I2,r2,e2,eH⟩=>?_;subst e2;subst eH;obtain ⟨uw,rfl,⟨t,rfl⟩⟩:=zcG r2;rw[hks];show wpAny _ _ (call (.type "enumerate") [.ref l1] [(Str.ofString "start",.int 1 t)]) _ _ _;obtain ⟨its,rv,p1,_⟩:=I2.tuple k1;refine zd1 (show s2.heap.IsTuple l1 its.toArray from p1) λh' he hit hz hk=>?_;refine wpAny_pyIter_enum he ?_;refine ⟨s2.heap.objs.size+1,[s2.heap.objs.size+1,s2.heap.objs.size],_,_,_,rfl,I2.kept (t':=s2.toks) hk,zni (by intro h;have h:(s2.heap.objs.size+1:Nat)=s2.heap.objs.size:=h;lia),⟨⟨_,he⟩,hit⟩,λc hc=>?_,q⟩;have hle:s2.heap.objs.size<=c:=by
   simp only[wap,wak,or_false] at hc;rcases hc with rfl|rfl
   ·exact waT ..
   ·exact wal _
  exact I2.fpOk hle (I2.hok.fresh hle)
end
end PV
end
section
namespace PV
open PySem PySem.Spec L2 PyProof.Rows
def zrJ(K:W.Frag):List V->Hp->VK->Prop:=λxs H Q=>∃(p:Addr)(ns:List Int),xs=[.ref p]/\SqL K H p (ns.map V.int)/\ns.length<64/\∀ l,H l=none->Q (.ref l) (upd H l (.lst ((zaT ns).reverse.map V.int)))
theorem zoe{a b:List Int}(h:a.Perm b)(ha:a.Pairwise (· ≥ ·))(hb:b.Pairwise (· <= ·)):a=b.reverse:=by have:a.reverse=b:=W.lks_uniq ((List.reverse_perm a).trans h) (List.pairwise_reverse.mpr ha) hb;rw[<- this,List.reverse_reverse]
section
variable{X:Cx}{C:Cn}{fa:De}{x:Expr}{p pos cp kp:Pos}{cj:Nat}
theorem zqL{ta:TA}(hg:Gl X "sorted")(hm:X.mg "sorted"=none)(ha:PA X [x] ta)(he:backTo pos (starEach [x] X.env)=(false,eval x X.env)::backTo pos (starEach [] X.env):=by rfl)(hplain:(backTo pos (starEach [x] X.env)).any (·.1)=false:=by rfl)
  (hall:(backToKw pos (keywordEach [⟨some "reverse",.Constant (.bool true) cj cp,kp⟩] X.env)).all (·.1.isSome)=true:=by rfl) (hkw:(backToKw pos (keywordEach [⟨some "reverse",.Constant (.bool true) cj cp,kp⟩] X.env)).any (·.1.isNone)=false:=by rfl) (hks:(backToKw pos (keywordEach [⟨some "reverse",.Constant (.bool true) cj cp,kp⟩] X.env)).filterMap (·.1)=[Str.ofString "reverse"]:=by rfl) :
  PE X (.Call (.Name "sorted" p) [x] [⟨some "reverse",.Constant (.bool true) cj cp,kp⟩] pos) (tCB (zrJ X.K) ta):=by
 intro pS s Y H Q I h;refine wpAny_Call_Name_kw (zdq I hg hm boot_sorted (callWith_kw (thn (ha pos pS s Y H _ I h) λus s1 ⟨vs,H1,I1,r1,q1⟩=>?_) he hplain hall hkw));refine thn (zle (nm:=some "reverse") (kpos:=kp) (zuQ (b:=true) (j:=cj) (pos:=cp)) znL pos pS s1 Y H1 (λvs H2=>vs=[.bl true]/\H2=H1) I1 ⟨rfl,rfl⟩) λws s2 ⟨zs,H2,I2,r2,e2,eH⟩=>?_;subst e2;subst eH;obtain ⟨uw,rfl,ru⟩:=zcG r2;cases ru;obtain ⟨q,ns,rfl,hq,hl,k⟩:=q1;obtain ⟨u,rfl,ru⟩:=zcG r1;cases ru;rw[hks];obtain ⟨its,rv,pl,hz⟩:=I2.list hq;have hlen:its.length=ns.length:=by rw[<- rv.length];simp
 refine sorted_ints_rev (b:=true) pl.isList (intsAre_of rv) xwl λout ns' a1 a2 a3=>?_;have e:ns'=(zaT ns).reverse:=zoe (a2.trans (zaB ns).symm) a3 (zcI ns);subst e;obtain ⟨c,hc⟩:=sortedAll_at s2.heap its out;refine ⟨.ref (s2.heap.objs.size+1),_,I2.laid (t':=s2.toks) (λb o=>sortedAll_old) (Nat.le_succ _) (o:=.lst ((zaT ns).reverse.map V.int)) ⟨?_,out.toList,c,vals_ints a1,?_⟩,rfl,k _ (I2.hok.fresh (Nat.le_succ _))⟩
 ·rw[List.length_map,List.length_reverse,(zaB ns).length_eq,zcF];lia
 ·simpa using hc
def zeK:List Dt->R (List Dt)
 |[.lst l]=>match zh1 l with
  |some ns=>if ns.length<64 then .ok ((zaT ns).reverse.map .int) else .no
  |none=>.no
 |_=>.no
theorem zpZ{K:W.Frag}:FnN K (zrJ K) zeK:=λG H vs ds z Q gh hr e k=>by
 unfold zeK at e;split at e
 ·split at e
  ·rename_i ns en;split at e
   ·rename_i hl;obtain ⟨v,rfl,h1⟩:=zdu hr;obtain ⟨a,us,rfl,h2,h3⟩:=zaK h1;cases e;rw[ze4 h3 en] at h2;exact ⟨a,ns,rfl,SqL.of (gh _ _ h2),hl,λl hl=>k l _ hl (zdC _)⟩
   ·cases e
  ·cases e
 ·cases e
theorem zpQ:ziO zeK:=λx n h=>by
 unfold zeK at h;split at h
 ·split at h
  ·split at h <;> cases h
  ·cases h
 ·cases h
theorem zpu(hg:Gl X "sorted")(hm:X.mg "sorted"=none)(ha:JE X C x fa)(hs:starEach [x] X.env=(false,eval x X.env)::starEach [] X.env:=by rfl)(he:backTo pos (starEach [x] X.env)=(false,eval x X.env)::backTo pos (starEach [] X.env):=by rfl)(hplain:(backTo pos (starEach [x] X.env)).any (·.1)=false:=by rfl)
  (hall:(backToKw pos (keywordEach [⟨some "reverse",.Constant (.bool true) cj cp,kp⟩] X.env)).all (·.1.isSome)=true:=by rfl) (hkw:(backToKw pos (keywordEach [⟨some "reverse",.Constant (.bool true) cj cp,kp⟩] X.env)).any (·.1.isNone)=false:=by rfl) (hks:(backToKw pos (keywordEach [⟨some "reverse",.Constant (.bool true) cj cp,kp⟩] X.env)).filterMap (·.1)=[Str.ofString "reverse"]:=by rfl) :
  JN X C (.Call (.Name "sorted" p) [x] [⟨some "reverse",.Constant (.bool true) cj cp,kp⟩] pos) (zf9 zeK (dA fa dA0)) :=
 PE.weak (zqL hg hm (zax ha zaC hs) he hplain hall hkw hks) λY H Q t=>zge zpZ zpQ t
end
end PV
end
section
namespace Tx1
def x5:Nat->Nat
 |0=>0
 |n+1=>5 * x5 n+1
theorem zsa(a:Nat):∀ b,x5 (a+b)=5 ^ b * x5 a+x5 b
 |0=>by simp[x5]
 |b+1=>by rw[Nat.add_succ,x5,zsa a b,x5,Nat.pow_succ,Nat.mul_add,<- Nat.mul_assoc,Nat.mul_comm 5 (5 ^ b),Nat.add_assoc]
theorem zrT:∀ d,x5 d % 2=d % 2
 |0=>rfl
 |d+1=>by have:=zrT d;rw[x5];lia
theorem p5:∀ d,(5 ^ d) % 4=1
 |0=>rfl
 |d+1=>by have:=p5 d;rw[Nat.pow_succ];lia
theorem zrt:∀(k d:Nat),2 ^ k ∣ x5 d->2 ^ k ∣ d
 |0,d,_=>by simp
 |k+1,d,h=>by
  have h2:2 ∣ x5 d:=Nat.dvd_trans (by rw[Nat.pow_succ];exact Nat.dvd_mul_left _ _) h;have hp:=zrT d;have hd:d % 2=0:=by lia
  obtain ⟨e,rfl⟩ : ∃ e,d=e+e:=⟨d / 2,xwl⟩
  rw[zsa] at h;have e4:=p5 e;obtain ⟨m,hm⟩ : ∃ m,5 ^ e+1=2 * (2 * m+1):=⟨5 ^ e / 4,xwl⟩
  have hx:5 ^ e * x5 e+x5 e=2 * ((2 * m+1) * x5 e):=by rw[<- Nat.mul_assoc,<- hm,Nat.add_mul,Nat.one_mul]
  rw[hx,Nat.pow_succ,Nat.mul_comm (2 ^ k) 2] at h;have h3:2 ^ k ∣ (2 * m+1) * x5 e:=Nat.dvd_of_mul_dvd_mul_left xwd h;have hc:Nat.Coprime (2 ^ k) (2 * m+1):=Nat.Coprime.pow_left k (by rw[Nat.coprime_comm];unfold Nat.Coprime;rw[Nat.gcd_comm,Nat.gcd_rec];simp)
  have h4:=zrt k e (hc.dvd_of_dvd_mul_left h3);obtain ⟨c,hc'⟩:=h4;exact ⟨c,by rw[Nat.pow_succ,hc',Nat.mul_assoc,Nat.mul_comm 2 c,<- Nat.mul_assoc,Nat.mul_comm _ 2,Nat.two_mul]⟩
theorem zvP:∀ d,5 ^ d=4 * x5 d+1
 |0=>rfl
 |d+1=>by rw[Nat.pow_succ,zvP d,x5];lia
def it5(M a:Nat):Nat->Nat
 |0=>a
 |r+1=>(it5 M a r * 5+1) % M
theorem zrY{M a:Nat}(ha:a<M):∀ r,it5 M a r=(5 ^ r * a+x5 r) % M
 |0=>by simp[it5,x5,Nat.mod_eq_of_lt ha]
 |r+1=>by rw[it5,zrY ha r,Nat.mul_comm,Nat.add_mod,Nat.mul_mod,Nat.mod_mod,<- Nat.mul_mod,<- Nat.add_mod,Nat.mul_add,x5,Nat.pow_succ,Nat.mul_comm (5 ^ r) 5,Nat.mul_assoc,Nat.add_assoc]
theorem zrQ{M a:Nat}(ha:a<M):∀ r,it5 M a r<M
 |0=>ha
 |r+1=>Nat.mod_lt _ xwl
theorem zkI{M a:Nat}(r:Nat):∀ d,it5 M a (r+d)=it5 M (it5 M a r) d
 |0=>rfl
 |d+1=>by rw[Nat.add_succ,it5,zkI r d,it5]
theorem zpM{k b d:Nat}(hb:b<2 ^ k)(h:it5 (2 ^ k) b d=b):2 ^ k ∣ d:=by
 rw[zrY hb,zvP,show (4 * x5 d+1) * b+x5 d=b+x5 d * (4 * b+1) by rw[Nat.add_mul,Nat.one_mul,Nat.mul_add,Nat.mul_one,Nat.mul_assoc,Nat.mul_left_comm 4,Nat.add_comm _ b,Nat.add_assoc]] at h;have h1:2 ^ k ∣ x5 d * (4 * b+1):=by
  have h2:(b+x5 d * (4 * b+1)) % 2 ^ k=b % 2 ^ k:=by rw[h,Nat.mod_eq_of_lt hb]
  have:=Nat.sub_mod_eq_zero_of_mod_eq h2;rw[Nat.add_sub_cancel_left] at this;exact Nat.dvd_of_mod_eq_zero this
 have hc:Nat.Coprime (2 ^ k) (4 * b+1):=Nat.Coprime.pow_left k (by unfold Nat.Coprime;rw[Nat.gcd_rec,show (4 * b+1) % 2=1 by lia];rfl)
 exact zrt k d (hc.dvd_of_dvd_mul_right h1)
theorem hole:∀(a b:List Nat),a.Nodup->(∀ x∈a,x∈b)->b.length<=a.length->∀ x∈b,x∈a
 |[],b,_,_,hl,x,hx=>by cases b <;> simp at *
 |y::a,b,hn,hs,hl,x,hx=>by
  by_cases hxy:x=y
  ·rw[hxy];exact wau
  ·rw[List.nodup_cons] at hn;refine wah _ (hole a (b.erase y) hn.2 (λz hz=>?_) ?_ x ((List.mem_erase_of_ne hxy).mpr hx))
   ·have hzy:z≠y:=λh=>hn.1 (by rw[<- h];exact hz);exact (List.mem_erase_of_ne hzy).mpr (hs z (wah _ hz))
   ·rw[List.length_erase_of_mem (hs y List.mem_cons_self)];simp at hl;lia
theorem ztX{k a e:Nat}(ha:a<2 ^ k)(he:e<2 ^ k):∃ r,r<2 ^ k/\it5 (2 ^ k) a r=e:=by
 have hn:((List.range (2 ^ k)).map λr=>it5 (2 ^ k) a r).Nodup:=by refine List.pairwise_map.mpr (List.pairwise_iff_getElem.mpr λi j hi hj hij h=>?_);rw[List.length_range] at hi hj;rw[List.getElem_range,List.getElem_range,show j=i+(j-i) by lia,zkI] at h;have:=Nat.le_of_dvd xwl (zpM (zrQ ha i) h.symm);lia
 have:=hole _ (List.range (2 ^ k)) hn (λx hx=>by obtain ⟨r,_,rfl⟩:=List.mem_map.mp hx;exact List.mem_range.mpr (zrQ ha r)) xws e (List.mem_range.mpr he)
 obtain ⟨r,hr,h⟩:=List.mem_map.mp this;exact ⟨r,List.mem_range.mp hr,h⟩
end Tx1
end
section
namespace Tx1
open PySem PySem.SetTable
theorem zic{xs:Array Nat}{j:Nat}(hr:xs.toList.Pairwise (· < ·)):∀(fuel lo hi:Nat),hi-lo<=fuel->lo<=hi->hi<=xs.size ->
  (∀ i x,xs[i]? = some x->i<lo->x<j)->(∀ i x,xs[i]? = some x->hi<=i->j<=x) ->
  below.go xs j fuel lo hi<=xs.size/\(∀ i x,xs[i]? = some x->i<below.go xs j fuel lo hi->x<j)/\(∀ i x,xs[i]? = some x->below.go xs j fuel lo hi<=i->j<=x)
 |0,lo,hi,hf,hl,hs,h1,h2=>by
  have:lo=hi:=by lia
  subst this;exact ⟨hs,h1,h2⟩
 |fuel+1,lo,hi,hf,hl,hs,h1,h2=>by
  unfold below.go;by_cases hlt:lo<hi
  ·rw[if_pos hlt];have hm:(lo+hi) / 2<xs.size:=by lia
   have hg:xs.getD ((lo+hi) / 2) j=xs[(lo+hi) / 2]:=by simp[Array.getD,hm]
   have hp:∀ a b (ha:a<xs.size) (hb:b<xs.size),a<b->xs[a]<xs[b]:=λa b ha hb hab=>by have:=List.pairwise_iff_getElem.mp hr a b (by simpa using ha) (by simpa using hb) hab;simpa using this
   dsimp only;rw[hg];by_cases hc:xs[(lo+hi) / 2]<j
   ·rw[if_pos hc];refine zic hr fuel _ hi xwl xwl hs (λi x hx hi'=>?_) h2;obtain ⟨hi2,rfl⟩:=Array.getElem?_eq_some_iff.mp hx;by_cases he:i=(lo+hi) / 2
    ·subst he;exact hc
    ·exact Nat.lt_trans (hp i _ hi2 hm xwl) hc
   ·rw[if_neg hc];refine zic hr fuel lo _ xwl xwl xwl h1 (λi x hx hi'=>?_);obtain ⟨hi2,rfl⟩:=Array.getElem?_eq_some_iff.mp hx;by_cases he:i=(lo+hi) / 2
    ·subst he;lia
    ·have:=hp _ i hm hi2 xwl;lia
  ·rw[if_neg hlt];have:lo=hi:=by lia
   subst this;exact ⟨hs,h1,h2⟩
theorem zfT{xs:Array Nat}{j:Nat}(hr:xs.toList.Pairwise (· < ·)):below xs j<=xs.size/\(∀ i x,xs[i]? = some x->i<below xs j->x<j)/\(∀ i x,xs[i]? = some x->below xs j<=i->j<=x) :=
 zic hr xs.size 0 xs.size xwl xwl (wal _) (λi x hx h=>absurd h xwl) (λi x hx h=>by obtain ⟨h2,_⟩:=Array.getElem?_eq_some_iff.mp hx;lia)
theorem znU(j:Nat):has #[] j=false:=rfl
structure TO(t:SetTable)(n:Nat):Prop where
 pow:∃ k,t.mask+1=2 ^ k/\3<=k
 dum:t.dummies=#[]
 siz:t.place.size=n
 ris:t.place.toList.Pairwise (· < ·)
 low:∀ x∈t.place.toList,x<=t.mask
theorem zo3{t:SetTable}{n:Nat}(T:TO t n)(j:Nat):(t.slot j=.empty/\j∉t.place.toList)\/∃ i,t.slot j=.live i/\i<n/\t.place[i]? = some j:=by
 unfold slot;rw[T.dum,znU];dsimp only;by_cases h:(t.place[below t.place j]? == some j)=true
 ·rw[if_pos h];have h':=eq_of_beq h;obtain ⟨h2,_⟩:=Array.getElem?_eq_some_iff.mp h';exact .inr ⟨_,rfl,by rw[<- T.siz];exact h2,h'⟩
 ·rw[if_neg h];refine .inl ⟨rfl,λhm=>h ?_⟩;obtain ⟨i,hi,he⟩:=List.getElem_of_mem hm;have hi':i<t.place.size:=by simpa using hi
  have hg:t.place[i]? = some j:=by rw[Array.getElem?_eq_getElem hi'];simpa using he
  obtain ⟨b0,b1,b2⟩:=zfT (j:=j) T.ris;by_cases hlt:i<below t.place j
  ·exact absurd (b1 i j hg hlt) (waL _)
  ·have hbs:below t.place j<t.place.size:=by lia
   by_cases heq:below t.place j=i
   ·rw[heq,hg];simp
   ·have h3:=b2 _ _ (Array.getElem?_eq_getElem hbs) (wal _);have h4:=List.pairwise_iff_getElem.mp T.ris (below t.place j) i (by simpa using hbs) hi xwl;rw[he] at h4;have h5:t.place.toList[below t.place j]'(by simpa using hbs)=t.place[below t.place j]:=by simp
    rw[h5] at h4;lia
theorem zlW:∀(a b:List Nat),a.Nodup->(∀ x∈a,x∈b)->a.length<=b.length
 |[],b,_,_=>Nat.zero_le _
 |y::a,b,hn,hs=>by rw[List.nodup_cons] at hn;have hy:=hs y wau;have:=zlW a (b.erase y) hn.2 (λz hz=>(List.mem_erase_of_ne (λh=>hn.1 (by rw[<- h];exact hz))).mpr (hs z (wah _ hz)));rw[List.length_erase_of_mem hy] at this;have:=List.length_pos_of_mem hy;rw[List.length_cons];lia
theorem gap{t:SetTable}{n:Nat}(T:TO t n)(h:n<=t.mask):∃ e,e<=t.mask/\e∉t.place.toList:=by refine Classical.byContradiction λhc=>?_;have:=zlW (List.range (t.mask+1)) t.place.toList List.nodup_range (λx hx=>Classical.byContradiction λhx'=>hc ⟨x,by have:=List.mem_range.mp hx;lia,hx'⟩);have h2:=T.siz;simp at this;lia
def lp(mask:Nat):Nat->Nat×Nat->Nat×Nat
 |0,q=>q
 |r+1,q=>lp mask r (leap mask q.1 q.2)
theorem zrF(mask:Nat):∀ a b q,lp mask (a+b) q=lp mask b (lp mask a q)
 |0,b,q=>by rw[Nat.zero_add];rfl
 |a+1,b,q=>by rw[Nat.succ_add];exact zrF mask a b _
theorem zsm(mask:Nat):∀ r q,(lp mask r q).2=q.2 / 32 ^ r
 |0,q=>by simp[lp]
 |r+1,q=>by rw[lp,zsm mask r];show q.2 / 32 / 32 ^ r=_;rw[Nat.div_div_eq_div_mul,Nat.pow_succ,Nat.mul_comm]
theorem zrv(mask:Nat):∀ r q,q.1<mask+1->(lp mask r q).1<mask+1
 |0,q,h=>h
 |r+1,q,h=>zrv mask r _ (Nat.mod_lt _ (Nat.succ_pos _))
theorem zoN(mask:Nat):∀ r i,lp mask r (i,0)=(it5 (mask+1) i r,0)
 |0,i=>rfl
 |r+1,i=>by
  have h:∀ a b,it5 (mask+1) ((a * 5+1) % (mask+1)) b=(it5 (mask+1) a (b+1)):=λa b=>by rw[Nat.add_comm b 1,zkI];rfl
  show lp mask r ((i * 5+1+0 / 32) % (mask+1),0 / 32)=_;rw[Nat.zero_div,Nat.add_zero,zoN mask r,h]
theorem zoO{mask k:Nat}(hk:mask+1=2 ^ k){i p e:Nat}(hi:i<mask+1)(hp:p<2 ^ 64)(he:e<=mask):∃ r,r<turns mask/\(lp mask r (i,p)).1=e:=by
 have h13:lp mask 13 (i,p)=((lp mask 13 (i,p)).1,0):=Prod.ext rfl (by rw[zsm];exact Nat.div_eq_of_lt (was hp xwd))
 have hl:=zrv mask 13 (i,p) hi;obtain ⟨r,hr,h⟩:=ztX (k:=k) (e:=e) (by rw[<- hk];exact hl) xwl;refine ⟨13+r,by unfold turns;lia,?_⟩;rw[zrF,h13,zoN,hk];exact h
theorem zje{mask e:Nat}{owner:Array (Option Nat)}(he:owner.getD e (some 0)=none):∀(fuel i p:Nat),(∃ r,r<fuel/\(lp mask r (i,p)).1=e) ->
  ∃ j,layClean.free mask owner fuel i p=some j/\owner.getD j (some 0)=none
 |0,i,p,⟨r,hr,_⟩=>absurd hr (Nat.not_lt_zero _)
 |fuel+1,i,p,⟨r,hr,h⟩=>by
  unfold layClean.free;cases hf:(List.range (runEnd mask i+1-i)).find? λk=>(owner.getD (i+k) (some 0)).isNone with
  |some k=>exact ⟨i+k,rfl,by simpa using List.find?_some hf⟩
  |none =>
   cases r with
   |zero =>
    have h0:=List.find?_eq_none.mp hf 0 (List.mem_range.mpr (by unfold runEnd;split <;> lia));exact absurd (by rw[Nat.add_zero,show i=e from h,he];rfl) h0
   |succ r=>exact zje he fuel _ _ ⟨r,xwl,h⟩
theorem zfa{α β:Type} [DecidableEq α] {f g:α->Option β} {j:α} {y:β} (hj:f j=none) (hg:g j=some y) (hs:∀ x,x≠j->g x=f x) :
  ∀ l:List α,l.Nodup->j∈l->(l.filterMap g).Perm (y::l.filterMap f)
 |[],_,h=>by simp at h
 |x::l,hn,h=>by
  rw[List.nodup_cons] at hn;by_cases hx:x=j
  ·subst hx;have e:∀ l':List α,(∀ z∈l',z∈l)->l'.filterMap g=l'.filterMap f:=λl'=>by
    induction l' with
    |nil=>intro _;rfl
    |cons z l' ih =>
     intro h;rw[List.filterMap_cons,List.filterMap_cons,hs z λh'=>hn.1 (h' ▸ h z List.mem_cons_self),ih λy hy=>h y (List.mem_cons_of_mem _ hy)]
   rw[List.filterMap_cons,hg,List.filterMap_cons,hj,e l λ_ h=>h]
  ·have hm:j∈l:=(wap.mp h).resolve_left λh'=>hx h'.symm;have ih:=zfa hj hg hs l hn.2 hm;rw[List.filterMap_cons,hs x hx,List.filterMap_cons];cases f x with
   |none=>exact ih
   |some z=>exact (List.Perm.cons z ih).trans (List.Perm.swap _ _ _)
def lv(mask:Nat)(owner:Array (Option Nat)):List (Nat×Nat):=(List.range (mask+1)).filterMap λj=>(owner.getD j none).map (j,·)
theorem zuW{mask j m:Nat}{owner:Array (Option Nat)}(hz:owner.size=mask+1)(hj:owner.getD j (some 0)=none) :
  (lv mask (owner.setIfInBounds j (some m))).Perm ((j,m)::lv mask owner):=by
 have hl:j<owner.size:=by refine Classical.byContradiction λh=>?_;simp[Array.getD,h] at hj
 refine zfa (j:=j) ?_ ?_ (λx hx=>?_) _ List.nodup_range (List.mem_range.mpr xwl)
 ·simp[Array.getD,hl] at hj ⊢;exact hj
 ·simp[Array.getD,hl]
 ·by_cases hxl:x<owner.size
  ·simp[Array.getD,hxl,Array.getElem_setIfInBounds,Ne.symm hx]
  ·simp[Array.getD,hxl]
theorem zwg{mask:Nat}{owner:Array (Option Nat)}(hz:owner.size=mask+1)(h:∀ e,e<=mask->owner.getD e (some 0)≠none):(lv mask owner).length=mask+1:=by
 have:∀ l:List Nat,(∀ x∈l,x<=mask)->(l.filterMap λj=>(owner.getD j none).map (j,·)).length=l.length:=by
  intro l
  induction l with
  |nil=>intro _;rfl
  |cons x l ih =>
   intro hl;have hx:=hl x wau;have hxl:x<owner.size:=by lia
   have h':=h x hx;obtain ⟨z,hz'⟩ : ∃ z,owner.getD x none=some z:=by
    cases ho:owner.getD x none with
    |some z=>exact ⟨z,rfl⟩
    |none =>
     refine absurd ?_ h';simp[Array.getD,hxl] at ho ⊢;exact ho
   rw[List.filterMap_cons,hz'];simp only[Option.map_some,wan];rw[ih λz hz=>hl z (List.mem_cons_of_mem _ hz)]
 rw[lv,this _ λx hx=>by have:=List.mem_range.mp hx;lia];simp
theorem zoJ(h:Int):bits h<2 ^ 64:=by unfold bits;have h1:=Int.emod_lt_of_pos h (show (0:Int)<2 ^ 64 by decide);have h2:=Int.emod_nonneg h (show (2 ^ 64:Int)≠0 by decide);lia
def zen(mask:Nat)(acc:Option (Array (Option Nat)×Nat))(h:Int):Option (Array (Option Nat)×Nat):=do
 let (owner,k) <- acc;let j <- layClean.free mask owner (turns mask) (bits h % (mask+1)) (bits h)
 pure (owner.setIfInBounds j (some k),k+1)
theorem zl5{mask k:Nat}(hk:mask+1=2 ^ k):∀(hs:List Int)(owner:Array (Option Nat))(m:Nat),owner.size=mask+1->(lv mask owner).length=m->((lv mask owner).map (·.2)).Perm (List.range m)->m+hs.length<=mask+1 ->
  ∃ owner',hs.foldl (zen mask) (some (owner,m))=some (owner',m+hs.length)/\owner'.size=mask+1/\((lv mask owner').map (·.2)).Perm (List.range (m+hs.length))
 |[],owner,m,h1,_,h2,_=>⟨owner,rfl,h1,h2⟩
 |h::hs,owner,m,h1,h2,h3,h4=>by
  rw[List.length_cons] at h4;obtain ⟨e,he,hn⟩ : ∃ e,e<=mask/\owner.getD e (some 0)=none:=Classical.byContradiction λhc=>by have:=zwg h1 λe he hn=>hc ⟨e,he,hn⟩;lia
  obtain ⟨j,hj,hjn⟩:=zje hn (turns mask) (bits h % (mask+1)) (bits h) (zoO hk (Nat.mod_lt _ (Nat.succ_pos _)) (zoJ h) he);have hp:=zuW (m:=m) h1 hjn;have hp2:=hp.map (·.2);obtain ⟨o',r1,r2,r3⟩:=zl5 hk hs (owner.setIfInBounds j (some m)) (m+1) (by simpa using h1) (by rw[hp.length_eq];simp[h2]) (by refine hp2.trans ?_;rw[List.map_cons,List.range_succ];exact (List.Perm.cons m h3).trans (List.perm_append_singleton _ _).symm) xwl
  refine ⟨o',?_,r2,?_⟩
  ·rw[List.foldl_cons];show hs.foldl (zen mask) (zen mask (some (owner,m)) h)=_;unfold zen;simp only[hj,Option.bind_eq_bind,Option.bind_some,pure];have e:(λacc h=>zen mask acc h)=zen mask:=rfl;rw[List.length_cons,show m+(hs.length+1)=m+1+hs.length by lia];exact r1
  ·rw[List.length_cons,show m+(hs.length+1)=m+1+hs.length by lia];exact r3
theorem zsL{mask k fi mo:Nat}{le pl:Bool}(hk:mask+1=2 ^ k)(hk3:3<=k)(hs:Array Int)(hl:hs.size<=mask+1) :
  ∃ t order,laid mask fi mo le pl hs=some (t,order)/\TO t hs.size/\t.mask=mask/\t.led=le/\t.plain=pl/\order.toList.Perm (List.range hs.size):=by
 obtain ⟨o,h1,h2,h3⟩:=zl5 hk hs.toList (Array.replicate (mask+1) none) 0 xws (by simp[lv,Array.getD]) (by simp[lv,Array.getD]) (by simpa using hl);have hc:layClean mask hs=some o:=by unfold layClean;rw[<- Array.foldl_toList];show (hs.toList.foldl (zen mask) _).map _=_;rw[h1];rfl
 have hlen:(lv mask o).length=hs.size:=by have:=h3.length_eq;simpa using this
 refine ⟨_,_,by unfold laid;rw[hc];rfl,⟨⟨k,hk,hk3⟩,rfl,?_,?_,?_⟩,rfl,rfl,rfl,?_⟩
 ·show (List.map _ (lv mask o)).toArray.size=_;simp[hlen]
 ·show ((lv mask o).map (·.1)).Pairwise _;refine List.pairwise_map.mpr ?_;unfold lv;refine List.pairwise_filterMap.mpr ?_;refine List.Pairwise.imp (λ{a b} hab x hx y hy=>?_) (List.pairwise_lt_range (n:=mask+1));obtain ⟨_,_,rfl⟩:=Option.map_eq_some_iff.mp hx;obtain ⟨_,_,rfl⟩:=Option.map_eq_some_iff.mp hy;exact hab
 ·intro x hx;obtain ⟨y,hy,rfl⟩:=List.mem_map.mp (show x∈(lv mask o).map (·.1) from hx);obtain ⟨z,hz,hy⟩:=List.mem_filterMap.mp hy;obtain ⟨_,_,rfl⟩:=Option.map_eq_some_iff.mp hy;have:=List.mem_range.mp hz;show z<=mask;lia
 ·have:=h3;simpa [lv] using this
theorem zux{t:SetTable}{n j:Nat}(T:TO t n)(hj:j<=t.mask)(hn:j∉t.place.toList) :
  TO (t.put j).1 (n+1)/\(t.put j).1.mask=t.mask/\(t.put j).1.led=t.led/\(t.put j).1.plain=t.plain/\(t.put j).1.moves=t.moves:=by
 obtain ⟨b0,b1,b2⟩:=zfT (j:=j) T.ris;have hL:(insertAt t.place (below t.place j) j).toList=t.place.toList.take (below t.place j)++j::t.place.toList.drop (below t.place j):=by rw[toList_insertAt]
 refine ⟨⟨T.pow,?_,?_,?_,?_⟩,rfl,rfl,rfl,rfl⟩
 ·show (if has t.dummies j then _ else _)=_;rw[T.dum,znU];rfl
 ·show (insertAt t.place (below t.place j) j).size=_;rw[<- Array.length_toList,(insertAt_perm _ _ _).length_eq];simp[T.siz]
 ·show (insertAt t.place (below t.place j) j).toList.Pairwise _;rw[hL];have hr:=T.ris;rw[<- List.take_append_drop (below t.place j) t.place.toList] at hr;obtain ⟨r1,r2,r3⟩:=List.pairwise_append.mp hr;have ha:∀ x∈t.place.toList.take (below t.place j),x<j:=λx hx=>by obtain ⟨i,hi,he⟩:=List.getElem_of_mem hx;rw[List.length_take] at hi;rw[List.getElem_take] at he;exact b1 i x (by rw[<- Array.getElem?_toList,List.getElem?_eq_getElem xwl,he]) xwl
  have hb:∀ x∈t.place.toList.drop (below t.place j),j<x:=λx hx=>by obtain ⟨i,hi,he⟩:=List.getElem_of_mem hx;rw[List.length_drop] at hi;rw[List.getElem_drop] at he;have h1:=b2 (below t.place j+i) x (by rw[<- Array.getElem?_toList,List.getElem?_eq_getElem xwl,he]) xwl;have h2:x≠j:=λh=>hn (by rw[<- h];exact List.mem_of_mem_drop hx);lia
  exact List.pairwise_append.mpr ⟨r1,List.pairwise_cons.mpr ⟨hb,r2⟩,λa ha' b hb'=>by
   rcases wap.mp hb' with rfl|hb'
   ·exact ha a ha'
   ·exact r3 a ha' b hb'⟩
 ·intro x hx;have hx':x∈(insertAt t.place (below t.place j) j).toList:=hx;have:=(insertAt_perm _ _ _).mem_iff.mp hx';rw[Array.toList_push,List.mem_append,List.mem_singleton] at this;rcases this with h|rfl
  ·exact T.low x h
  ·exact hj
def ad(t:SetTable):Nat->Probe->Probe
 |0,p=>p
 |m+1,p=>ad t m (t.advance p)
theorem zoM(t:SetTable):∀ a b p,ad t (a+b) p=ad t b (ad t a p)
 |0,b,p=>by rw[Nat.zero_add];rfl
 |a+1,b,p=>by rw[Nat.succ_add];exact zoM t a b _
def PIn(t:SetTable)(p:Probe):Prop:=p.j+p.more<=t.mask/\p.dummy=none
def run(t:SetTable)(i q:Nat):Probe:={ j:=i,more:=runEnd t.mask i-i,i,perturb:=q,dummy:=none }
theorem zgA{mask i:Nat}(h:i<=mask):i+(runEnd mask i-i)<=mask/\runEnd mask i-i<=9:=by unfold runEnd;split <;> lia
theorem zvd{t:SetTable}{i q:Nat}(h:i<=t.mask):PIn t (run t i q):=⟨(zgA h).1,rfl⟩
theorem zrI{t:SetTable}{p:Probe}(h:PIn t p):PIn t (t.advance p):=by
 obtain ⟨h1,h2⟩:=h;unfold advance;by_cases hm:p.more > 0
 ·rw[if_pos hm];exact ⟨by dsimp only;lia,h2⟩
 ·rw[if_neg hm];exact ⟨(zgA (show (leap t.mask p.i p.perturb).1<=t.mask from Nat.lt_succ_iff.mp (Nat.mod_lt _ (Nat.succ_pos _)))).1,h2⟩
theorem zrA(t:SetTable):∀(m j i q:Nat),ad t m { j:=j,more:=m,i:=i,perturb:=q,dummy:=none }={ j:=j+m,more:=0,i:=i,perturb:=q,dummy:=none }
 |0,j,i,q=>rfl
 |m+1,j,i,q=>by show ad t m (t.advance _)=_;unfold advance;rw[if_pos (Nat.succ_pos m)];dsimp only;rw[Nat.add_sub_cancel,zrA t m,Nat.add_assoc,Nat.add_comm 1 m]
theorem zrj(t:SetTable)(i q:Nat):ad t (runEnd t.mask i-i+1) (run t i q)=run t (leap t.mask i q).1 (leap t.mask i q).2:=by rw[zoM,show ad t (runEnd t.mask i-i) (run t i q)=_ from zrA t _ i i q];rfl
theorem zrx(t:SetTable):∀(r i q:Nat),i<=t.mask->∃ m,m<=10 * r/\(ad t m (run t i q)).j=(lp t.mask r (i,q)).1
 |0,i,q,_=>⟨0,wal _,rfl⟩
 |r+1,i,q,h=>by obtain ⟨m,h1,h2⟩:=zrx t r (leap t.mask i q).1 (leap t.mask i q).2 (Nat.lt_succ_iff.mp (Nat.mod_lt _ (Nat.succ_pos _)));refine ⟨runEnd t.mask i-i+1+m,by have:=(zgA h).2;lia,?_⟩;rw[zoM,zrj,h2];rfl
theorem zm4{t:SetTable}{n:Nat}(T:TO t n)(hn:n<=t.mask)(h:Int):PIn t (t.probeStart h)/\∃ m,m<10 * turns t.mask/\t.slot (ad t m (t.probeStart h)).j=.empty:=by
 have hi:bits h % (t.mask+1)<=t.mask:=Nat.lt_succ_iff.mp (Nat.mod_lt _ (Nat.succ_pos _));obtain ⟨e,he,hne⟩:=gap T hn;obtain ⟨k,hk,_⟩:=T.pow;obtain ⟨r,hr,hre⟩:=zoO hk (Nat.lt_succ_iff.mpr hi) (zoJ h) he;obtain ⟨m,hm,hme⟩:=zrx t r (bits h % (t.mask+1)) (bits h) hi;refine ⟨zvd hi,m,xwl,?_⟩;rw[show t.probeStart h=run t (bits h % (t.mask+1)) (bits h) from rfl,hme,hre];rcases zo3 T e with h|⟨i,_,_,h⟩
 ·exact h.1
 ·exact absurd (by obtain ⟨h2,h3⟩:=Array.getElem?_eq_some_iff.mp h;rw[<- h3];exact Array.getElem_mem_toList h2) hne
theorem zv5{t:SetTable}{n:Nat}(T:TO t n)(hashAt:Nat->Int)(h:Int):∀(fuel m:Nat)(p:Probe),PIn t p->t.slot (ad t m p).j=.empty->m<fuel ->
  (∃ j,probe.go t hashAt h fuel p=some (.empty j none)/\j<=t.mask/\j∉t.place.toList) \/
  (∃ j i nx m',probe.go t hashAt h fuel p=some (.candidate j i nx)/\t.slot j=.live i/\i<n/\PIn t nx/\t.slot (ad t m' nx).j=.empty/\m'<m)
 |0,m,p,_,_,hm=>absurd hm (Nat.not_lt_zero _)
 |fuel+1,m,p,hp,he,hm=>by
  unfold probe.go;rcases zo3 T p.j with ⟨h1,h2⟩|⟨i,h1,h2,_⟩
  ·rw[h1];exact .inl ⟨p.j,by rw[hp.2],by have:=hp.1;lia,h2⟩
  ·rw[h1];dsimp only;cases m with
   |zero=>exact absurd (h1.symm.trans he) xws
   |succ m =>
    by_cases hq:(hashAt i == h)=true
    ·rw[if_pos hq];exact .inr ⟨p.j,i,t.advance p,m,rfl,h1,h2,zrI hp,he,Nat.lt_succ_self _⟩
    ·rw[if_neg hq];rcases zv5 T hashAt h fuel m (t.advance p) (zrI hp) he xwl with h'|⟨j,i',nx,m',a,b,c,d,e,f⟩
     ·exact .inl h'
     ·exact .inr ⟨j,i',nx,m',a,b,c,d,e,xwl⟩
theorem znu{n:Nat}:∀(fuel k:Nat),n<2 ^ (k+fuel)->∃ k',k<=k'/\sizeAbove.go n fuel (2 ^ k)=2 ^ k'/\n<2 ^ k'/\(k'=k\/2 ^ k'<=2 * n)
 |0,k,h=>⟨k,wal _,rfl,h,.inl rfl⟩
 |fuel+1,k,h=>by
  unfold sizeAbove.go;by_cases hc:2 ^ k<=n
  ·rw[if_pos hc,<- Nat.pow_succ];obtain ⟨k',a,b,c,d⟩:=znu fuel (k+1) (by rw[show k+1+fuel=k+(fuel+1) by lia];exact h);refine ⟨k',xwl,b,c,.inr ?_⟩;rcases d with rfl|d
   ·rw[Nat.pow_succ];lia
   ·exact d
  ·rw[if_neg hc];exact ⟨k,wal _,rfl,xwl,.inl rfl⟩
theorem zui{n:Nat}(h:n<2 ^ 20):∃ k,3<=k/\sizeAbove n=2 ^ k/\n<2 ^ k/\2 ^ k<=2 * n+8:=by
 obtain ⟨k,a,b,c,d⟩:=znu (n:=n) 64 3 (was h xwd);refine ⟨k,a,b,c,?_⟩;rcases d with rfl|d
 ·lia
 ·lia
end Tx1
end
section
namespace Tx1
open PySem PySem.SetTable PyProof.Rows
def RowAt(h:Heap)(ns:List Int)(r:Addr):Prop:=∃ o items m,h.get? r=some o/\o.cls=.type "tuple"/\o.data=.seq items m/\IntsAre items.toList ns
theorem zeW{prog:Program}{w:World}:∀{vs:List Value}{ns:List Int},IntsAre vs ns->ItemsAre (intKind prog w) ns vs
 |_,_,.nil=>.nil
 |_,_,.cons n t h=>.cons (intKind_is prog w n t) (zeW h)
theorem RowAt.key{prog:Program}{w:World}{h:Heap}{ns:List Int}{r:Addr}(x:RowAt h ns r):IsTupleKey (intKind prog w) h ns r :=
 let ⟨o,items,m,a,b,c,d⟩:=x;⟨o,items,m,a,b,c,zeW d⟩
section
variable{prog:Program}{w:World}{A:Around}{E:Value->Shared->Prop}{s:Shared}
theorem zha{M:Model}(n:Nat){Q:Bool->Shared->Prop}(vs:List Value)(ns:List Int)(hi:IntsAre vs ns){f:Value->Option Bool×PUnit->Sem (ForInStep (Option Bool×PUnit))}{Q':Option Bool×PUnit->Shared->Prop}
  (hf:∀ n t b,f (.int n t) b=pure (.yield (none,⟨⟩))) (h:Q' (none,⟨⟩) s):wpAny M A (forIn vs (none,⟨⟩) f) Q' E s:=by
 induction hi with
 |nil=>exact wad h
 |cons n t _ ih=>rw[List.forIn_cons,hf];exact wab (wad ih)
theorem zmH{ns:List Int}{r:Addr}{Q:Bool->Shared->Prop}(x:RowAt s.heap ns r)(h:Q true s):wpAny (model prog w) A (hashByValue 8 (.ref r)) Q E s:=by
 have hT:=(x.key (prog:=prog) (w:=w)).typeIs;obtain ⟨o,items,m,ho,hc,hd,hi⟩:=x;unfold hashByValue;refine wab (wpAny_specialOf hT F.slot_tuple_hash.lookup ?_);dsimp only;refine wab (wpAny_seqItems ho hd ?_);refine wab ?_;show wpAny _ _ (forIn items _ _) _ _ s;rw[<- Array.forIn_toList];refine zha 0 (Q:=Q) items.toList ns hi (λn t b=>?_) ?_
 ·simp[hashByValue]
 ·exact wad h
theorem zg2{M:Model}{ns:List Int}{r:Addr}{Q:Bool->Shared->Prop}(x:RowAt s.heap ns r)(h:Q false s):wpAny M A (ofAClassStatement 8 (.ref r)) Q E s:=by
 obtain ⟨o,items,m,ho,hc,hd,hi⟩:=x;unfold ofAClassStatement;refine wab (wpAny_typeOf_ref ho ?_);rw[hc];dsimp only;refine wab (wad ?_);simp only[Bool.not_true,Bool.false_eq_true,if_false];refine wab (wpAny_seqItems ho hd ?_);dsimp only;refine wab ?_;show wpAny _ _ (forIn items _ _) _ _ s;rw[<- Array.forIn_toList];refine zha 0 (Q:=Q) items.toList ns hi (λn t b=>?_) ?_
 ·simp[ofAClassStatement]
 ·exact wad h
theorem zno{ns:List Int}{r:Addr}{Q:Bool->Shared->Prop}(x:RowAt s.heap ns r):∀(vs:List Value),(∀ v∈vs,∃ b kb,v=.ref b/\RowAt s.heap kb b)->Q false s ->
  wpAny (model prog w) A (searchCouldBeSeen (.ref r) vs) Q E s:=by
 intro vs hv h;unfold searchCouldBeSeen;refine wab ?_;refine wpAny_forIn_list _ (λzaX b s'=>b.1=none/\s'=s/\∀ v∈zaX,∃ b kb,v=.ref b/\RowAt s.heap kb b) _ ?_ ?_ _ _ ⟨rfl,rfl,hv⟩
 ·rintro v zaX ⟨b1,b2⟩ s' ⟨hb,rfl,hr⟩;obtain ⟨b,kb,rfl,hkb⟩:=hr _ wau;have ht:∀ v∈zaX,∃ b kb,v=.ref b/\RowAt s'.heap kb b:=λv hv=>hr v (wah _ hv);dsimp only;by_cases hab:(r == b)=true
  ·simp only[hab,Bool.true_or,if_true];exact wad ⟨rfl,rfl,ht⟩
  ·simp only[hab,carriedByValue,Bool.false_and,Bool.or_self,Bool.false_eq_true,if_false];refine wab (wpAny_eqIsQuiet_tuple (x.key (prog:=prog) (w:=w)) ?_);simp only[Bool.not_true,Bool.false_eq_true,if_false];refine wab (wpAny_eqIsQuiet_tuple (hkb.key (prog:=prog) (w:=w)) ?_);simp only[Bool.not_true,Bool.false_eq_true,if_false];refine wab (zg2 x ?_);simp only[Bool.false_eq_true,if_false];refine wab (zg2 hkb ?_);simp only[Bool.false_eq_true,if_false];exact wad ⟨rfl,rfl,ht⟩
 ·rintro ⟨b1,b2⟩ s' ⟨hb,rfl,_⟩;simp only at hb;subst hb;exact wad h
end
structure TH(a:Addr)(led:Bool)(es:Array (Int×Value))(t:SetTable):Prop where
 to:TO t es.size
 room:es.size * 5<t.mask * 3
 most:t.mask+1<=8 * es.size+8
 led:t.led=led
 plain:t.plain=true
def TS(h:Heap)(a:Addr)(led:Bool)(L:List (List Int×Addr)):Prop :=
 ∃ o es ep t,h.get? a=some o/\o.ExactSet/\o.data=.set es ep t/\TH a led es t/\(es.toList.map (·.2)).Perm (L.map λx=>.ref x.2)
theorem zdE{t:SetTable}{n:Nat}(T:TO t n)(hn:n<=t.mask):t.fits n=true:=by simp[SetTable.fits,SetTable.fill,T.siz,T.dum,hn]
theorem zvk{t:SetTable}{n:Nat}(T:TO t n):t.gaveWay=false:=by
 obtain ⟨k,h,h3⟩:=T.pow;obtain ⟨k,rfl⟩ : ∃ k',k=k'+1:=⟨k-1,xwl⟩
 rw[Nat.pow_succ] at h;unfold SetTable.gaveWay;have:t.mask % 2=1:=by lia
 simp[this]
theorem zri{t:SetTable}{n fuel m:Nat}{f:Nat->Int}{h:Int}{p:Probe}{G:Option Met}(T:TO t n)(hG:probe.go t f h fuel p=G)(hp:PIn t p)(he:t.slot (ad t m p).j=.empty)(hm:m<fuel) :
  (∃ j,G=some (.empty j none)/\j<=t.mask/\j∉t.place.toList) \/
  (∃ j i nx m',G=some (.candidate j i nx)/\t.slot j=.live i/\i<n/\PIn t nx/\t.slot (ad t m' nx).j=.empty/\m'<m):=by
 subst hG;exact zv5 T f h fuel m p hp he hm
section
variable{prog:Program}{w:World}{A:Around}{E:Value->Shared->Prop}{s:Shared}
theorem zf8{a r:Addr}{o:Obj}{es:Array (Int×Value)}{ep:Nat}{t:SetTable}{k:List Int}{h:Int}{Q:SetFound->Shared->Prop}(hu:A.units<cLine)
  (ho:s.heap.get? a=some o) (hd:o.data=.set es ep t) (T:TO t es.size) (hn:es.size<=t.mask) (x:RowAt s.heap k r)
  (hes:∀ e∈es.toList,∃ b kb,e.2=.ref b/\RowAt s.heap kb b/\kb≠k) (hQ:∀ j,j<=t.mask->j∉t.place.toList->Q (.free j false) s) :
  ∀(fuel m:Nat)(st:Option Probe),PIn t (st.getD (t.probeStart h))->t.slot (ad t m (st.getD (t.probeStart h))).j=.empty->m<10 * turns t.mask->m<fuel ->
   wpAny (model prog w) A (setSearchFrom a (.ref r) h true fuel st) Q E s
 |0,m,st,_,_,_,hm=>absurd hm (Nat.not_lt_zero _)
 |fuel+1,m,st,hp,he,ht,hm=>by
  unfold setSearchFrom;refine wab (wpAny_setState_of ho hd (zdE T hn) ?_);dsimp only;rw[zvk T];simp only[Bool.false_eq_true,if_false];unfold SetTable.probe;generalize hG:probe.go t _ h (10 * turns t.mask) (st.getD (t.probeStart h))=G;rcases zri T hG hp he ht with ⟨j,rfl,hj,hjn⟩|⟨j,i,nx,m',rfl,hs,hi,hpn,hen,hmm⟩
  ·exact wad (hQ j hj hjn)
  ·dsimp only;obtain ⟨b,kb,hb,hkb,hne⟩:=hes es[i] (Array.getElem_mem_toList hi);have hei:es[i]? = some (es[i].1,.ref b):=by rw[Array.getElem?_eq_getElem hi,<- hb]
   by_cases hl:(!t.led)=true
   ·rw[if_pos hl];refine wab (zno x _ (λv hv=>?_) ?_)
    ·obtain ⟨e,he',rfl⟩:=List.mem_map.mp hv;obtain ⟨b,kb,h1,h2,_⟩:=hes e (by rw[Array.toList_filter] at he';exact (List.mem_filter.mp he').1)
     exact ⟨b,kb,h1,h2⟩
    simp only[Bool.false_eq_true,if_false];rw[hei];dsimp only;refine wab (wpAny_holding (wpAny_eqBool_tuple hu (hkb.key (prog:=prog) (w:=w)) x.key ?_));rw[decide_eq_false hne];refine wab (wpAny_setState_of ho hd (zdE T hn) ?_);simp only[Bool.and_false,Bool.false_eq_true,if_false,sameMemory,beq_self_eq_true,if_true];rw[hs];dsimp only;rw[hei];dsimp only;refine wab (wpAny_isSame_ref_self (wab (wad ?_)));exact zf8 hu ho hd T hn x hes hQ fuel m' (some nx) hpn hen xwl xwl
   ·rw[if_neg hl];rw[hei];dsimp only;refine wab (wpAny_holding (wpAny_eqBool_tuple hu (hkb.key (prog:=prog) (w:=w)) x.key ?_));rw[decide_eq_false hne];refine wab (wpAny_setState_of ho hd (zdE T hn) ?_);simp only[Bool.and_false,Bool.false_eq_true,if_false,sameMemory,beq_self_eq_true,if_true];rw[hs];dsimp only;rw[hei];dsimp only;refine wab (wpAny_isSame_ref_self (wab (wad ?_)));exact zf8 hu ho hd T hn x hes hQ fuel m' (some nx) hpn hen xwl xwl
theorem zqF{n:Nat}(h:n<1001):grown n=n * 4:=by unfold grown;rw[if_neg xwl]
theorem znV{a:Addr}{o:Obj}{es:Array (Int×Value)}{ep:Nat}{t:SetTable}{led:Bool}{Q:Unit->Shared->Prop}(ho:s.heap.get? a=some o)(hd:o.data=.set es ep t)(T:TO t es.size)(hn:es.size<=t.mask)(hl:es.size<1001)
  (hQ:∀ es' t',es'.toList.Perm es.toList->TO t' es'.size->4 * es.size<=t'.mask->t'.mask+1<=8 * es.size+8->t'.led=t.led->t'.plain=t.plain->Q () { s with heap:=s.heap.update a (Obj.putSet es' t') }) :
  wpAny (model prog w) A (setRelay a (grown es.size)) Q E s:=by
 rw[zqF hl];unfold setRelay;refine wab (wpAny_setState_of ho hd (zdE T hn) ?_);obtain ⟨k,h3,hk,hk1,hk2⟩:=zui (n:=es.size * 4) (was (m:=1048576) xwl xwd);dsimp only;rw[if_neg (by rw[hk,sizeLine_eq];lia)];have hm:sizeAbove (es.size * 4)-1+1=2 ^ k:=by rw[hk];lia
 obtain ⟨t',order,h1,h2,h4,h5,h6,h7⟩:=zsL (fi:=t.finger) (mo:=t.movedTo (sizeAbove (es.size * 4)-1)) (le:=t.led) (pl:=t.plain) hm h3 (es.map (·.1)) (by simp;lia);have hsz:(es.map (·.1)).size=es.size:=by simp
 rw[hsz] at h2 h7;unfold SetTable.relaid;rw[h1];have hp:(order.filterMap (λi=>es[i]?)).toList.Perm es.toList:=by rw[Array.toList_filterMap];refine (h7.filterMap _).trans ?_;rw[filterMap_getElem?_range]
 have hz:(order.filterMap (λi=>es[i]?)).size=es.size:=by rw[<- Array.length_toList,hp.length_eq,Array.length_toList]
 refine wab ?_;show wpAny _ _ (if ((order.filterMap (λi=>es[i]?)).size != es.size)=true then _ else _) _ _ _;rw[if_neg (by rw[hz];simp)];refine wad ?_;refine wpAny_storeSet_of ho hd (hQ _ _ hp (by rw[hz];exact h2) ?_ ?_ h5 h6) (by rw[hz,sizeLine_eq];lia)
 ·rw[h4,hk];lia
 ·rw[h4,hk];lia
theorem zsu{a r:Addr}{led:Bool}{L:List (List Int×Addr)}{k:List Int}{h:Int}{Q:Bool->Shared->Prop}(hu:A.units<cLine)(hS:TS s.heap a led L)(hr:∀ x∈L,RowAt s.heap x.1 x.2/\x.1≠k)
  (x:RowAt s.heap k r) (hl:L.length<1000) (hQ:∀ h',Heap.SameBut a s.heap h'->TS h' a led ((k,r)::L)->Q true { s with heap:=h' }) :
  wpAny (model prog w) A (setAddHashed a (.ref r) h) Q E s:=by
 obtain ⟨o,es,ep,t,ho,hex,hd,⟨T,hroom,hmost,hled,hpl⟩,hp⟩:=hS;have hn:es.size<=t.mask:=by lia
 have hsz:es.size=L.length:=by have:=hp.length_eq;simpa using this
 have hes:∀ e∈es.toList,∃ b kb,e.2=.ref b/\RowAt s.heap kb b/\kb≠k:=λe he=>by obtain ⟨y,hy,hye⟩:=List.mem_map.mp (hp.mem_iff.mp (List.mem_map.mpr ⟨e,he,rfl⟩));exact ⟨y.2,y.1,hye.symm,hr y hy⟩
 unfold setAddHashed setAddHashedIn;refine wpAny_holding (wab (wpAny_setState_of ho hd (zdE T hn) ?_));dsimp only;have hb:byScan (.ref r) es=false:=rfl;rw[hb];simp only[Bool.false_eq_true,if_false];obtain ⟨hst,m,hm,hem⟩:=zm4 T hn h;refine wab ?_;unfold setSearch;refine zf8 hu ho hd T hn x hes (λj hj hjn=>?_) 100000 m none hst hem hm (by unfold turns at hm;lia);obtain ⟨T',e1,e2,e3,e4⟩:=zux T hj hjn;dsimp only;refine wab (wpAny_setState_of ho hd (zdE T hn) ?_);dsimp only;rw[e3,hpl];simp only[if_true];refine wab (zmH x ?_);simp only[if_true];have hpe:=insertAt_perm es (t.put j).2 (h,Value.ref r);have hse:(insertAt es (t.put j).2 (h,Value.ref r)).size=es.size+1:=by rw[<- Array.length_toList,hpe.length_eq];simp
 have hpL:((insertAt es (t.put j).2 (h,Value.ref r)).toList.map (·.2)).Perm (((k,r)::L).map λx=>.ref x.2):=by refine (hpe.map _).trans ?_;rw[Array.toList_push,List.map_append];exact (List.perm_append_singleton _ _).trans (List.Perm.cons _ hp)
 generalize insertAt es (t.put j).2 (h,Value.ref r)=es1 at hse hpL ⊢;generalize (t.put j).1=t1 at T' e1 e2 e3 e4 ⊢;refine wab (wpAny_storeSet_of ho hd ?_ (by rw[hse,sizeLine_eq];lia));have hg:∀ es' t',(s.heap.update a (Obj.putSet es' t')).get? a=some { o with data:=.set es' (ep+1) t' }:=λes' t'=>by have:=Heap.get?_update_self (Obj.putSet es' t') ho (by rw[putSet_of es' t' hd];rfl);rw[putSet_of es' t' hd] at this;exact this
 have hsb:=λes' t'=>Heap.SameBut.update s.heap a (Obj.putSet es' t');rw[<- hse] at T';by_cases hf:(!false && t1.tooFull)=true
 ·rw[if_pos hf,<- hse];refine wab (znV (led:=led) (hg _ _) rfl T' xwl xwl λes' t' p1 p2 p3 p4 p5 p6=>?_);have hs':es'.size=es1.size:=by rw[<- Array.length_toList,p1.length_eq,Array.length_toList]
  refine wad (hQ _ ((hsb _ _).trans (Heap.SameBut.update _ a _)) ⟨_,es',ep+1+1,t',Heap.get?_update_self (Obj.putSet es' t') (hg _ _) rfl,hex,rfl,⟨p2,xwl,xwl,by rw[p5,e2,hled],by rw[p6,e3,hpl]⟩,(p1.map _).trans hpL⟩)
 ·rw[if_neg hf];refine wad (hQ _ (hsb _ _) ⟨_,es1,ep+1,t1,hg _ _,hex,rfl,⟨T',?_,xwl,by rw[e2,hled],by rw[e3,hpl]⟩,hpL⟩);simp only[Bool.not_false,Bool.true_and,SetTable.tooFull,SetTable.fill,T'.siz,T'.dum,war,Array.size_empty,Nat.add_zero] at hf;lia
end
theorem RowAt.keep{h h':Heap}{ns:List Int}{r:Addr}(x:RowAt h ns r)(k:∀ o,h.get? r=some o->h'.get? r=some o):RowAt h' ns r :=
 x.elim λo ⟨i,m,a,b⟩=>⟨o,i,m,k o a,b⟩
theorem TS.keep{h h':Heap}{a:Addr}{led:Bool}{L}(x:TS h a led L)(k:∀ o,h.get? a=some o->h'.get? a=some o):TS h' a led L :=
 x.elim λo ⟨e,p,t,q,b⟩=>⟨o,e,p,t,k o q,b⟩
section
variable{prog:Program}{w:World}{A:Around}{E:Value->Shared->Prop}{s:Shared}
def zhZ(rs:List (List Int×Addr))(i:Nat):List (List Int×Addr):=(rs.take i).reverse
theorem zmG{rs:List (List Int×Addr)}{i:Nat}{x}(h:rs[i]? = some x):zhZ rs (i+1)=x::zhZ rs i:=by obtain ⟨hi,rfl⟩:=wam.mp h;unfold zhZ;rw[List.take_succ_eq_append_getElem hi,List.reverse_append];rfl
theorem zlQ{I l S:Addr}{rs:List (List Int×Addr)}{items:Array Value}{led:Bool}{R:Result->Shared->Prop}(hh:A.handled=none)(hu:A.units+1<cLine)(hlI:l≠I)(hSI:S≠I)(hSl:S≠l)
  (hit:items.toList=rs.map λx=>Value.ref x.2) (hnd:rs.Pairwise λx y=>x.1≠y.1) (hrs:rs.length<=1000) :
  ∀(k i:Nat)(h:Heap)(tk:Nat),rs.length=i+k->h.IsListIter I l i->h.IsList l items->TS h S led (zhZ rs i)->(∀ x∈rs,RowAt h x.1 x.2/\x.2≠I/\x.2≠S) ->
   (∀ h' tk',(∀ b o,b≠I->b≠S->h.get? b=some o->h'.get? b=some o)->TS h' S led (zhZ rs rs.length)->R (.ok (.ret .none)) { s with heap:=h',toks:=tk' }) ->
   codeAny (model prog w) A (.builtin "set.update.loop" ⟨[.ref S,.ref I],[]⟩) R { s with heap:=h,toks:=tk }
 |k,i,h,tk,hk,hI,hL,hS,hr,hR=>by
  have hsz:items.size=rs.length:=by rw[<- Array.length_toList,hit,List.length_map]
  refine codeAny_builtin F.entry_set_update_loop ?_;rw[Around.under_plainId F.plain_set_update_loop _];show wpAny _ A.in1 (pyNext (.ref I) >>= _) _ _ _;cases k with
  |zero =>
   refine wab (wpAny_pyNext_list_end (by simpa using hh) hI hL (by rw[Array.getElem?_eq_none_iff];lia) λh' he'=>?_);show wpAny _ A.in1 (ret Value.none) _ _ _;have e:i=rs.length:=by lia
   subst e;exact wad (hR h' tk (λb o b1 _ e=>he' b o b1 e) (hS.keep λo e=>he' S o hSI e))
  |succ k =>
   have hi:i<rs.length:=by lia
   have hri:rs[i]? = some rs[i]:=wac hi;have hxi:items[i]? = some (.ref rs[i].2):=by rw[<- Array.getElem?_toList,hit,List.getElem?_map,hri];rfl
   refine wab (wpAny_pyNext_list_item hI hL hxi λh' hI' hs'=>?_);have hm:=List.getElem_mem hi;have hr':∀ x∈rs,RowAt h' x.1 x.2/\x.2≠I/\x.2≠S:=λx hx=>⟨(hr x hx).1.keep λo e=>by rw[hs'.2 _ (hr x hx).2.1];exact e,(hr x hx).2⟩
   show wpAny _ A.in1 (holding [Value.ref rs[i].2] (setAdd S (.ref rs[i].2)) >>= _) _ _ _;refine wab (wpAny_holding ?_);unfold setAdd;refine wpAny_holding (wab (wpAny_pyHash_tuple (by simpa using hu) ((hr' _ hm).1.key (prog:=prog) (w:=w)) ?_));refine zsu (L:=zhZ rs i) (led:=led) (k:=rs[i].1) (by simpa using hu) (hS.keep λo e=>by rw[hs'.2 _ hSI];exact e) (λx hx=>?_) (hr' _ hm).1 (by unfold zhZ;simp;lia) λh2 hsb hS2=>?_
   ·unfold zhZ at hx;rw[List.mem_reverse] at hx;refine ⟨(hr' x (List.mem_of_mem_take hx)).1,?_⟩;obtain ⟨j,hj,rfl⟩:=List.getElem_of_mem hx;rw[List.length_take] at hj;rw[List.getElem_take];exact List.pairwise_iff_getElem.mp hnd j i xwl hi xwl
   ·refine wad ⟨plainId_quiet F.plain_set_update_loop _,?_⟩;refine zlQ hh hu hlI hSI hSl hit hnd hrs k (i+1) h2 _ xwl (hI'.at λo e=>by rw[hsb.2 _ (Ne.symm hSI)];exact e) ((hL.at λo e=>by rw[hs'.2 _ hlI];exact e).at λo e=>by rw[hsb.2 _ (Ne.symm hSl)];exact e) (by rw[zmG hri];exact hS2)
     (λx hx=>⟨(hr' x hx).1.keep λo e=>by rw[hsb.2 _ (hr x hx).2.2];exact e,(hr x hx).2⟩) λh3 tk3 k3 hS3=>hR h3 tk3 (λb o b1 b2 e=>k3 b o b1 b2 (by rw[hsb.2 b b2,hs'.2 b b1];exact e)) hS3
end
def zqR(led:Bool):Obj:={ cls:=.type "set",dict:=none,data:=.set #[] 0 (.fresh 0 0 led) }
theorem zpT{h:Heap}{a:Addr}{led:Bool}(ho:h.get? a=some (zqR led)):TS h a led [] :=
 ⟨_,#[],0,.fresh 0 0 led,ho,⟨rfl,rfl,rfl⟩,rfl,⟨⟨⟨3,rfl,wal _⟩,rfl,rfl,List.Pairwise.nil,λx hx=>by cases hx⟩,show 0 * 5<7 * 3 by decide,show 7+1<=8 * 0+8 by decide,rfl,rfl⟩,List.Perm.refl _⟩
section
variable{prog:Program}{w:World}{A:Around}{E:Value->Shared->Prop}{s:Shared}
def zer(w:World):Bool:=!w.params.followText "set-order"
theorem zs3(a:Value){Q:Value->Shared->Prop}(h:Q (.ref s.heap.objs.size) { s with heap:=s.heap.push (zqR (zer w)) }) :
  codeAny (model prog w) A (.call (.builtin "set.__new__") ⟨[.type "set",a],[]⟩) (wants Q E) s:=by
 refine codeAny_of_tree ?_;show wpAny _ A.in1 (checkBuiltinCall "set.__new__" ⟨[.type "set",a],[]⟩ >>= λ_=>again _) _ _ s;refine wab (wpAny_of_eq (F.newCall_set_1 a) (wad ⟨plainId_quiet F.plain_set_new _,codeAny_builtin F.entry_set_new ?_⟩));rw[Around.under_plainId F.plain_set_new _];unfold Builtin.«set.__new__» Builtin.Frozenset.newClass;have hsub:=sub_set_self;obtain ⟨hp,g,d,tk,os⟩:=s;dsimp only
 wp_walk
 refine wpAny_askSetting (wad ?_);dsimp only[newObj];exact wab (wpAny_alloc (wad (wad h)))
set_option maxHeartbeats 1600000 in
theorem call_set_rows{l:Addr}{items:Array Value}{rs:List (List Int×Addr)}{Q:Value->Shared->Prop}(hh:A.handled=none)(hu:A.units+9<cLine)(hl:s.heap.IsList l items)
  (hit:items.toList=rs.map λx=>Value.ref x.2) (hr:∀ x∈rs,RowAt s.heap x.1 x.2) (hnd:rs.Pairwise λx y=>x.1≠y.1) (hrs:rs.length<=1000)
  (h:∀ h' tk,TS h' s.heap.objs.size (zer w) rs.reverse->(∀ b o,s.heap.get? b=some o->h'.get? b=some o)->Q (.ref s.heap.objs.size) { s with heap:=h',toks:=tk }) :
  wpAny (model prog w) A (call (.type "set") [.ref l]) Q E s:=by
 obtain ⟨c,tl,hmro⟩:=F.called_set.mro;have hmade:=F.called_set.made;have hsub:=F.called_set.sub;refine wpAny_call (codeAny_of_tree ?_);show wpAny _ _ (callAny (.type "set") _) _ _ _;refine wad ⟨Code.quiet_builtin _ xwD,codeAny_builtin F.entry_type_call ?_⟩;rw[Around.under_plain (weight_type_call_type "set" [.ref l] []) rfl];have h1:=F.called_set.notType;have h2:=F.called_set.canCreate;have hct:=F.typeCall_set_1 (.ref l)
 repeat (any_goals (first|assumption|wp_step))
 refine codeAny_mono (zs3 (.ref l) (E:=E) (Q:=λobj s₁=>obj=.ref s.heap.objs.size/\s₁={ s with heap:=s.heap.push (zqR (zer w)) }) ⟨rfl,rfl⟩) λr s₁ hr₁=>?_;cases r with
 |error e=>exact hr₁
 |ok fl =>
  cases fl with
  |ret obj =>
   obtain ⟨rfl,rfl⟩:=hr₁;have hS:(s.heap.push (zqR (zer w))).get? s.heap.objs.size=some (zqR (zer w)):=waj _ rfl;have hT:Shared.TypeIs { s with heap:=s.heap.push (zqR (zer w)) } (.ref s.heap.objs.size) "set":=⟨_,hS,rfl⟩
   have hli:=F.called_set.init.lookup;have hbi:=F.called_set.init.bind (.ref s.heap.objs.size)
   repeat (any_goals (first|assumption|wp_step))
   refine codeAny_mono (codeAny_call_builtin (R:=wants (λr s₂=>r=.none/\∃ h' tk,s₂={ s with heap:=h',toks:=tk }/\TS h' s.heap.objs.size (zer w) rs.reverse/\(∀ b o,s.heap.get? b=some o->h'.get? b=some o)) E) F.called_set.init.plain F.entry_set_init (check_set_init_1 hT ?_)) λr₂ s₂ hr₂=>?_
   ·obtain ⟨ol,hol,hcl,nl,hdl⟩:=hl;obtain ⟨ocls,odict,odata,oslots⟩:=ol;simp only at hcl hdl;subst hcl;subst hdl;have hol':(s.heap.push (zqR (zer w))).get? l=some { cls:=.type "list",dict:=odict,data:=.seq items nl,slots:=oslots }:=waa _ hol;have hsls:=F.sub_list_set;have hslf:=F.sub_list_frozenset;have hne:(Value.type "list" == Value.type "dict")=false:=by decide
    have hl1:(s.heap.push (zqR (zer w))).IsList l items:=⟨_,hol',rfl,nl,rfl⟩
    unfold Builtin.«set.__init__» noKeywords Builtin.Frozenset.updateFrom;generalize hPI:pyIter=PI
    wp_walk
    subst hPI;refine wpAny_pyIter_list hl1 (wab (wpAny_runValue ?_));have hlS:l<s.heap.objs.size:=wai hol;have hzI:(s.heap.push (zqR (zer w))).objs.size=s.heap.objs.size+1:=Heap.size_push ..;refine zlQ (s:=s) (led:=zer w) (l:=l) (by simp[hh]) (by simp;lia) (by rw[hzI];exact waM (Nat.lt_succ_of_lt hlS)) (by rw[hzI];exact waM (Nat.lt_succ_self _)) (Nat.ne_of_gt hlS) hit hnd hrs rs.length 0 _ s.toks xwl ⟨_,waj _ rfl,rfl,rfl⟩ (hl1.push _) (zpT (waa _ hS)) (λx hx=>?_) λh' tk' k3 hS3=>?_
    ·obtain ⟨o,i,m,ho,q⟩:=hr x hx;have:=wai ho;exact ⟨⟨o,i,m,waa _ (waa _ ho),q⟩,by rw[hzI];exact waM (Nat.lt_succ_of_lt this),waM this⟩
    ·show wpAny _ _ _ _ _ _;refine wad ?_;show wpAny _ _ (ret Value.none) _ _ _;refine wad ⟨rfl,h',tk',rfl,by unfold zhZ at hS3;rw[List.take_length] at hS3;exact hS3,λb o e=>?_⟩;have:=wai e;exact k3 b o (by rw[hzI];exact waM (Nat.lt_succ_of_lt this)) (waM this) (waa _ (waa _ e))
   ·cases r₂ with
    |error e=>exact hr₂
    |ok fl₂ =>
     cases fl₂ with
     |ret r =>
      obtain ⟨rfl,h',tk,rfl,hS',hk'⟩:=hr₂
      repeat (any_goals (first|assumption|wp_step))
      exact h _ _ hS' hk'
     |_=>exact hr₂.elim
  |_=>exact hr₁.elim
end
theorem zcw:Slot "set_iterator" "__next__" "set_iterator.__next__" :=
 .of (owner:="set_iterator") (n:="__next__") (by rw[typeLookup_type,builtinLookup_eq_fast];kernel_rfl) xwD xwD xwD (by first|exact .inl xwD|exact .inr xwD) (by rw[isSubtype_type];kernel_rfl)
theorem ziy:entryFor table "set_iterator.__next__"=some Builtin.«set_iterator.__next__» := entryFor_of_fast xwk
theorem zkn(a:Value):argsOk "set_iterator.__next__" ⟨[a],[]⟩:=by unfold argsOk;kernel_rfl
theorem zjT:entryFor table "set.__iter__"=some Builtin.«frozenset.__iter__» := entryFor_alias (id':="frozenset.__iter__") xwk rfl xwD xwk
theorem znF{α:Type}:∀(l:List α)(i:Nat)(h:i<l.length),(l[i]::l.eraseIdx i).Perm l
 |x::l,0,_=>List.Perm.refl _
 |x::l,i+1,h=>by simp only[wan] at h;exact (List.Perm.swap x (l[i]'xwl) _).trans (List.Perm.cons x (znF l i xwl))
theorem zoR{α:Type}(nx:Nat->Nat):∀(fuel k:Nat)(left:List α)(out:Array α),left.length=fuel->(pickOrder.go nx fuel k left out).toList.Perm (out.toList++left)
 |0,k,left,out,h=>by have:left=[]:=List.length_eq_zero_iff.mp h;subst this;unfold pickOrder.go;simp
 |fuel+1,k,left,out,h=>by unfold pickOrder.go;have hl:nx k % left.length<left.length:=Nat.mod_lt _ xwl;rw[List.getElem?_eq_getElem hl];dsimp only;refine (zoR nx fuel (k+1) _ _ (by rw[List.length_eraseIdx_of_lt hl];lia)).trans ?_;rw[Array.toList_push,List.append_assoc];exact (List.Perm.refl _).append (znF left _ hl)
theorem znB{α:Type}(nx:Nat->Nat)(xs:Array α):(pickOrder nx xs).toList.Perm xs.toList:=by have:=zoR nx xs.size 0 xs.toList #[] xws;simpa [pickOrder] using this
def ord(w:World)(a:Addr)(ep:Nat)(es:Array (Int×Value)):Array (Int×Value):=if w.params.followText "set-order" then pickOrder (w.params.setOrder a ep) es else es
theorem zga(w:World)(a:Addr)(ep:Nat)(es:Array (Int×Value)):(ord w a ep es).toList.Perm es.toList:=by
 unfold ord;split
 ·exact znB _ _
 ·exact List.Perm.refl _
theorem zlE{t:SetTable}{n:Nat}(T:TO t n):below t.place 0=0/\∀ i j,t.place[i]? = some j->below t.place (j+1)=i+1:=by
 constructor
 ·obtain ⟨b0,b1,_⟩:=zfT (j:=0) T.ris;cases hb:below t.place 0 with
  |zero=>rfl
  |succ m=>exact absurd (b1 0 _ (Array.getElem?_eq_getElem xwl) xwl) (Nat.not_lt_zero _)
 ·intro i j hj;obtain ⟨hi,he⟩:=Array.getElem?_eq_some_iff.mp hj;obtain ⟨b0,b1,b2⟩:=zfT (j:=j+1) T.ris;have h1:¬ below t.place (j+1)<=i:=λh=>by have:=b2 i j hj h;lia
  refine Classical.byContradiction λhc=>?_;have hlt:i+1<t.place.size:=by lia
  have h2:=b1 (i+1) _ (Array.getElem?_eq_getElem hlt) xwl;have h3:=List.pairwise_iff_getElem.mp T.ris i (i+1) (by simpa using hi) (by simpa using hlt) xwl;simp only[Array.getElem_toList] at h3;lia
def ztQ(h:Heap)(I S:Addr)(w:World)(es:Array (Int×Value))(ep:Nat)(t:SetTable)(i:Nat):Prop :=
 ∃ o slot,h.get? I=some o/\o.cls=.type "set_iterator"/\o.data=.fields #[.int (slot:Nat) 0,.int i 0,.ref S,.int es.size 0,.int ep 0]/\(w.params.followText "set-order"=false->below t.place slot=i)
section
variable{prog:Program}{w:World}{A:Around}{E:Value->Shared->Prop}{s:Shared}
theorem zta{S:Addr}{o:Obj}{es:Array (Int×Value)}{ep:Nat}{t:SetTable}{Q:Array (Int×Value)->Shared->Prop}(hb:w.params.followText "set-order"=true)(ho:s.heap.get? S=some o)(hd:o.data=.set es ep t)(hf:t.fits es.size=true)
  (h:Q (ord w S ep es) s):wpAny (model prog w) A (setWalk S) Q E s:=by
 unfold setWalk;refine wab (wpAny_setState_of ho hd hf ?_);dsimp only;unfold setsByText;refine wab (wab (wpAny_askSetting (wad ?_)));show wpAny _ _ (if w.params.followText "set-order"=true then _ else _) _ _ _;rw[if_pos hb];refine wab (wpAny_askSetting (wad ?_));unfold ord at h;rw[if_pos hb] at h;exact h
theorem ztG{S:Addr}{o:Obj}{es:Array (Int×Value)}{ep slot i:Nat}{t:SetTable}{Q:Option (Value×Nat)->Shared->Prop}(ho:s.heap.get? S=some o)(hd:o.data=.set es ep t)(T:TH S (!w.params.followText "set-order") es t)
  (hs:w.params.followText "set-order"=false->below t.place slot=i)
  (h1:∀ x slot',(ord w S ep es)[i]? = some x->(w.params.followText "set-order"=false->below t.place slot'=i+1)->Q (some (x.2,slot')) s)
  (h2:(ord w S ep es)[i]? = none->Q none s):wpAny (model prog w) A (setNext S slot i ep) Q E s:=by
 have hf:=zdE T.to (by have:=T.room;lia);unfold setNext;refine wab (wpAny_setState_of ho hd hf ?_);dsimp only;unfold setsByText;refine wab (wab (wpAny_askSetting (wad ?_)));show wpAny _ _ (if w.params.followText "set-order"=true then _ else _) _ _ _;by_cases hb:w.params.followText "set-order"=true
 ·rw[if_pos hb];simp only[bne_self_eq_false,Bool.false_eq_true,if_false];refine wab (zta hb ho hd hf (wad ?_));cases hx:(ord w S ep es)[i]? with
  |none=>exact h2 hx
  |some x=>exact h1 x slot hx λh=>by rw[hb] at h;cases h
 ·rw[if_neg hb];have hb':w.params.followText "set-order"=false:=by simpa using hb
  have hld:t.led=true:=by rw[T.led,hb'];rfl
  show wpAny _ _ (if (!t.plain && decide (es.size > 1))=true then _ else _) _ _ _;rw[T.plain,if_neg xws];refine wab ?_;show wpAny _ _ (if (!t.led && !es.isEmpty)=true then _ else _) _ _ _;rw[hld,if_neg xws];refine wad (wad ?_);rw[hs hb'];have ho':ord w S ep es=es:=by unfold ord;rw[if_neg hb]
  rw[ho'] at h1 h2;have hz:=T.to.siz;cases hx:es[i]? with
  |none=>exact h2 hx
  |some x =>
   obtain ⟨hi,_⟩:=Array.getElem?_eq_some_iff.mp hx;have hp:t.place[i]? = some t.place[i]:=Array.getElem?_eq_getElem xwl;rw[hp];exact h1 x _ hx λ_=>(zlE T.to).2 i _ hp
theorem TH.fits{S:Addr}{b:Bool}{es:Array (Int×Value)}{t:SetTable}(T:TH S b es t):t.fits es.size=true:=zdE T.to (by have:=T.room;lia)
theorem znv{I:Addr}{o:Obj}{xs:Array Value}{Q:Array Value->Shared->Prop}{M:Model}(ho:s.heap.get? I=some o)(hd:o.data=.fields xs)(h:Q xs s):wpAny M A (fieldsOf (.ref I)) Q E s:=by unfold fieldsOf;refine wab (wpAny_load ho ?_);rw[hd];exact wad h
theorem zhL{I S:Addr}{o:Obj}{es:Array (Int×Value)}{ep i:Nat}{t:SetTable}{Q:Option Value->Shared->Prop}(hh:A.handled=none)(ho:s.heap.get? S=some o)(hd:o.data=.set es ep t)(T:TH S (!w.params.followText "set-order") es t)
  (hi:ztQ s.heap I S w es ep t i) (hSI:S≠I)
  (h1:∀ x h',(ord w S ep es)[i]? = some x->ztQ h' I S w es ep t (i+1)->Heap.SameBut I s.heap h'->Q (some x.2) { s with heap:=h' })
  (h2:∀ h',(ord w S ep es)[i]? = none->Heap.ExtBut I s.heap h'->Q none { s with heap:=h' }):wpAny (model prog w) A (pyNext (.ref I)) Q E s:=by
 obtain ⟨oI,slot,hoI,hcI,hdI,hsl⟩:=hi;have hT:s.TypeIs (.ref I) "set_iterator":=⟨oI,hoI,hcI⟩
 unfold pyNext;refine wab (wpAny_attempt (wpAny_callSpecial?_slot (name:=Str.ofString "__next__") hT zcw (wpAny_call_entry zcw hT ziy ?_ (zkn _))));show wpAny _ _ (fieldsOf (.ref I) >>= _) _ _ s;refine wab (znv hoI hdI ?_);dsimp only;unfold setEntries;refine wab (wab (wpAny_setState_of ho hd T.fits (wad ?_)));dsimp only;simp only[bne_self_eq_false,Bool.false_eq_true,if_false,Int.toNat_natCast];refine wab (ztG (A:=A.in1) ho hd T hsl (λx slot' hx hs'=>?_) λhx=>?_)
 ·dsimp only;refine wab (wpAny_setField hoI hdI xws ?_);have hg1:=Heap.get?_update_self (Obj.mapFields λxs=>xs.setIfInBounds 0 (rawInt slot')) hoI (Obj.isFreed_of_fields (Obj.data_mapFields hdI _));refine wab (wpAny_setField hg1 (Obj.data_mapFields hdI _) xws (wad ⟨x.2,rfl,wad (h1 x _ hx ⟨_,slot',Heap.get?_update_self _ hg1 (Obj.isFreed_of_fields (Obj.data_mapFields (Obj.data_mapFields hdI _) _)),?_,?_,hs'⟩ ((Heap.SameBut.update ..).trans (Heap.SameBut.update ..)))⟩))
  ·exact (Obj.cls_mapFields ..).trans ((Obj.cls_mapFields ..).trans hcI)
  ·rw[Obj.data_mapFields (Obj.data_mapFields hdI _)];simp[rawInt]
 ·dsimp only;refine wab (wpAny_setField hoI hdI xws ?_);refine wab ?_;simp only[newExc,newTuple];refine wab (wpAny_newObj_type ?_ (by size_fits));refine wab (m:=firstArgMember _ _) (wpAny_of_eq (a:=Value.none) (by first|rfl|(simp only[firstArgMember];rfl)) ?_);refine wpAny_newObj_type ?_ (by size_fits);simp only[raiseNew];refine wab (wpAny_handled ?_);rw[show A.in1.handled=none from hh];refine wab (wad (wpAny_throw ?_));refine wab (wpAny_isInstance (T:="StopIteration") (b:=true) ⟨_,waj _ rfl,rfl⟩ isSubtype_stop ?_);exact wad (h2 _ hx (((Heap.SameBut.update ..).extBut.push _).push _))
end
theorem zfD:Slot "set_iterator" "__iter__" "set_iterator.__iter__" :=
 .of (owner:="set_iterator") (n:="__iter__") (by rw[typeLookup_type,builtinLookup_eq_fast];kernel_rfl) xwD xwD xwD (by first|exact .inl xwD|exact .inr xwD) (by rw[isSubtype_type];kernel_rfl)
theorem zin:entryFor table "set_iterator.__iter__"=some Builtin.«dict_keyiterator.__iter__» := entryFor_alias (id':="dict_keyiterator.__iter__") xwk rfl xwD xwk
theorem zjm(a:Value):argsOk "set_iterator.__iter__" ⟨[a],[]⟩:=by unfold argsOk;kernel_rfl
def itO(S:Addr)(n ep:Nat):Obj:={ cls:=.type "set_iterator",data:=.fields #[.int (0:Nat) 0,.int (0:Nat) 0,.ref S,.int n 0,.int ep 0] }
section
variable{prog:Program}{w:World}{A:Around}{E:Value->Shared->Prop}{s:Shared}
theorem zqj{S:Addr}{o:Obj}{es:Array (Int×Value)}{ep:Nat}{t:SetTable}{Q:Value->Shared->Prop}(ho:s.heap.get? S=some o)(hc:o.cls=.type "set")(hd:o.data=.set es ep t)(T:TH S (zer w) es t)
  (h:Q (.ref s.heap.objs.size) { s with heap:=s.heap.push (itO S es.size ep) }):wpAny (model prog w) A (pyIter (.ref S)) Q E s:=by
 have hT:s.TypeIs (.ref S) "set":=⟨o,ho,hc⟩
 refine wpAny_pyIter_slot hT F.slot_set_iter (wpAny_call_entry F.slot_set_iter hT zjT ?_ (F.args_set_iter_1 _));show wpAny _ _ (Builtin.Frozenset.sizeOf S >>= _) _ _ s;unfold Builtin.Frozenset.sizeOf setEntries;refine wab (wab (wab (wpAny_setState_of ho hd T.fits (wad (wad ?_)))));unfold setDrawn;refine wab (wab (wpAny_setState_of ho hd T.fits ?_));dsimp only;unfold setsByText;refine wab (wab (wpAny_askSetting (wad (wad ?_))));show wpAny _ _ (if (!_ && (!t.plain && _))=true then _ else _) _ _ _;rw[T.plain,if_neg xws];refine wab (wad ?_);unfold setEpoch;refine wab (wab (wpAny_setState_of ho hd T.fits (wad ?_)));exact wab (wpAny_newObj_type (wad ⟨_,rfl,"set_iterator",_,⟨_,waj _ rfl,rfl⟩,zcw.lookup,h⟩))
theorem zqU(hh:A.handled=none){I S:Addr}(hne:S≠I){es:Array (Int×Value)}{ep:Nat}{t:SetTable}(T:TH S (zer w) es t) :
  Walks prog w A I [I,S] [I] es.size (λi v=>∃ x,(ord w S ep es)[i]? = some x/\v=x.2) (λi h=>ztQ h I S w es ep t i/\∃ o,h.get? S=some o/\o.data=.set es ep t) where
 sub:=λb hb=>by simp at hb;simp[hb]
 frame:=λi h h' st hk=>by obtain ⟨⟨o,sl,a,b⟩,o2,c,d⟩:=st;exact ⟨⟨o,sl,hk I xws o a,b⟩,o2,hk S xws o2 c,d⟩
 item:=λi s Q E hi st hQ=>by
  obtain ⟨st1,o,ho,hd⟩:=st;have hz:(ord w S ep es).size=es.size:=by rw[<- Array.length_toList,(zga w S ep es).length_eq,Array.length_toList]
  refine zhL hh ho hd T st1 hne (λx h' hx hs hb=>?_) λh' hx he=>?_
  ·exact hQ _ h' s.toks ⟨x,hx,rfl⟩ ⟨hs,o,by rw[hb.2 S hne];exact ho,hd⟩ λb o hb' e=>hb.extBut b o (λh=>hb' (by simp[h])) e
  ·rw[Array.getElem?_eq_none_iff] at hx;lia
 done:=λs Q E st hQ=>by
  obtain ⟨st1,o,ho,hd⟩:=st;have hz:(ord w S ep es).size=es.size:=by rw[<- Array.length_toList,(zga w S ep es).length_eq,Array.length_toList]
  refine zhL hh ho hd T st1 hne (λx h' hx hs hb=>?_) λh' hx he=>?_
  ·obtain ⟨hi,_⟩:=Array.getElem?_eq_some_iff.mp hx;lia
  ·exact hQ h' s.toks λb o hb e=>he b o (λh=>hb (by simp[h])) e
 self:=λi s Q E st hQ=>by
  obtain ⟨⟨o,sl,ho,hc,_⟩,_⟩:=st;have hT:s.TypeIs (.ref I) "set_iterator":=⟨o,ho,hc⟩
  refine wpAny_pyIter_slot hT zfD (wpAny_call_entry zfD hT zin ?_ (zjm _));show wpAny _ _ (ret (.ref I)) _ _ s;exact wad ⟨_,rfl,"set_iterator",_,hT,zcw.lookup,hQ⟩
end
section
variable{prog:Program}{w:World}{A:Around}{E:Value->Shared->Prop}{s:Shared}
theorem zk7{S:Addr}{L:List (List Int×Addr)}{Q:List Value->Shared->Prop}(hh:A.handled=none)(hS:TS s.heap S (zer w) L)(hL:L.length<=1000)
  (hQ:∀ h' tk acc,acc.Perm (L.map λx=>Value.ref x.2)->(∀ b o,s.heap.get? b=some o->h'.get? b=some o)->s.heap.objs.size<h'.objs.size->Q acc { s with heap:=h',toks:=tk }) :
  wpAny (model prog w) A (collect (.ref S)) Q E s:=by
 obtain ⟨o,es,ep,t,ho,hex,hd,T,hp⟩:=hS;have hsz:es.size=L.length:=by have:=hp.length_eq;simpa using this
 have hlt:=wai ho;unfold collect;refine wab (wpAny_runValue (codeAny_builtin F.entry_proto_collect ?_));rw[Around.under_plainId F.plain_proto_collect _];show wpAny _ A.in1 (newList [] >>= λl=>again (.builtin "list.__iadd__" ⟨[l,.ref S],[]⟩)) _ _ s;refine wab (wpAny_newObj_type ?_);refine wad ⟨plainId_quiet F.plain_list_iadd _,codeAny_builtin F.entry_list_iadd ?_⟩;rw[Around.under_plainId F.plain_list_iadd _];generalize hh1:s.heap.push { cls:=.type "list",data:=.seq ([]:List Value).toArray }=h1;have hg:h1.get? s.heap.objs.size=some { cls:=.type "list",data:=.seq ([]:List Value).toArray }:=by rw[<- hh1];exact waj _ rfl
 have ho1:h1.get? S=some o:=by rw[<- hh1];exact waa _ ho
 have hk1:∀ b o,s.heap.get? b=some o->h1.get? b=some o:=λb o e=>by rw[<- hh1];exact waa _ e
 have hz1:h1.objs.size=s.heap.objs.size+1:=by rw[<- hh1];exact Heap.size_push ..
 have hT:Shared.TypeIs { s with heap:=h1 } (.ref S) "set":=⟨o,ho1,hex.1⟩
 show wpAny _ A.in1 (Builtin.List.listExtendWith (.ref s.heap.objs.size) (.ref S) (.ref s.heap.objs.size)) _ _ _;unfold Builtin.List.listExtendWith;refine wab (wpAny_typeOf hT ?_);have e1:Builtin.List.listSameRef (.ref s.heap.objs.size) (.ref S)=false:=by simp[Builtin.List.listSameRef,Nat.ne_of_gt hlt]
 have e2:(Value.type "set" == Value.type "list")=false:=by decide
 have e3:(Value.type "set" == Value.type "tuple")=false:=by decide
 simp only[e1,e2,e3,Bool.or_false,Bool.false_eq_true,if_false];refine wab (zqj (A:=A.in1) ho1 hex.1 hd T ?_);have hT2:Shared.TypeIs { s with heap:=h1.push (itO S es.size ep) } (.ref S) "set":=⟨o,waa _ ho1,hex.1⟩
 refine wab (wpAny_holding ?_);unfold Builtin.List.listLengthHint;refine wab (wpAny_specialOf hT2 F.slot_set_len.lookup ?_);have hid:splitId "set.__len__"=some ("set","__len__"):=by decide +kernel
 dsimp only;rw[hid];dsimp only;refine wab (wpAny_isInstance (b:=true) hT2 sub_set_self ?_);simp only[Bool.not_true,Bool.false_eq_true,if_false];rw[if_pos (show _=true by decide +kernel)];refine wab (wpAny_typeOf hT2 ?_);refine wad ?_;rw[if_pos (show _=true by decide +kernel)];refine wab (wpAny_rule ?_);refine wab ?_;generalize hh2:h1.push (itO S es.size ep)=h2;have hg2:h2.get? s.heap.objs.size=some { cls:=.type "list",data:=.seq ([]:List Value).toArray }:=by rw[<- hh2];exact waa _ hg
 have hi2:h2.get? (s.heap.objs.size+1)=some (itO S es.size ep):=by rw[<- hh2,<- hz1];exact waj _ rfl
 have hk2:∀ b o,s.heap.get? b=some o->h2.get? b=some o:=λb o e=>by rw[<- hh2];exact waa _ (hk1 b o e)
 show wpAny _ A.in1 (updateSeq s.heap.objs.size (·.push .none) >>= λ_=>updateSeq s.heap.objs.size (·.pop)) _ _ _;refine wab (wpAny_updateSeq hg2 rfl ?_);have hg3:=Heap.get?_update_self (Obj.mapSeq (·.push Value.none)) hg2 rfl;refine wpAny_updateSeq hg3 rfl ?_;have hg4:=Heap.get?_update_self (Obj.mapSeq (·.pop)) hg3 rfl;have oth:∀ b o,b≠s.heap.objs.size->h2.get? b=some o->((h2.update s.heap.objs.size (Obj.mapSeq (·.push Value.none))).update s.heap.objs.size (Obj.mapSeq (·.pop))).get? b=some o :=
  λb o hb e=>(Heap.get?_update_other _ _ (Ne.symm hb)).trans ((Heap.get?_update_other _ _ (Ne.symm hb)).trans e)
 generalize hh3:(h2.update s.heap.objs.size (Obj.mapSeq (·.push Value.none))).update s.heap.objs.size (Obj.mapSeq (·.pop))=h3 at hg4 oth ⊢;show wpAny _ _ (again (.builtin "list.extend.loop" ⟨[.ref s.heap.objs.size,.ref h1.objs.size,.ref s.heap.objs.size],[]⟩)) _ _ _;rw[hz1];have hSI:S≠s.heap.objs.size+1:=waM (Nat.lt_succ_of_lt hlt);refine wad ⟨plainId_quiet F.plain_extend_loop _,codeAny_extend_loopS ((zqU (ep:=ep) (A:=A.in1) (by simpa using hh) hSI T).toS) (by rw[hsz,sizeLine_eq];lia) _ (by simp only[wap,wak,or_false,not_or];exact ⟨waM (Nat.lt_succ_self _),Nat.ne_of_gt hlt⟩) _ es.size 0 _ _ _ rfl (Nat.zero_le _) ⟨⟨_,0,oth _ _ (Nat.ne_of_gt (Nat.lt_succ_self _)) hi2,rfl,rfl,λ_=>(zlE T.to).1⟩,o,oth _ _ (waM hlt) (hk2 _ _ ho),hd⟩ hg4 (ItemsOf.nil _) λs' acc' c' hm hS' hacc=>?_⟩
 obtain ⟨hz,hitem⟩:=hacc;have eacc:acc'.toList=(ord w S ep es).toList.map (·.2):=by
  refine List.ext_getElem? λj=>?_;rw[Array.getElem?_toList,List.getElem?_map,Array.getElem?_toList];have hz':(ord w S ep es).size=es.size:=by rw[<- Array.length_toList,(zga w S ep es).length_eq,Array.length_toList]
  cases hj:acc'[j]? with
  |none =>
   rw[Array.getElem?_eq_none_iff] at hj;rw[Array.getElem?_eq_none_iff.mpr xwl];rfl
  |some v =>
   obtain ⟨x,hx,rfl⟩:=hitem j v hj;rw[hx];rfl
 show wpAny _ A (load s.heap.objs.size >>= _) _ _ s';refine wab (wpAny_load hS' (wad ?_));obtain ⟨h',g',d',tk',os'⟩:=s';have eg:g'=s.gens:=hm.gens;have ed:d'=s.drawn:=hm.drawn;have eo:os'=s.os:=hm.os;subst eg;subst ed;subst eo;refine hQ h' tk' acc'.toList (by rw[eacc];exact ((zga w S ep es).map _).trans hp) (λb o' e=>?_) (wai hS');have hb:=wai e;refine hm.heap b o' ?_ (oth b o' (waM hb) (hk2 b o' e));simp only[wap,wak,or_false,not_or];exact ⟨waM hb,waM (Nat.lt_succ_of_lt hb)⟩
end
end Tx1
end
section
namespace Tx1
open PySem PySem.SetTable PyProof.Rows Ts
section
variable{prog:Program}{w:World}{A:Around}{E:Value->Shared->Prop}{s:Shared}
theorem sorted_set{S:Addr}{L:List (List Int×Addr)}{Q:Value->Shared->Prop}(hh:A.handled=none)(hS:TS s.heap S (zer w) L)(hL:L.length<=1000)(ht:∀ x∈L,TupAt s.heap (.ref x.2) x.1)
  (h:∀ h' tk a c (out:List Value),out.Perm (L.map λx=>Value.ref x.2)->out.Pairwise (λa b=>lxB (intsOf s.heap b) (intsOf s.heap a)=false)->(∀ b o,s.heap.get? b=some o->h'.get? b=some o)->s.heap.objs.size<=a ->
   h'.get? a=some (seqObj "list" out.toArray c)->Q (.ref a) { s with heap:=h',toks:=tk }) :
  wpAny (model prog w) A (call (.builtin "sorted") [.ref S]) Q E s:=by
 refine Calls.call_function_entry kind_sorted plain_sorted entry_sorted (args_sorted1 (.ref S)) ?_;unfold Builtin.«sorted»;refine wab (m:=checkCount "sorted" 1 1 _) (wad (wab (zk7 (by simpa using hh) hS hL λh1 tk acc pm k1 hlt=>?_)));have hlen:acc.length<=1000:=by rw[pm.length_eq,List.length_map];exact hL
 have hz:acc.length<=sizeLine:=by rw[sizeLine_eq];lia
 have hle:s.heap.objs.size<=h1.objs.size:=Nat.le_of_lt hlt;have htt:∀ v∈acc,∃ l,TupAt h1 v l:=λv hv=>by obtain ⟨x,hx,rfl⟩:=List.mem_map.mp (pm.mem_iff.mp hv);exact ⟨x.1,(ht x hx).keep k1⟩
 have hint:∀ v∈acc,intsOf h1 v=intsOf s.heap v:=λv hv=>by obtain ⟨x,hx,rfl⟩:=List.mem_map.mp (pm.mem_iff.mp hv);rw[(ht x hx).ints,((ht x hx).keep k1).ints]
 refine wab (wpAny_newList ?_ hz);generalize hh2:h1.push (seqObj "list" acc.toArray 0)=h2;have ff:h2.get? h1.objs.size=some (seqObj "list" acc.toArray 0):=by rw[<- hh2];exact waj _ rfl
 have k2:∀ b o,h1.get? b=some o->h2.get? b=some o:=λb o e=>by rw[<- hh2];exact waa _ e
 have hz2:h2.objs.size=h1.objs.size+1:=by rw[<- hh2];exact size_push' ..
 have fin:∀ out:List Value,out.Perm acc->out.Pairwise (λa b=>lxB (intsOf h1 b) (intsOf h1 a)=false)->Q (.ref h1.objs.size) { s with heap:=sortedHeap h2 h1.objs.size acc out.toArray,toks:=tk }:=λout p1 p2=>by
  obtain ⟨c,hc⟩:=sortedHeap_at (out:=out.toArray) ff;refine h _ tk h1.objs.size c out (p1.trans pm) ?_ (λb o e=>?_) hle hc
  ·refine List.Pairwise.imp_of_mem (λ{a b} ha hb hab=>?_) p2;rw[<- hint _ (p1.mem_iff.mp ha),<- hint _ (p1.mem_iff.mp hb)];exact hab
  ·have hb:=wai (k1 b o e);rw[sortedHeap_old (Nat.ne_of_lt hb) (by rw[hz2];exact Nat.lt_succ_of_lt hb)];exact k2 b o (k1 b o e)
 have up:∀(h3:Heap),(∀ b o,b≠h1.objs.size->h2.get? b=some o->h3.get? b=some o)->∀ b o,h1.get? b=some o->h3.get? b=some o:=λh3 k b o e=>k b o (waM (wai e)) (k2 b o e);refine wab (wpAny_holding (wpAny_call_entry slot_list_sort ⟨_,ff,rfl⟩ entry_list_sort ?_ (args_list_sort _)));by_cases hfew:acc.length<2
 ·exact zmc (s:={ s with heap:=h2,toks:=tk }) ff hfew ⟨_,rfl,wad ⟨_,rfl,fin acc (.refl _) (zr3 hfew)⟩⟩
 ·refine zhG (s:={ s with heap:=h2,toks:=tk }) (kd:=tuples' true) (r:=rkT h1 acc) (PK:=PT h1 acc) ff xwl hz (λh3 k Q E q=>zoq (s:={ s with heap:=h1,toks:=tk }) htt xwl (up h3 k) Q E q) (λh3 k=>zuF (s:={ s with heap:=h1,toks:=tk }) (up h3 k)) (zoF htt) λout pm' so=>?_;obtain ⟨h4,h5⟩:=zsi pm' htt so;have:=fin _ h4 h5;rw[Array.toArray_toList] at this;exact ⟨_,rfl,wad ⟨_,rfl,this⟩⟩
end
end Tx1
end
section
namespace PV
open PySem PySem.Spec L2 PyProof.Rows
def zr2(K:W.Frag):List V->Hp->VK->Prop:=λxs H Q=>∃(p:Addr)(ps:List (Addr×List Int)),xs=[.ref p]/\SqL K H p (ps.map λq=>V.ref q.1)/\(∀ q∈ps,SqT K H q.1 (q.2.map V.int)/\q.2≠[])/\ps.Pairwise (λx y=>x.2≠y.2)/\ps.length<=1000 /\
 ∀ ps':List (Addr×List Int),ps'.Perm ps->ps'.map (·.2)=zfo (ps.map (·.2))->∀ l,H l=none->Q (.ref l) (upd H l (.lst (ps'.map λq=>V.ref q.1)))
section
variable{X:Cx}{C:Cn}{fa:De}{x:Expr}{p p2 pos pos2:Pos}
theorem zqQ{ta:TA}(hc:X.calm=true)(hu:X.A.units+64<cLine)(hg:Gl X "sorted")(hm:X.mg "sorted"=none)(hg2:Gl X "set")(hm2:X.mg "set"=none)(ha:PA X [x] ta)
  (hs1:starEach [.Call (.Name "set" p2) [x] [] pos2] X.env=(false,eval (.Call (.Name "set" p2) [x] [] pos2) X.env)::starEach [] X.env:=by rfl) (hpl1:(backTo pos (starEach [] X.env)).any (·.1)=false:=by rfl)
  (hs2:starEach [x] X.env=(false,eval x X.env)::starEach [] X.env:=by rfl) (hpl2:(backTo pos2 (starEach [] X.env)).any (·.1)=false:=by rfl) :
  PE X (.Call (.Name "sorted" p) [.Call (.Name "set" p2) [x] [] pos2] [] pos) (tCB (zr2 X.K) ta):=by
 intro pS s Y H Q I h;refine wpAny_Call_Name_kw (zdq I hg hm boot_sorted (callWith_builtin1 ?_ hs1 hpl1) xwd xwd);rw[hs1];show wpAny _ _ (spliced ((false,eval _ X.env)::backTo pos (starEach [] X.env))) _ _ s;refine Calls.spliced_cons ?_;refine wpAny_Call_Name_kw (zdq I hg2 hm2 boot_set (callWith_type1 (thn (ha pos2 pS s Y H _ I h) λus s1 ⟨vs,H1,I1,r1,q1⟩=>?_) hs2 hpl2) xwd xwd);obtain ⟨l,ps,rfl,hq,ht,hnd,hlen,q⟩:=q1;obtain ⟨u,rfl,ru⟩:=zcG r1;cases ru;obtain ⟨its,rv,pl,hz⟩:=I1.list hq;have e0:(ps.map λq=>V.ref q.1)=(ps.map (·.1)).map V.ref:=by rw[List.map_map];rfl
 rw[e0] at rv;have ei:=zgX rv;have tup:∀ q∈ps,Ts.TupAt s1.heap (.ref q.1) q.2/\Tx1.RowAt s1.heap q.2 q.1:=λq hq'=>by obtain ⟨h1,h2⟩:=ht q hq';obtain ⟨its',rv',⟨o,ho,hc,n,hd⟩,hz'⟩:=I1.tuple h1;exact ⟨⟨⟨q.1,o,its'.toArray,n,rfl,ho,hc,hd,by simpa using ztZ rv'⟩,h2⟩,o,its'.toArray,n,ho,hc,hd,by simpa using L2.intsAre_of rv'⟩
 have hh:=I1.ok.hd hc;refine Tx1.call_set_rows (rs:=ps.map λq=>(q.2,q.1)) hh xwo pl.isList (by rw[ei,List.map_map,List.map_map];rfl) (λy hy=>?_) (List.pairwise_map.mpr hnd) (by simpa using hlen) λh2 tk2 hS2 k2=>?_
 ·obtain ⟨q,hq',rfl⟩:=List.mem_map.mp hy;exact (tup q hq').2
 refine Calls.spliced_nil ?_;have tup2:∀ q∈ps,Ts.TupAt h2 (.ref q.1) q.2:=λq hq'=>(tup q hq').1.keep k2;refine Tx1.sorted_set (s:={ s1 with heap:=h2,toks:=tk2 }) hh hS2 (by simpa using hlen) (λy hy=>?_) λh3 tk3 a c out pm so k3 hle hat=>?_
 ·obtain ⟨q,hq',rfl⟩:=List.mem_map.mp (List.mem_reverse.mp hy);exact tup2 q hq'
 have pm1:out.Perm its:=by refine pm.trans ?_;rw[ei,List.map_reverse,List.map_map,List.map_map];exact List.reverse_perm _
 have hsz:s1.heap.objs.size<h2.objs.size:=by obtain ⟨o,_,_,_,ho,_⟩:=hS2;exact wai ho
 let back:Value->Addr×List Int:=λv=>(match v with|.ref a=>a|_=>0,Ts.intsOf h2 v)
 have eb:its.map back=ps:=by
  rw[ei,List.map_map,List.map_map];have:∀ q∈ps,((back ∘ Value.ref) ∘ λx=>x.1) q=q:=λq hq'=>by show (q.1,Ts.intsOf h2 (.ref q.1))=q;rw[(tup2 q hq').ints]
  calc _=ps.map id:=List.map_congr_left this
   _=ps:=List.map_id _
 have pm':(out.map back).Perm ps:=by rw[<- eb];exact pm1.map back
 have eo:out=((out.map back).map (·.1)).map Value.ref:=by
  rw[List.map_map,List.map_map];have:∀ v∈out,v=((Value.ref ∘ λx=>x.1) ∘ back) v:=λv hv=>by have hv':=pm1.mem_iff.mp hv;rw[ei,List.map_map] at hv';obtain ⟨q,h1,rfl⟩:=List.mem_map.mp hv';rfl
  calc out=out.map id:=(List.map_id _).symm
   _=_:=List.map_congr_left this
 have es:(out.map back).map (·.2)=zfo (ps.map (·.2)):=by refine zeH ((pm'.map _).trans (zbb _).symm) ?_ (zch _);rw[List.map_map,List.pairwise_map];refine so.imp λ{a b} hab=>?_;show leL (Ts.intsOf h2 a) (Ts.intsOf h2 b)=true;unfold leL;rw[hab];rfl
 have hlen':out.length<=sizeLine:=by rw[pm1.length_eq,ei,List.length_map,List.length_map,sizeLine_eq];omega
 have hle':s1.heap.objs.size<=a:=waN (Nat.le_of_lt hsz) hle;refine ⟨.ref a,_,I1.laid (t':=tk3) (λb o e=>k3 b o (k2 b o e)) hle' (o:=.lst ((out.map back).map λq=>V.ref q.1)) ⟨?_,out,c,?_,hat⟩,rfl,q _ pm' es _ (I1.hok.fresh hle')⟩
 ·rw[List.length_map,List.length_map];exact hlen'
 ·have e1:((out.map back).map λq=>V.ref q.1)=((out.map back).map (·.1)).map V.ref:=by rw[List.map_map,List.map_map,List.map_map];rfl
  have e2:=zdN ((out.map back).map (·.1));rw[<- eo] at e2;rw[e1];exact e2
def zeh:List Dt->R (List Dt)
 |[.lst l]=>match zqa l with
  |some ls=>if ls.Nodup/\ls.length<=1000 then .ok ((zfo ls).map zwm) else .no
  |none=>.no
 |_=>.no
theorem zrf{K:W.Frag}:FnN K (zr2 K) zeh:=λG H vs ds z Q gh hr e k=>by
 unfold zeh at e;split at e
 ·split at e
  ·rename_i ls el;split at e
   ·rename_i hnl;obtain ⟨v,rfl,h1⟩:=zdu hr;obtain ⟨a,us,rfl,h2,h3⟩:=zaK h1;cases e;obtain ⟨ps,e1,e2,e3⟩:=zgu h3 el;subst e1;rw[<- e2] at hnl;refine ⟨a,ps,rfl,SqL.of (gh _ _ h2),λq hq=>⟨zaE gh (e3 q hq).1.sq,(e3 q hq).2⟩,List.pairwise_map.mp hnl.1,by simpa using hnl.2,λps' pm es l hl=>k l _ hl ?_⟩;rw[<- e2,<- es];exact zg1 λq hq=>e3 q (pm.mem_iff.mp hq)
   ·cases e
  ·cases e
 ·cases e
theorem zqZ:ziO zeh:=λx n h=>by
 unfold zeh at h;split at h
 ·split at h
  ·split at h <;> cases h
  ·cases h
 ·cases h
theorem zpY(hc:X.calm=true)(hu:X.A.units+64<cLine)(hg:Gl X "sorted")(hm:X.mg "sorted"=none)(hg2:Gl X "set")(hm2:X.mg "set"=none)(ha:JE X C x fa)
  (hs1:starEach [.Call (.Name "set" p2) [x] [] pos2] X.env=(false,eval (.Call (.Name "set" p2) [x] [] pos2) X.env)::starEach [] X.env:=by rfl) (hpl1:(backTo pos (starEach [] X.env)).any (·.1)=false:=by rfl)
  (hs2:starEach [x] X.env=(false,eval x X.env)::starEach [] X.env:=by rfl) (hpl2:(backTo pos2 (starEach [] X.env)).any (·.1)=false:=by rfl) :
  JN X C (.Call (.Name "sorted" p) [.Call (.Name "set" p2) [x] [] pos2] [] pos) (zf9 zeh (dA fa dA0)) :=
 PE.weak (zqQ hc hu hg hm hg2 hm2 (zax ha zaC hs2) hs1 hpl1 hs2 hpl2) λY H Q t=>zge zrf zqZ t
end
end PV
end
section
namespace Lw
open PySem PySem.Spec L2 PV
def top(i:Nat):Stmt:=PySem.Challenge.pw_standtogether_k07_whole_trees_tell_rows.main.body.getD i (.Pass ⟨0,0,0,0⟩)
abbrev Uf(K:W.Frag)(mg:Str->Option Value)(x:String)(i:Nat):Prop:=∃ f fd,Fun K (Str.ofString x) (Str.ofString x) (top i) f fd/\mg (Str.ofString x)=some (.ref f)
structure Tx(K:W.Frag)(mg:Str->Option Value):Prop where
 u_is_whole:Uf K mg "is_whole" 6
 u_check_guests:Uf K mg "check_guests" 7
 u_is_guest:Uf K mg "is_guest" 8
 u_are_guests:Uf K mg "are_guests" 9
 u_is_seating:Uf K mg "is_seating" 10
 u_sits:Uf K mg "sits" 11
 u_is_leaf:Uf K mg "is_leaf" 13
 u_row_as_written:Uf K mg "row_as_written" 14
 u_guests_in:Uf K mg "guests_in" 15
 u_count_rows:Uf K mg "count_rows" 16
 u_rows_many:Uf K mg "rows_many" 17
 u_orders_of:Uf K mg "orders_of" 18
 u_strung:Uf K mg "strung" 19
 u_all_rows:Uf K mg "all_rows" 20
 u_rows_of:Uf K mg "rows_of" 21
 u_runs:Uf K mg "runs" 22
 u_keeps:Uf K mg "keeps" 23
 u_has_row:Uf K mg "has_row" 24
 u_row_at:Uf K mg "row_at" 25
 u_number_of:Uf K mg "number_of" 26
 u_least_guest:Uf K mg "least_guest" 27
 u_put_least:Uf K mg "put_least" 28
 u_least_form:Uf K mg "least_form" 29
 u__law_cell_at:Uf K mg "_law_cell_at" 31
 u__law_state:Uf K mg "_law_state" 32
 u__law_take:Uf K mg "_law_take" 33
 u__law_mixed_row:Uf K mg "_law_mixed_row" 34
 u__law_tree:Uf K mg "_law_tree" 35
 u_law:Uf K mg "law" 37
 b_all:mg (Str.ofString "all")=none
 b_bool:mg (Str.ofString "bool")=none
 b_enumerate:mg (Str.ofString "enumerate")=none
 b_int:mg (Str.ofString "int")=none
 b_isinstance:mg (Str.ofString "isinstance")=none
 b_len:mg (Str.ofString "len")=none
 b_list:mg (Str.ofString "list")=none
 b_max:mg (Str.ofString "max")=none
 b_min:mg (Str.ofString "min")=none
 b_range:mg (Str.ofString "range")=none
 b_reversed:mg (Str.ofString "reversed")=none
 b_set:mg (Str.ofString "set")=none
 b_sorted:mg (Str.ofString "sorted")=none
 b_tuple:mg (Str.ofString "tuple")=none
 g_MOST_GUESTS:∃ t,mg (Str.ofString "MOST_GUESTS")=some (.int 7 t)
section
variable{P:Program}{w:World}{K:W.Frag}{mg:Str->Option Value}{base:Heap}{xv:Nat->Value}{cls:Nat->Addr}
abbrev znd:List Str:=["thing"]
abbrev zfr:List Str:=["thing"]
theorem zk5:za8 znd zfr (zak (top 6)):=⟨rfl,rfl,rfl,xwD,rfl,xwD,xwD⟩
noncomputable def zhB:DS:=(zaV (zkw (zsh "int" (zab 0)) (zwo (zsh "bool" (zab 0)))))
noncomputable def zbc:FD:=zay false [false] 0 zhB
theorem zfz(T:Tx K mg):Dfn false P w K mg base CX0 xv 3 (Str.ofString "is_whole") [false] zbc:=by obtain ⟨f,fd,U,hm⟩:=T.u_is_whole;refine ⟨f,fd,zfr,?_,hm,U.kp,U.binds (ps:=zfr) λ_ _ _ _ _ _ us hl=>match us,hl with|[_],_=>rfl,zav⟩;refine zaD (k:=2) false zaF U zk5 rfl rfl λX C hX hpp hxv hnw hr hx hpo=>?_;subst hxv;obtain ⟨cdv,A,outer,s,H,E,rfl⟩:=hX;exact (zah (za9 hnw (zjf (zlH ztF rfl T.b_isinstance zlV rfl T.b_int zvF (zaa 0)) (zhS (zrD (zlH zqi rfl T.b_isinstance zlV rfl T.b_bool zs5 (zaa 0)))))))
abbrev zhn:List Str:=["n"]
abbrev zc8:List Str:=["n"]
theorem zhd:za8 zhn zc8 (zak (top 7)):=⟨rfl,rfl,rfl,xwD,rfl,xwD,xwD⟩
noncomputable def zei:DS:=(dIf (zhy (zcK (dTB (zag zbc (dR (zab 0) dR0)))) (zhy (dTB (dOp gLt (zab 0) (dC (.int 1)))) (dTB (dOp gGt (zab 0) (dC (.int 7)))))) dNo dNx)
noncomputable def za7:FD:=zay false [false] 0 zei
theorem zbO(T:Tx K mg):Dfn false P w K mg base CX0 xv 6 (Str.ofString "check_guests") [false] za7:=by obtain ⟨f,fd,U,hm⟩:=T.u_check_guests;refine ⟨f,fd,zc8,?_,hm,U.kp,U.binds (ps:=zc8) λ_ _ _ _ _ _ us hl=>match us,hl with|[_],_=>rfl,zav⟩;refine zaD (k:=5) false zaF U zhd rfl rfl λX C hX hpp hxv hnw hr hx hpo=>?_;subst hxv;obtain ⟨cdv,A,outer,s,H,E,rfl⟩:=hX;exact (zah (zbS (JW.jt (zjM (zgJ (zcC (zaH (zfz T) hr xwl zaA (zad (zaa 0) zas)))) (zjM (zsK (zaa 0) zat) (zjF (ztq (zaa 0) (zsn rfl T.g_MOST_GUESTS.choose_spec)))))) (zah zhY) zaN))
abbrev zm7:List Str:=["n","thing"]
abbrev zf2:List Str:=["n","thing"]
theorem zlw:za8 zm7 zf2 (zak (top 8)):=⟨rfl,rfl,rfl,xwD,rfl,xwD,xwD⟩
noncomputable def zec:DS:=(zaV (zkw (zag zbc (dR (zab 1) dR0)) (zjv gLe gLt (dC (.int 0)) (zab 1) (zab 0))))
noncomputable def zbw:FD:=zay false [false,false] 0 zec
theorem zmQ(T:Tx K mg):Dfn false P w K mg base CX0 xv 6 (Str.ofString "is_guest") [false,false] zbw:=by obtain ⟨f,fd,U,hm⟩:=T.u_is_guest;refine ⟨f,fd,zf2,?_,hm,U.kp,U.binds (ps:=zf2) λ_ _ _ _ _ _ us hl=>match us,hl with|[_,_],_=>rfl,zav⟩;refine zaD (k:=5) false zaF U zlw rfl rfl λX C hX hpp hxv hnw hr hx hpo=>?_;subst hxv;obtain ⟨cdv,A,outer,s,H,E,rfl⟩:=hX;exact (zah (za9 hnw (zjf (zaH (zfz T) hr xwl zaA (zad (zaa 1) zas)) (zhS (zrg zwO zgm zff zuK zgm zff zat (zaa 1) (zaa 0))))))
abbrev zj1:List Str:=["n","thing"]
abbrev zdK:List Str:=["n","thing"]
theorem ziS:za8 zj1 zdK (zak (top 9)):=⟨rfl,rfl,rfl,xwD,rfl,xwD,xwD⟩
abbrev zcD:List Str:=["n","thing","part"]
theorem zgs:zcD.Nodup:=by decide +kernel
noncomputable def zjl:DS:=(zaV (zkw (zsh "tuple" (zab 1)) (dFn zmw (dA (dFz (zbQ (dIt (zab 1)) (zbv 2) dTT (zag zbw (dR (zab 0) (dR (zab 2) dR0))) 1)) dA0))))
noncomputable def zcq:FD:=zay false [false,false] 0 zjl
theorem zjs(T:Tx K mg):Dfn false P w K mg base CX0 xv 9 (Str.ofString "are_guests") [false,false] zcq:=by obtain ⟨f,fd,U,hm⟩:=T.u_are_guests;refine ⟨f,fd,zdK,?_,hm,U.kp,U.binds (ps:=zdK) λ_ _ _ _ _ _ us hl=>match us,hl with|[_,_],_=>rfl,zav⟩;refine zaD (k:=8) false zaF U ziS rfl rfl λX C hX hpp hxv hnw hr hx hpo=>?_;subst hxv;obtain ⟨cdv,A,outer,s,H,E,rfl⟩:=hX;exact (zah (za9 hnw (zjf (zlH ziZ rfl T.b_isinstance zlV rfl T.b_tuple ziG (zaa 1)) (zhS (zve rfl T.b_all (zaJ (zi2 (zck (zaa 1)) rfl (N':=zcD) (m:=1) xwk rfl (zb7 xwk) (zcS xwk) (zcO xwk) (λcl L s H fp G H' w Y=>⟨(zbd (i:=2) zgs rfl xwO (xwN rfl)),zdg,(zaH (zmQ T) hr xwl zaA (zad (zaa 0) (zad (zaa 2) zas)))⟩))))))))
abbrev zjJ:List Str:=["n","thing"]
abbrev zdM:List Str:=["n","thing"]
theorem zid:za8 zjJ zdM (zak (top 10)):=⟨rfl,rfl,rfl,xwD,rfl,xwD,xwD⟩
noncomputable def zjh:DS:=(zaG (dEx (zag za7 (dR (zab 0) dR0))) (zaV (zkw (zag zcq (dR (zab 0) (dR (zab 1) dR0))) (dOp (gEq false) (dFz (zf9 zeJ (dA (zab 1) dA0))) (dFz (zi9 (zab 0)))))))
noncomputable def zct:FD:=zay false [false,false] 0 zjh
theorem zkd(T:Tx K mg):Dfn false P w K mg base CX0 xv 12 (Str.ofString "is_seating") [false,false] zct:=by obtain ⟨f,fd,U,hm⟩:=T.u_is_seating;refine ⟨f,fd,zdM,?_,hm,U.kp,U.binds (ps:=zdM) λ_ _ _ _ _ _ us hl=>match us,hl with|[_,_],_=>rfl,zav⟩;refine zaD (k:=11) false zaF U zid rfl rfl λX C hX hpp hxv hnw hr hx hpo=>?_;subst hxv;obtain ⟨cdv,A,outer,s,H,E,rfl⟩:=hX;exact (zae (zc6 (zaH (zbO T) hr xwl zaA (zad (zaa 0) zas))) (zah (za9 hnw (zjf (zaH (zjs T) hr xwl zaA (zad (zaa 0) (zad (zaa 1) zas))) (zhS (zmT (zhk hr) (zaJ (zpV rfl T.b_sorted (zaa 1))) (zaJ (zkY rfl rfl T.b_list rfl T.b_range (zaa 0)))))))))
abbrev zvn:List Str:=["seating","party","places"]
abbrev zou:List Str:=["seating","party"]
theorem zoy:za8 zvn zou (zak (top 11)):=⟨rfl,rfl,rfl,xwD,rfl,xwD,xwD⟩
abbrev zgD:List Str:=["seating","party","places","guest"]
theorem zn1:zgD.Nodup:=by decide +kernel
noncomputable def zo6:DS:=(zaG (zbo 2 (dFz (zbQ (dIt (zab 1)) (zbv 3) dTT (zks (zab 0) (zab 3)) 1))) (zaV (dOp (gEq false) (dOp zmF (dFn zkk (dA (zab 2) dA0)) (dFn zj8 (dA (zab 2) dA0))) (dOp zmF (dFn zdv (dA (zab 1) dA0)) (dC (.int 1))))))
noncomputable def zjg:FD:=zay false [false,false] 1 zo6
theorem zvb(T:Tx K mg):Dfn false P w K mg base CX0 xv 3 (Str.ofString "sits") [false,false] zjg:=by obtain ⟨f,fd,U,hm⟩:=T.u_sits;refine ⟨f,fd,zou,?_,hm,U.kp,U.binds (ps:=zou) λ_ _ _ _ _ _ us hl=>match us,hl with|[_,_],_=>rfl,zav⟩;refine zaD (k:=2) false zaF U zoy rfl rfl λX C hX hpp hxv hnw hr hx hpo=>?_;subst hxv;obtain ⟨cdv,A,outer,s,H,E,rfl⟩:=hX;exact (zae (zdU (i:=2) zoy.nd rfl xwO (by rw[hpp];decide) (zck (zaa 1)) rfl (N':=zgD) (m:=1) xwk rfl (zb7 xwk) (zcS xwk) (zcO xwk) (λcl L s H fp G H' w Y=>⟨(zbd (i:=3) zn1 rfl xwO (xwN rfl)),zdg,(zol (zwr hr) (zaa 0) (zaa 3))⟩)) (zah (za9 hnw (zmT (zhk hr) (zmm (zuy rfl T.b_max (zaa 2)) (zuv rfl T.b_min (zaa 2))) (zmm (zhq T.b_len (zaa 1)) zat)))))
abbrev znl:List Str:=["tree"]
abbrev zg3:List Str:=["tree"]
theorem zm1:za8 znl zg3 (zak (top 13)):=⟨rfl,rfl,rfl,xwD,rfl,xwD,xwD⟩
noncomputable def zoU:DS:=(zaV (zwo (zsh "tuple" (zab 0))))
noncomputable def zaI:FD:=zay false [false] 0 zoU
theorem zdL(T:Tx K mg):Dfn false P w K mg base CX0 xv 3 (Str.ofString "is_leaf") [false] zaI:=by obtain ⟨f,fd,U,hm⟩:=T.u_is_leaf;refine ⟨f,fd,zg3,?_,hm,U.kp,U.binds (ps:=zg3) λ_ _ _ _ _ _ us hl=>match us,hl with|[_],_=>rfl,zav⟩;refine zaD (k:=2) false zaF U zm1 rfl rfl λX C hX hpp hxv hnw hr hx hpo=>?_;subst hxv;obtain ⟨cdv,A,outer,s,H,E,rfl⟩:=hX;exact (zah (za9 hnw (zrD (zlH ziZ rfl T.b_isinstance zlV rfl T.b_tuple ziG (zaa 0)))))
abbrev zfM:List Str:=["tree","guests","branch"]
abbrev zbs:List Str:=["tree"]
theorem zbB:za8 zfM zbs (zak (top 14)):=⟨rfl,rfl,rfl,xwD,rfl,xwD,xwD⟩
noncomputable def zdn(F_self:FD):DS:=(zaG (dIf (dTB (zag zaI (dR (zab 0) dR0))) (zaV (dFz (zdm (dA (zab 0) dA0)))) dNx) (zaG (zcN 1 (zdm dA0)) (zaG (zfV (dIt (dOp gIx (zab 0) (dC (.int 1)))) (zbv 2) (dEx (zfO 1 (zag F_self (dR (zab 2) dR0))))) (zaV (zlt 1)))))
noncomputable def zba:Nat->FD
 |0=>λ_=>.no
 |n+1=>zay false [false] 2 (zdn (zba n))
theorem zdj(T:Tx K mg):∀ n,Dfn false P w K mg base CX0 xv (n+5) (Str.ofString "row_as_written") [false] (zba n)
 |0=>by obtain ⟨f,fd,U,hm⟩:=T.u_row_as_written;exact zcT rfl U hm (U.binds (ps:=zbs) λ_ _ _ _ _ _ us hl=>match us,hl with|[_],_=>rfl)
 |n+1=>by have DS:=zdj T n;obtain ⟨f,fd,U,hm⟩:=T.u_row_as_written;refine ⟨f,fd,zbs,?_,hm,U.kp,U.binds (ps:=zbs) λ_ _ _ _ _ _ us hl=>match us,hl with|[_],_=>rfl,zav⟩;refine zf7.mono (j:=(n+5)+1) ?_ xwl;refine zaD (k:=n+5) false zaF U zbB rfl rfl λX C hX hpp hxv hnw hr hx hpo=>?_;subst hxv;obtain ⟨cdv,A,outer,s,H,E,rfl⟩:=hX;exact (zae (zbS (zcC (zaH (zdL T) hr xwl zaA (zad (zaa 0) zas))) (zah (za9 hnw (zaJ (zcb (zax (zaa 0) zaC))))) zaN) (zae (zeD (i:=1) zbB.nd rfl xwO (by rw[hpp];decide) (zcb zaC)) (zae (zek hpo rfl (zck (zc4 (zaa 0) zat)) (zbd (i:=2) zbB.nd rfl xwO (by rw[hpp];decide)) (zah (zc6 (zlf 1 (zaH DS hr (wal _) zaA (zad (zaa 2) zas)))))) (zah (za9 hnw (zhK 1))))))
abbrev zk2:List Str:=["tree"]
abbrev ze0:List Str:=["tree"]
theorem zjQ:za8 zk2 ze0 (zak (top 15)):=⟨rfl,rfl,rfl,xwD,rfl,xwD,xwD⟩
noncomputable def zk6:DS:=(zaV (dFz (zf9 zel (dA (zag (zba 8) (dR (zab 0) dR0)) dA0))))
noncomputable def zaU:FD:=zay false [false] 0 zk6
theorem ze9(T:Tx K mg):Dfn false P w K mg base CX0 xv 16 (Str.ofString "guests_in") [false] zaU:=by obtain ⟨f,fd,U,hm⟩:=T.u_guests_in;refine ⟨f,fd,ze0,?_,hm,U.kp,U.binds (ps:=ze0) λ_ _ _ _ _ _ us hl=>match us,hl with|[_],_=>rfl,zav⟩;refine zaD (k:=15) false zaF U zjQ rfl rfl λX C hX hpp hxv hnw hr hx hpo=>?_;subst hxv;obtain ⟨cdv,A,outer,s,H,E,rfl⟩:=hX;exact (zah (za9 hnw (zaJ (zmn rfl T.b_sorted (zaH (zdj T 8) hr xwl zaA (zad (zaa 0) zas))))))
abbrev zjO:List Str:=["tree","many","place","branch"]
abbrev zcr:List Str:=["tree"]
theorem zb3:za8 zjO zcr (zak (top 16)):=⟨rfl,rfl,rfl,xwD,rfl,xwD,xwD⟩
noncomputable def zc0(F_self:FD):DS:=(zaG (dIf (dTB (zag zaI (dR (zab 0) dR0))) (zaV (dC (.int 1))) dNx) (zaG (zbo 1 (zum (dTB (dOp (gEq false) (dOp gIx (zab 0) (dC (.int 0))) (dC (.str (Str.ofString "row"))))) (dC (.int 2)) (dC (.int 1)))) (zaG (zfV (zhM (dOp gIx (zab 0) (dC (.int 1)))) (znI 2 3) (zaG (zbo 1 (dOp zil (zab 1) (zag F_self (dR (zab 3) dR0)))) (dIf (dTB (dOp (gEq false) (dOp gIx (zab 0) (dC (.int 0))) (dC (.str (Str.ofString "any"))))) (zbo 1 (dOp zil (zab 1) (zab 2))) dNx))) (zaV (zab 1)))))
noncomputable def zbz:Nat->FD
 |0=>λ_=>.no
 |n+1=>zay false [false] 3 (zc0 (zbz n))
theorem zfC(T:Tx K mg):∀ n,Dfn false P w K mg base CX0 xv (n+5) (Str.ofString "count_rows") [false] (zbz n)
 |0=>by obtain ⟨f,fd,U,hm⟩:=T.u_count_rows;exact zcT rfl U hm (U.binds (ps:=zcr) λ_ _ _ _ _ _ us hl=>match us,hl with|[_],_=>rfl)
 |n+1=>by have DS:=zfC T n;obtain ⟨f,fd,U,hm⟩:=T.u_count_rows;refine ⟨f,fd,zcr,?_,hm,U.kp,U.binds (ps:=zcr) λ_ _ _ _ _ _ us hl=>match us,hl with|[_],_=>rfl,zav⟩;refine zf7.mono (j:=(n+5)+1) ?_ xwl;refine zaD (k:=n+5) false zaF U zb3 rfl rfl λX C hX hpp hxv hnw hr hx hpo=>?_;subst hxv;obtain ⟨cdv,A,outer,s,H,E,rfl⟩:=hX;exact (zae (zbS (zcC (zaH (zdL T) hr xwl zaA (zad (zaa 0) zas))) (zah (za9 hnw zat)) zaN) (zae (zbp (i:=1) zb3.nd rfl xwO (by rw[hpp];decide) (zvV (zkm (zhk hr) (zc4 (zaa 0) zat) zhg) zat zat)) (zae (zek hpo rfl (zqN rfl T.b_enumerate (zc4 (zaa 0) zat)) (zt2 (i:=2) (j:=3) rfl zb3.nd rfl rfl xwO xwO (by rw[hpp];decide) (by rw[hpp];decide)) (zae (zbp (i:=1) zb3.nd rfl xwO (by rw[hpp];decide) (zgn (zaa 1) (zaH DS hr (wal _) zaA (zad (zaa 3) zas)))) (zah (zbS (zkm (zhk hr) (zc4 (zaa 0) zat) zhg) (zah (zbp (i:=1) zb3.nd rfl xwO (by rw[hpp];decide) (zgn (zaa 1) (zaa 2)))) zaN)))) (zah (za9 hnw (zaa 1))))))
abbrev zln:List Str:=["n","tree"]
abbrev zev:List Str:=["n","tree"]
theorem zjj:za8 zln zev (zak (top 17)):=⟨rfl,rfl,rfl,xwD,rfl,xwD,xwD⟩
noncomputable def zkE:DS:=(zaG (dEx (zag za7 (dR (zab 0) dR0))) (zaV (zag (zbz 8) (dR (zab 1) dR0))))
noncomputable def zcj:FD:=zay false [false,false] 0 zkE
theorem zkx(T:Tx K mg):Dfn false P w K mg base CX0 xv 16 (Str.ofString "rows_many") [false,false] zcj:=by obtain ⟨f,fd,U,hm⟩:=T.u_rows_many;refine ⟨f,fd,zev,?_,hm,U.kp,U.binds (ps:=zev) λ_ _ _ _ _ _ us hl=>match us,hl with|[_,_],_=>rfl,zav⟩;refine zaD (k:=15) false zaF U zjj rfl rfl λX C hX hpp hxv hnw hr hx hpo=>?_;subst hxv;obtain ⟨cdv,A,outer,s,H,E,rfl⟩:=hX;exact (zae (zc6 (zaH (zbO T) hr xwl zaA (zad (zaa 0) zas))) (zah (za9 hnw (zaH (zfC T 8) hr xwl zaA (zad (zaa 1) zas)))))
abbrev zkH:List Str:=["things","orders","k","rest"]
abbrev zdc:List Str:=["things"]
theorem zcs:za8 zkH zdc (zak (top 18)):=⟨rfl,rfl,rfl,xwD,rfl,xwD,xwD⟩
noncomputable def zcl(F_self:FD):DS:=(zaG (dIf (dTB (dOp (gEq false) (dFn zdv (dA (zab 0) dA0)) (dC (.int 0)))) (zaV (dFz (zdm (dA (dFz (zdm dA0)) dA0)))) dNx) (zaG (zcN 1 (zdm dA0)) (zaG (zfV (zfu (dFn zdv (dA (zab 0) dA0))) (zbv 2) (zfV (dIt (zag F_self (dR (dFz (zs9 (dFz (zne (zab 0) dO0 (dO1 (zab 2)))) (dFz (zne (zab 0) (dO1 (dOp zdz (zab 2) (dC (.int 1)))) dO0)))) dR0))) (zbv 3) (dEx (zho 1 (dFz (zs9 (dFz (zdm (dA (dOp gIx (zab 0) (zab 2)) dA0))) (zab 3))))))) (zaV (zlt 1)))))
noncomputable def zcm:Nat->FD
 |0=>λ_=>.no
 |n+1=>zay false [false] 3 (zcl (zcm n))
theorem zgl(T:Tx K mg):∀ n,Dfn false P w K mg base CX0 xv (n+2) (Str.ofString "orders_of") [false] (zcm n)
 |0=>by obtain ⟨f,fd,U,hm⟩:=T.u_orders_of;exact zcT rfl U hm (U.binds (ps:=zdc) λ_ _ _ _ _ _ us hl=>match us,hl with|[_],_=>rfl)
 |n+1=>by have DS:=zgl T n;obtain ⟨f,fd,U,hm⟩:=T.u_orders_of;refine ⟨f,fd,zdc,?_,hm,U.kp,U.binds (ps:=zdc) λ_ _ _ _ _ _ us hl=>match us,hl with|[_],_=>rfl,zav⟩;refine zf7.mono (j:=(n+2)+1) ?_ xwl;refine zaD (k:=n+2) false zaF U zcs rfl rfl λX C hX hpp hxv hnw hr hx hpo=>?_;subst hxv;obtain ⟨cdv,A,outer,s,H,E,rfl⟩:=hX;exact (zae (zbS (zkm (zhk hr) (zhq T.b_len (zaa 0)) zat) (zah (za9 hnw (zaJ (zcb (zax (zaJ (zcb zaC)) zaC))))) zaN) (zae (zeD (i:=1) zcs.nd rfl xwO (by rw[hpp];decide) (zcb zaC)) (zae (zek hpo rfl (zgU rfl T.b_range (zhq T.b_len (zaa 0))) (zbd (i:=2) zcs.nd rfl xwO (by rw[hpp];decide)) (zah (zek hpo rfl (zck (zaH DS hr (wal _) zaA (zad (zaJ (zr7 (zaJ (zlN (zaa 0) ziB (zi6 (zaa 2)))) (zaJ (zlN (zaa 0) (zi6 (zeB (zaa 2) zat)) ziB)))) zas))) (zbd (i:=3) zcs.nd rfl xwO (by rw[hpp];decide)) (zah (zc6 (znz 1 (zaJ (zr7 (zaJ (zcb (zax (zc4 (zaa 0) (zaa 2)) zaC))) (zaa 3))))))))) (zah (za9 hnw (zhK 1))))))
abbrev zq9:List Str:=["choices","rows","choice","longer","row"]
abbrev zia:List Str:=["choices"]
theorem zcB:za8 zq9 zia (zak (top 19)):=⟨rfl,rfl,rfl,xwD,rfl,xwD,xwD⟩
abbrev zeU:List Str:=["choices","rows","choice","longer","row","piece"]
theorem zlc:zeU.Nodup:=by decide +kernel
noncomputable def zih:DS:=(zaG (zbo 1 (dFz (zdm (dA (zpo dA0) dA0)))) (zaG (zfV (dIt (zab 0)) (zbv 2) (zaG (zcN 3 (zdm dA0)) (zaG (zfV (dIt (zab 1)) (zbv 4) (dEx (zfO 3 (dFz (zbQ (dIt (zab 2)) (zbv 5) dTT (dOp zgo (zab 4) (zab 5)) 1))))) (zbo 1 (zlt 3))))) (zaV (zab 1))))
noncomputable def zeS:FD:=zay false [false] 4 zih
theorem zqP(T:Tx K mg):Dfn false P w K mg base CX0 xv 3 (Str.ofString "strung") [false] zeS:=by obtain ⟨f,fd,U,hm⟩:=T.u_strung;refine ⟨f,fd,zia,?_,hm,U.kp,U.binds (ps:=zia) λ_ _ _ _ _ _ us hl=>match us,hl with|[_],_=>rfl,zav⟩;refine zaD (k:=2) false zaF U zcB rfl rfl λX C hX hpp hxv hnw hr hx hpo=>?_;subst hxv;obtain ⟨cdv,A,outer,s,H,E,rfl⟩:=hX;exact (zae (zbp (i:=1) zcB.nd rfl xwO (by rw[hpp];decide) (zaJ (zcb (zax (zjN zaC) zaC)))) (zae (zek hpo rfl (zck (zaa 0)) (zbd (i:=2) zcB.nd rfl xwO (by rw[hpp];decide)) (zae (zeD (i:=3) zcB.nd rfl xwO (by rw[hpp];decide) (zcb zaC)) (zae (zek hpo rfl (zck (zaa 1)) (zbd (i:=4) zcB.nd rfl xwO (by rw[hpp];decide)) (zah (zc6 (zlf 3 (zaJ (zi2 (zck (zaa 2)) rfl (N':=zeU) (m:=1) xwk rfl (zb7 xwk) (zcS xwk) (zcO xwk) (λcl L s H fp G H' w Y=>⟨(zbd (i:=5) zlc rfl xwO (xwN rfl)),zdg,(zt9 (zaa 4) (zaa 5))⟩))))))) (zah (zbp (i:=1) zcB.nd rfl xwO (by rw[hpp];decide) (zhK 3)))))) (zah (za9 hnw (zaa 1)))))
abbrev zmM:List Str:=["tree","choices","orders","rows","order"]
abbrev zdY:List Str:=["tree"]
theorem zbI:za8 zmM zdY (zak (top 20)):=⟨rfl,rfl,rfl,xwD,rfl,xwD,xwD⟩
abbrev zdA:List Str:=["tree","choices","orders","rows","order","branch"]
theorem ziU:zdA.Nodup:=by decide +kernel
noncomputable def zea(F_self:FD):DS:=(zaG (dIf (dTB (zag zaI (dR (zab 0) dR0))) (zaV (dFz (zdm (dA (zpo (dA (zab 0) dA0)) dA0)))) dNx) (zaG (zbo 1 (dFz (zbQ (dIt (dOp gIx (zab 0) (dC (.int 1)))) (zbv 5) dTT (zag F_self (dR (zab 5) dR0)) 1))) (zaG (dIf (dTB (dOp (gEq false) (dOp gIx (zab 0) (dC (.int 0))) (dC (.str (Str.ofString "row"))))) (zbo 2 (dFz (zdm (dA (zab 1) (dA (dFz (zm5 (zab 1))) dA0))))) (zbo 2 (zag (zcm 8) (dR (zab 1) dR0)))) (zaG (zcN 3 (zdm dA0)) (zaG (zfV (dIt (zab 2)) (zbv 4) (dEx (zfO 3 (zag zeS (dR (zab 4) dR0))))) (zaV (zlt 3)))))))
noncomputable def zbJ:Nat->FD
 |0=>λ_=>.no
 |n+1=>zay false [false] 4 (zea (zbJ n))
theorem zhx(T:Tx K mg):∀ n,Dfn false P w K mg base CX0 xv (n+12) (Str.ofString "all_rows") [false] (zbJ n)
 |0=>by obtain ⟨f,fd,U,hm⟩:=T.u_all_rows;exact zcT rfl U hm (U.binds (ps:=zdY) λ_ _ _ _ _ _ us hl=>match us,hl with|[_],_=>rfl)
 |n+1=>by have DS:=zhx T n;obtain ⟨f,fd,U,hm⟩:=T.u_all_rows;refine ⟨f,fd,zdY,?_,hm,U.kp,U.binds (ps:=zdY) λ_ _ _ _ _ _ us hl=>match us,hl with|[_],_=>rfl,zav⟩;refine zf7.mono (j:=(n+12)+1) ?_ xwl;refine zaD (k:=n+12) false zaF U zbI rfl rfl λX C hX hpp hxv hnw hr hx hpo=>?_;subst hxv;obtain ⟨cdv,A,outer,s,H,E,rfl⟩:=hX;exact (zae (zbS (zcC (zaH (zdL T) hr xwl zaA (zad (zaa 0) zas))) (zah (za9 hnw (zaJ (zcb (zax (zjN (zax (zaa 0) zaC)) zaC))))) zaN) (zae (zdU (i:=1) zbI.nd rfl xwO (by rw[hpp];decide) (zck (zc4 (zaa 0) zat)) rfl (N':=zdA) (m:=1) xwk rfl (zb7 xwk) (zcS xwk) (zcO xwk) (λcl L s H fp G H' w Y=>⟨(zbd (i:=5) ziU rfl xwO (xwN rfl)),zdg,(zaH DS hr (wal _) zaA (zad (zaa 5) zas))⟩)) (zae (zbS (zkm (zhk hr) (zc4 (zaa 0) zat) zhg) (zah (zbp (i:=2) zbI.nd rfl xwO (by rw[hpp];decide) (zaJ (zcb (zax (zaa 1) (zax (zaJ (znN rfl rfl T.b_list rfl T.b_reversed (zaa 1))) zaC)))))) (zah (zbp (i:=2) zbI.nd rfl xwO (by rw[hpp];decide) (zaH (zgl T 8) hr xwl zaA (zad (zaa 1) zas))))) (zae (zeD (i:=3) zbI.nd rfl xwO (by rw[hpp];decide) (zcb zaC)) (zae (zek hpo rfl (zck (zaa 2)) (zbd (i:=4) zbI.nd rfl xwO (by rw[hpp];decide)) (zah (zc6 (zlf 3 (zaH (zqP T) hr xwl zaA (zad (zaa 4) zas)))))) (zah (za9 hnw (zhK 3))))))))
abbrev znE:List Str:=["n","tree"]
abbrev zg5:List Str:=["n","tree"]
theorem zmR:za8 znE zg5 (zak (top 21)):=⟨rfl,rfl,rfl,xwD,rfl,xwD,xwD⟩
noncomputable def zpm:DS:=(zaG (dEx (zag za7 (dR (zab 0) dR0))) (zjH (zf9 zfj (dA (zag (zbJ 8) (dR (zab 1) dR0)) dA0))))
noncomputable def zaS:FD:=zay true [false,false] 0 zpm
theorem zdI(T:Tx K mg):Dfn true P w K mg base CX0 xv 23 (Str.ofString "rows_of") [false,false] zaS:=by obtain ⟨f,fd,U,hm⟩:=T.u_rows_of;refine ⟨f,fd,zg5,?_,hm,U.kp,U.binds (ps:=zg5) λ_ _ _ _ _ _ us hl=>match us,hl with|[_,_],_=>rfl,zav⟩;refine zaD (k:=22) true zaF U zmR rfl rfl λX C hX hpp hxv hnw hr hx hpo=>?_;subst hxv;obtain ⟨cdv,A,outer,s,H,E,rfl⟩:=hX;exact (zae (zc6 (zaH (zbO T) hr xwl zaA (zad (zaa 0) zas))) (zah (zkC hnw (zq2 rfl T.b_sorted (zaH (zhx T 8) hr xwl zaA (zad (zaa 1) zas))))))
abbrev zvm:List Str:=["numbers"]
abbrev zpl:List Str:=["numbers"]
theorem zsP:za8 zvm zpl (zak (top 22)):=⟨rfl,rfl,rfl,xwD,rfl,xwD,xwD⟩
noncomputable def zuL:DS:=(zaV (dOr (dOp (gEq false) (zab 0) (dFz (zf9 zel (dA (zab 0) dA0)))) (dOp (gEq false) (zab 0) (dFz (zf9 zeK (dA (zab 0) dA0))))))
noncomputable def zjb:FD:=zay false [false] 0 zuL
theorem zu6(T:Tx K mg):Dfn false P w K mg base CX0 xv 3 (Str.ofString "runs") [false] zjb:=by obtain ⟨f,fd,U,hm⟩:=T.u_runs;refine ⟨f,fd,zpl,?_,hm,U.kp,U.binds (ps:=zpl) λ_ _ _ _ _ _ us hl=>match us,hl with|[_],_=>rfl,zav⟩;refine zaD (k:=2) false zaF U zsP rfl rfl λX C hX hpp hxv hnw hr hx hpo=>?_;subst hxv;obtain ⟨cdv,A,outer,s,H,E,rfl⟩:=hX;exact (zah (za9 hnw (zwz (zmT (zhk hr) (zaa 0) (zaJ (zmn rfl T.b_sorted (zaa 0)))) (zhS (zmT (zhk hr) (zaa 0) (zaJ (zpu rfl T.b_sorted (zaa 0))))))))
abbrev zuf:List Str:=["tree","seating","places"]
abbrev zif:List Str:=["tree","seating"]
theorem zl3:za8 zuf zif (zak (top 23)):=⟨rfl,rfl,rfl,xwD,rfl,xwD,xwD⟩
abbrev zfE:List Str:=["tree","seating","places","branch"]
theorem zm2:zfE.Nodup:=by decide +kernel
abbrev zfB:List Str:=["tree","seating","places","branch"]
theorem zm9:zfB.Nodup:=by decide +kernel
noncomputable def zg4(F_self:FD):DS:=(zaG (dIf (dTB (zag zaI (dR (zab 0) dR0))) (zaV (dC (.bl true))) dNx) (zaG (dIf (zcK (dTB (zag zjg (dR (zab 1) (dR (zag zaU (dR (zab 0) dR0)) dR0))))) (zaV (dC (.bl false))) dNx) (zaG (dIf (dTB (dOp (gEq false) (dOp gIx (zab 0) (dC (.int 0))) (dC (.str (Str.ofString "row"))))) (zaG (zbo 2 (dFz (zbQ (dIt (dOp gIx (zab 0) (dC (.int 1)))) (zbv 3) dTT (zks (zab 1) (dOp gIx (zag zaU (dR (zab 3) dR0)) (dC (.int 0)))) 1))) (dIf (zcK (dTB (zag zjb (dR (zab 2) dR0)))) (zaV (dC (.bl false))) dNx)) dNx) (zaV (dFn zmw (dA (dFz (zbQ (dIt (dOp gIx (zab 0) (dC (.int 1)))) (zbv 3) dTT (zag F_self (dR (zab 3) (dR (zab 1) dR0))) 1)) dA0))))))
noncomputable def zfs:Nat->FD
 |0=>λ_=>.no
 |n+1=>zay false [false,false] 1 (zg4 (zfs n))
theorem znq(T:Tx K mg):∀ n,Dfn false P w K mg base CX0 xv (n+18) (Str.ofString "keeps") [false,false] (zfs n)
 |0=>by obtain ⟨f,fd,U,hm⟩:=T.u_keeps;exact zcT rfl U hm (U.binds (ps:=zif) λ_ _ _ _ _ _ us hl=>match us,hl with|[_,_],_=>rfl)
 |n+1=>by have DS:=znq T n;obtain ⟨f,fd,U,hm⟩:=T.u_keeps;refine ⟨f,fd,zif,?_,hm,U.kp,U.binds (ps:=zif) λ_ _ _ _ _ _ us hl=>match us,hl with|[_,_],_=>rfl,zav⟩;refine zf7.mono (j:=(n+18)+1) ?_ xwl;refine zaD (k:=n+18) false zaF U zl3 rfl rfl λX C hX hpp hxv hnw hr hx hpo=>?_;subst hxv;obtain ⟨cdv,A,outer,s,H,E,rfl⟩:=hX;exact (zae (zbS (zcC (zaH (zdL T) hr xwl zaA (zad (zaa 0) zas))) (zah (za9 hnw zgx)) zaN) (zae (zbS (zgJ (zcC (zaH (zvb T) hr xwl zaA (zad (zaa 1) (zad (zaH (ze9 T) hr xwl zaA (zad (zaa 0) zas)) zas))))) (zah (za9 hnw zgx)) zaN) (zae (zbS (zkm (zhk hr) (zc4 (zaa 0) zat) zhg) (zae (zdU (i:=2) zl3.nd rfl xwO (by rw[hpp];decide) (zck (zc4 (zaa 0) zat)) rfl (N':=zfE) (m:=1) xwk rfl (zb7 xwk) (zcS xwk) (zcO xwk) (λcl L s H fp G H' w Y=>⟨(zbd (i:=3) zm2 rfl xwO (xwN rfl)),zdg,(zol (zwr hr) (zaa 1) (zc4 (zaH (ze9 T) hr xwl zaA (zad (zaa 3) zas)) zat))⟩)) (zah (zbS (zgJ (zcC (zaH (zu6 T) hr xwl zaA (zad (zaa 2) zas)))) (zah (za9 hnw zgx)) zaN))) zaN) (zah (za9 hnw (zve rfl T.b_all (zaJ (zi2 (zck (zc4 (zaa 0) zat)) rfl (N':=zfB) (m:=1) xwk rfl (zb7 xwk) (zcS xwk) (zcO xwk) (λcl L s H fp G H' w Y=>⟨(zbd (i:=3) zm9 rfl xwO (xwN rfl)),zdg,(zaH DS hr (wal _) zaA (zad (zaa 3) (zad (zaa 1) zas)))⟩)))))))))
abbrev zoC:List Str:=["n","tree","seating"]
abbrev zgr:List Str:=["n","tree","seating"]
theorem zmU:za8 zoC zgr (zak (top 24)):=⟨rfl,rfl,rfl,xwD,rfl,xwD,xwD⟩
noncomputable def zog:DS:=(zaV (zkw (zag zct (dR (zab 0) (dR (zab 2) dR0))) (zag (zfs 8) (dR (zab 1) (dR (zab 2) dR0)))))
noncomputable def zb9:FD:=zay false [false,false,false] 0 zog
theorem zgT(T:Tx K mg):Dfn false P w K mg base CX0 xv 29 (Str.ofString "has_row") [false,false,false] zb9:=by obtain ⟨f,fd,U,hm⟩:=T.u_has_row;refine ⟨f,fd,zgr,?_,hm,U.kp,U.binds (ps:=zgr) λ_ _ _ _ _ _ us hl=>match us,hl with|[_,_,_],_=>rfl,zav⟩;refine zaD (k:=28) false zaF U zmU rfl rfl λX C hX hpp hxv hnw hr hx hpo=>?_;subst hxv;obtain ⟨cdv,A,outer,s,H,E,rfl⟩:=hX;exact (zah (za9 hnw (zjf (zaH (zkd T) hr xwl zaA (zad (zaa 0) (zad (zaa 2) zas))) (zhS (zaH (znq T 8) hr xwl zaA (zad (zaa 1) (zad (zaa 2) zas)))))))
abbrev zqC:List Str:=["n","tree","number","rows"]
abbrev ziw:List Str:=["n","tree","number"]
theorem zja:za8 zqC ziw (zak (top 25)):=⟨rfl,rfl,rfl,xwD,rfl,xwD,xwD⟩
noncomputable def ziW:DS:=(zaG (zbo 3 (dFz (zb1 zaS (dR (zab 0) (dR (zab 1) dR0))))) (zaG (dIf (zhy (zcK (dTB (zag zbc (dR (zab 2) dR0)))) (zhy (dTB (dOp gLt (zab 2) (dC (.int 0)))) (dTB (dOp gGe (zab 2) (dFn zdv (dA (zab 3) dA0)))))) dNo dNx) (zaV (dOp gIx (zab 3) (zab 2)))))
noncomputable def zfg:FD:=zay false [false,false,false] 1 ziW
theorem zqJ(T:Tx K mg):Dfn false P w K mg base CX0 xv 26 (Str.ofString "row_at") [false,false,false] zfg:=by obtain ⟨f,fd,U,hm⟩:=T.u_row_at;refine ⟨f,fd,ziw,?_,hm,U.kp,U.binds (ps:=ziw) λ_ _ _ _ _ _ us hl=>match us,hl with|[_,_,_],_=>rfl,zav⟩;refine zaD (k:=25) false zaF U zja rfl rfl λX C hX hpp hxv hnw hr hx hpo=>?_;subst hxv;obtain ⟨cdv,A,outer,s,H,E,rfl⟩:=hX;exact (zae (zbp (i:=3) zja.nd rfl xwO (by rw[hpp];decide) (zaJ (zmI (zdI T) hr xwl zaA (zad (zaa 0) (zad (zaa 1) zas))))) (zae (zbS (JW.jt (zjM (zgJ (zcC (zaH (zfz T) hr xwl zaA (zad (zaa 2) zas)))) (zjM (zsK (zaa 2) zat) (zjF (zvW (zaa 2) (zhq T.b_len (zaa 3))))))) (zah zhY) zaN) (zah (za9 hnw (zc4 (zaa 3) (zaa 2))))))
abbrev zlo:List Str:=["n","tree","seating"]
abbrev zem:List Str:=["n","tree","seating"]
theorem zkr:za8 zlo zem (zak (top 26)):=⟨rfl,rfl,rfl,xwD,rfl,xwD,xwD⟩
noncomputable def ze3:DS:=(zaG (dIf (zcK (dTB (zag zb9 (dR (zab 0) (dR (zab 1) (dR (zab 2) dR0)))))) dNo dNx) (zaV (zwv (dFz (zb1 zaS (dR (zab 0) (dR (zab 1) dR0)))) (zab 2))))
noncomputable def zci:FD:=zay false [false,false,false] 0 ze3
theorem zll(T:Tx K mg):Dfn false P w K mg base CX0 xv 32 (Str.ofString "number_of") [false,false,false] zci:=by obtain ⟨f,fd,U,hm⟩:=T.u_number_of;refine ⟨f,fd,zem,?_,hm,U.kp,U.binds (ps:=zem) λ_ _ _ _ _ _ us hl=>match us,hl with|[_,_,_],_=>rfl,zav⟩;refine zaD (k:=31) false zaF U zkr rfl rfl λX C hX hpp hxv hnw hr hx hpo=>?_;subst hxv;obtain ⟨cdv,A,outer,s,H,E,rfl⟩:=hX;exact (zae (zbS (zgJ (zcC (zaH (zgT T) hr xwl zaA (zad (zaa 0) (zad (zaa 1) (zad (zaa 2) zas)))))) (zah zhY) zaN) (zah (za9 hnw (zv0 (zwr hr) (zaJ (zmI (zdI T) hr xwl zaA (zad (zaa 0) (zad (zaa 1) zas)))) (zaa 2)))))
abbrev ziQ:List Str:=["tree"]
abbrev zdd:List Str:=["tree"]
theorem zhp:za8 ziQ zdd (zak (top 27)):=⟨rfl,rfl,rfl,xwD,rfl,xwD,xwD⟩
noncomputable def zcP:DS:=(zaV (dOp gIx (zag zaU (dR (zab 0) dR0)) (dC (.int 0))))
noncomputable def za0:FD:=zay false [false] 0 zcP
theorem zcR(T:Tx K mg):Dfn false P w K mg base CX0 xv 19 (Str.ofString "least_guest") [false] za0:=by obtain ⟨f,fd,U,hm⟩:=T.u_least_guest;refine ⟨f,fd,zdd,?_,hm,U.kp,U.binds (ps:=zdd) λ_ _ _ _ _ _ us hl=>match us,hl with|[_],_=>rfl,zav⟩;refine zaD (k:=18) false zaF U zhp rfl rfl λX C hX hpp hxv hnw hr hx hpo=>?_;subst hxv;obtain ⟨cdv,A,outer,s,H,E,rfl⟩:=hX;exact (zah (za9 hnw (zc4 (zaH (ze9 T) hr xwl zaA (zad (zaa 0) zas)) zat)))
abbrev zkJ:List Str:=["tree","branches"]
abbrev zcX:List Str:=["tree"]
theorem zcv:za8 zkJ zcX (zak (top 28)):=⟨rfl,rfl,rfl,xwD,rfl,xwD,xwD⟩
abbrev zdt:List Str:=["tree","branches","branch"]
theorem zhu:zdt.Nodup:=by decide +kernel
noncomputable def ze1(F_self:FD):DS:=(zaG (dIf (dTB (zag zaI (dR (zab 0) dR0))) (zaV (zab 0)) dNx) (zaG (zbo 1 (dFz (zbQ (dIt (dOp gIx (zab 0) (dC (.int 1)))) (zbv 2) dTT (zag F_self (dR (zab 2) dR0)) 1))) (zaG (dIf (dTB (dOp (gEq false) (dOp gIx (zab 0) (dC (.int 0))) (dC (.str (Str.ofString "any"))))) (zbo 1 (dFz (zji za0 (zab 1)))) (dIf (dTB (dOp gGt (zag za0 (dR (dOp gIx (zab 1) (dC (.int 0))) dR0)) (zag za0 (dR (dOp gIx (zab 1) (zvz (dC (.int 1)))) dR0)))) (zbo 1 (dFz (zm5 (zab 1)))) dNx)) (zaV (zpo (dA (dOp gIx (zab 0) (dC (.int 0))) (dA (dFn zfG (dA (zab 1) dA0)) dA0)))))))
noncomputable def zbg:Nat->FD
 |0=>λ_=>.no
 |n+1=>zay false [false] 1 (ze1 (zbg n))
theorem zgY(T:Tx K mg):∀ n,Dfn false P w K mg base CX0 xv (n+21) (Str.ofString "put_least") [false] (zbg n)
 |0=>by obtain ⟨f,fd,U,hm⟩:=T.u_put_least;exact zcT rfl U hm (U.binds (ps:=zcX) λ_ _ _ _ _ _ us hl=>match us,hl with|[_],_=>rfl)
 |n+1=>by have DS:=zgY T n;obtain ⟨f,fd,U,hm⟩:=T.u_put_least;refine ⟨f,fd,zcX,?_,hm,U.kp,U.binds (ps:=zcX) λ_ _ _ _ _ _ us hl=>match us,hl with|[_],_=>rfl,zav⟩;refine zf7.mono (j:=(n+21)+1) ?_ xwl;refine zaD (k:=n+21) false zaF U zcv rfl rfl λX C hX hpp hxv hnw hr hx hpo=>?_;subst hxv;obtain ⟨cdv,A,outer,s,H,E,rfl⟩:=hX;exact (zae (zbS (zcC (zaH (zdL T) hr xwl zaA (zad (zaa 0) zas))) (zah (za9 hnw (zaa 0))) zaN) (zae (zdU (i:=1) zcv.nd rfl xwO (by rw[hpp];decide) (zck (zc4 (zaa 0) zat)) rfl (N':=zdt) (m:=1) xwk rfl (zb7 xwk) (zcS xwk) (zcO xwk) (λcl L s H fp G H' w Y=>⟨(zbd (i:=2) zhu rfl xwO (xwN rfl)),zdg,(zaH DS hr (wal _) zaA (zad (zaa 2) zas))⟩)) (zae (zbS (zkm (zhk hr) (zc4 (zaa 0) zat) zhg) (zah (zbp (i:=1) zcv.nd rfl xwO (by rw[hpp];decide) (zaJ (zqA (zcR T) hr xwl zaA rfl T.b_sorted (zaa 1))))) (zah (zbS (ztq (zaH (zcR T) hr xwl zaA (zad (zc4 (zaa 1) zat) zas)) (zaH (zcR T) hr xwl zaA (zad (zc4 (zaa 1) (zvR zat)) zas))) (zah (zbp (i:=1) zcv.nd rfl xwO (by rw[hpp];decide) (zaJ (znN rfl rfl T.b_list rfl T.b_reversed (zaa 1))))) zaN))) (zah (za9 hnw (zjN (zax (zc4 (zaa 0) zat) (zax (znY T.b_tuple (zaa 1)) zaC))))))))
abbrev zjB:List Str:=["n","tree"]
abbrev zd5:List Str:=["n","tree"]
theorem ziE:za8 zjB zd5 (zak (top 29)):=⟨rfl,rfl,rfl,xwD,rfl,xwD,xwD⟩
noncomputable def zki:DS:=(zaG (dEx (zag za7 (dR (zab 0) dR0))) (zaV (zag (zbg 8) (dR (zab 1) dR0))))
noncomputable def zb2:FD:=zay false [false,false] 0 zki
theorem zd8(T:Tx K mg):Dfn false P w K mg base CX0 xv 32 (Str.ofString "least_form") [false,false] zb2:=by obtain ⟨f,fd,U,hm⟩:=T.u_least_form;refine ⟨f,fd,zd5,?_,hm,U.kp,U.binds (ps:=zd5) λ_ _ _ _ _ _ us hl=>match us,hl with|[_,_],_=>rfl,zav⟩;refine zaD (k:=31) false zaF U ziE rfl rfl λX C hX hpp hxv hnw hr hx hpo=>?_;subst hxv;obtain ⟨cdv,A,outer,s,H,E,rfl⟩:=hX;exact (zae (zc6 (zaH (zbO T) hr xwl zaA (zad (zaa 0) zas))) (zah (za9 hnw (zaH (zgY T 8) hr xwl zaA (zad (zaa 1) zas)))))
abbrev zht:List Str:=["script","k"]
abbrev zc5:List Str:=["script","k"]
theorem zgP:za8 zht zc5 (zak (top 31)):=⟨rfl,rfl,rfl,xwD,rfl,xwD,xwD⟩
noncomputable def zbr:DS:=(zaG (dIf (dTB (dOp gLt (zab 1) (dFn zdv (dA (zab 0) dA0)))) (zaV (dOp gIx (zab 0) (zab 1))) dNx) (zaV (dC (.int 0))))
noncomputable def zbN:FD:=zay false [false,false] 0 zbr
theorem zhr(T:Tx K mg):Dfn false P w K mg base CX0 xv 3 (Str.ofString "_law_cell_at") [false,false] zbN:=by obtain ⟨f,fd,U,hm⟩:=T.u__law_cell_at;refine ⟨f,fd,zc5,?_,hm,U.kp,U.binds (ps:=zc5) λ_ _ _ _ _ _ us hl=>match us,hl with|[_,_],_=>rfl,zav⟩;refine zaD (k:=2) false zaF U zgP rfl rfl λX C hX hpp hxv hnw hr hx hpo=>?_;subst hxv;obtain ⟨cdv,A,outer,s,H,E,rfl⟩:=hX;exact (zae (zbS (zsK (zaa 1) (zhq T.b_len (zaa 0))) (zah (za9 hnw (zc4 (zaa 0) (zaa 1)))) zaN) (zah (za9 hnw zat)))
abbrev zjG:List Str:=["script","k","cell"]
abbrev zdF:List Str:=["script","k"]
theorem zeR:za8 zjG zdF (zak (top 32)):=⟨rfl,rfl,rfl,xwD,rfl,xwD,xwD⟩
noncomputable def zbR:DS:=(zaG (zbo 2 (zag zbN (dR (zab 0) (dR (zab 1) dR0)))) (zaG (dIf (dTB (dOp gGe (zab 2) (dOp zp8 (dC (.int 10)) (dC (.int 18))))) (zjH (zdm (dA (dOp zmF (zab 2) (dOp zp8 (dC (.int 10)) (dC (.int 18)))) (dA (dC (.bl true)) dA0)))) dNx) (zjH (zdm (dA (dOp zmz (zab 2) (dC (.int 2147483647))) (dA (dC (.bl false)) dA0))))))
noncomputable def zbW:FD:=zay true [false,false] 1 zbR
theorem zkg(T:Tx K mg):Dfn true P w K mg base CX0 xv 6 (Str.ofString "_law_state") [false,false] zbW:=by obtain ⟨f,fd,U,hm⟩:=T.u__law_state;refine ⟨f,fd,zdF,?_,hm,U.kp,U.binds (ps:=zdF) λ_ _ _ _ _ _ us hl=>match us,hl with|[_,_],_=>rfl,zav⟩;refine zaD (k:=5) true zaF U zeR rfl rfl λX C hX hpp hxv hnw hr hx hpo=>?_;subst hxv;obtain ⟨cdv,A,outer,s,H,E,rfl⟩:=hX;exact (zae (zbp (i:=2) zeR.nd rfl xwO (by rw[hpp];decide) (zaH (zhr T) hr xwl zaA (zad (zaa 0) (zad (zaa 1) zas)))) (zae (zbS (zvW (zaa 2) (zrq zat zat)) (zah (zkC hnw (zcb (zax (zmm (zaa 2) (zrq zat zat)) (zax zgx zaC))))) zaN) (zah (zkC hnw (zcb (zax (zhC (zaa 2) zat) (zax zgx zaC)))))))
abbrev zlr:List Str:=["state","many","found","stirred"]
abbrev zeu:List Str:=["state","many"]
theorem zcx:za8 zlr zeu (zak (top 33)):=⟨rfl,rfl,rfl,xwD,rfl,xwD,xwD⟩
noncomputable def ze6:DS:=(zaG (dIf (dTB (zpn 0 (dC (.int 1)))) (zaG (zbo 2 (dOp zmz (zpn 0 (dC (.int 0))) (zab 1))) (zaG (zpd 0 (dOp zqt (zpn 0 (dC (.int 0))) (zab 1)) (dC (.int 0))) (zaV (zab 2)))) dNx) (zaG (zpd 0 (dOp zmz (dOp zdz (dOp zil (zpn 0 (dC (.int 0))) (dC (.int 48271))) (dC (.int 29))) (dC (.int 2147483647))) (dC (.int 0))) (zaG (zbo 3 (dOp zmz (dOp zdz (dOp zdz (dOp zil (zpn 0 (dC (.int 0))) (zpn 0 (dC (.int 0)))) (dOp zil (dC (.int 39373)) (zpn 0 (dC (.int 0))))) (dC (.int 7))) (dC (.int 2147483629)))) (zaG (zbo 3 (dOp zmz (dOp zdz (dOp zil (zab 3) (zab 3)) (dOp zil (dC (.int 16807)) (zab 3))) (dC (.int 2147483587)))) (zaV (dOp zmz (dOp zqt (zab 3) (dC (.int 8))) (zab 1)))))))
noncomputable def zam:FD:=zay false [true,false] 2 ze6
theorem zbD(T:Tx K mg):Dfn false P w K mg base CX0 xv 3 (Str.ofString "_law_take") [true,false] zam:=by obtain ⟨f,fd,U,hm⟩:=T.u__law_take;refine ⟨f,fd,zeu,?_,hm,U.kp,U.binds (ps:=zeu) λ_ _ _ _ _ _ us hl=>match us,hl with|[_,_],_=>rfl,zav⟩;refine zaD (k:=2) false zaF U zcx rfl rfl λX C hX hpp hxv hnw hr hx hpo=>?_;subst hxv;obtain ⟨cdv,A,outer,s,H,E,rfl⟩:=hX;exact (zae (zbS (zcC (zgq 0 (hb:=zat))) (zae (zbp (i:=2) zcx.nd rfl xwO (by rw[hpp];decide) (zhC (zgq 0 (hb:=zat)) (zaa 1))) (zae (zoK 0 (zrE (zgq 0 (hb:=zat)) (zaa 1)) zat) (zah (za9 hnw (zaa 2))))) zaN) (zae (zoK 0 (zhC (zeB (zgn (zgq 0 (hb:=zat)) zat) zat) zat) zat) (zae (zbp (i:=3) zcx.nd rfl xwO (by rw[hpp];decide) (zhC (zeB (zeB (zgn (zgq 0 (hb:=zat)) (zgq 0 (hb:=zat))) (zgn zat (zgq 0 (hb:=zat)))) zat) zat)) (zae (zbp (i:=3) zcx.nd rfl xwO (by rw[hpp];decide) (zhC (zeB (zgn (zaa 3) (zaa 3)) (zgn zat (zaa 3))) zat)) (zah (za9 hnw (zhC (zrE (zaa 3) zat) (zaa 1))))))))
abbrev zfQ:List Str:=["state","things","left","found"]
abbrev zbZ:List Str:=["state","things"]
theorem zbC:za8 zfQ zbZ (zak (top 34)):=⟨rfl,rfl,rfl,xwD,rfl,xwD,xwD⟩
noncomputable def zbY:DS:=(zaG (zcN 2 (zf9 zlp (dA (zab 1) dA0))) (zaG (zcN 3 (zdm dA0)) (zaG (zdr (dTB (zuo true 2 (dFz (zdm dA0)))) (dEx (zho 3 (zhU 2 (zag zam (dRO 0 (dR (zmY 2) dR0)))))) 10) (zaV (zlt 3)))))
noncomputable def zbu:FD:=zay false [true,false] 2 zbY
theorem zfK(T:Tx K mg):Dfn false P w K mg base CX0 xv 6 (Str.ofString "_law_mixed_row") [true,false] zbu:=by obtain ⟨f,fd,U,hm⟩:=T.u__law_mixed_row;refine ⟨f,fd,zbZ,?_,hm,U.kp,U.binds (ps:=zbZ) λ_ _ _ _ _ _ us hl=>match us,hl with|[_,_],_=>rfl,zav⟩;refine zaD (k:=5) false zaF U zbC rfl rfl λX C hX hpp hxv hnw hr hx hpo=>?_;subst hxv;obtain ⟨cdv,A,outer,s,H,E,rfl⟩:=hX;exact (zae (zeD (i:=2) zbC.nd rfl xwO (by rw[hpp];decide) (zvY T.b_list (zaa 1))) (zae (zeD (i:=3) zbC.nd rfl xwO (by rw[hpp];decide) (zcb zaC)) (zae (zqY 10 hpo (zv2 2 (zhk hr) (zaJ (zcb zaC))) (zah (zc6 (znz 3 (zq5 2 (zaH (zbD T) hr xwl zaA (zej 0 (zad (zsx 2 rfl T.b_len) zas)))))))) (zah (za9 hnw (zhK 3))))))
abbrev zld:List Str:=["state","guests","row","many","pieces","guest","branches"]
abbrev zda:List Str:=["state","guests"]
theorem zb0:za8 zld zda (zak (top 35)):=⟨rfl,rfl,rfl,xwD,rfl,xwD,xwD⟩
abbrev zdp:List Str:=["state","guests","row","many","pieces","%5","branches","guest"]
theorem zhv:zdp.Nodup:=by decide +kernel
abbrev zdi:List Str:=["state","guests","row","many","pieces","guest","branches","piece"]
theorem zhs:zdi.Nodup:=by decide +kernel
noncomputable def zbG(F_self:FD):DS:=(zaG (dIf (dTB (dOp (gEq false) (dFn zdv (dA (zab 1) dA0)) (dC (.int 1)))) (zaV (dOp gIx (zab 1) (dC (.int 0)))) dNx) (zaG (zbo 2 (zag zbu (dRO 0 (dR (zab 1) dR0)))) (zaG (zbo 3 (dOp zdz (dC (.int 2)) (zag zam (dRO 0 (dR (dOp zmF (dFn zdv (dA (zab 2) dA0)) (dC (.int 1))) dR0))))) (zaG (zly 4 (dIt (dFz (zne (zab 2) dO0 (dO1 (zab 3))))) (zbv 7) dTT (zdm (dA (zab 7) dA0)) 1) (zaG (zfV (dIt (dFz (zne (zab 2) (dO1 (zab 3)) dO0))) (zbv 5) (dEx (zjy 4 5 (zag zam (dRO 0 (dR (zab 3) dR0)))))) (zaG (zbo 6 (dFn zfG (dA (dFz (zbQ (dIt (zlt 4)) (zbv 7) dTT (zag F_self (dRO 0 (dR (zab 7) dR0))) 1)) dA0))) (zaG (dIf (zls (dTB (dOp gGt (zab 3) (dC (.int 2)))) (dTB (dOp (gEq false) (zag zam (dRO 0 (dR (dC (.int 2)) dR0))) (dC (.int 1))))) (zaV (zpo (dA (dC (.str (Str.ofString "row"))) (dA (zab 6) dA0)))) dNx) (zaV (zpo (dA (dC (.str (Str.ofString "any"))) (dA (zab 6) dA0)))))))))))
noncomputable def zaM:Nat->FD
 |0=>λ_=>.no
 |n+1=>zay false [true,false] 5 (zbG (zaM n))
theorem ze5(T:Tx K mg):∀ n,Dfn false P w K mg base CX0 xv (n+8) (Str.ofString "_law_tree") [true,false] (zaM n)
 |0=>by obtain ⟨f,fd,U,hm⟩:=T.u__law_tree;exact zcT rfl U hm (U.binds (ps:=zda) λ_ _ _ _ _ _ us hl=>match us,hl with|[_,_],_=>rfl)
 |n+1=>by have DS:=ze5 T n;obtain ⟨f,fd,U,hm⟩:=T.u__law_tree;refine ⟨f,fd,zda,?_,hm,U.kp,U.binds (ps:=zda) λ_ _ _ _ _ _ us hl=>match us,hl with|[_,_],_=>rfl,zav⟩;refine zf7.mono (j:=(n+8)+1) ?_ xwl;refine zaD (k:=n+8) false zaF U zb0 rfl rfl λX C hX hpp hxv hnw hr hx hpo=>?_;subst hxv;obtain ⟨cdv,A,outer,s,H,E,rfl⟩:=hX;exact (zae (zbS (zkm (zhk hr) (zhq T.b_len (zaa 1)) zat) (zah (za9 hnw (zc4 (zaa 1) zat))) zaN) (zae (zbp (i:=2) zb0.nd rfl xwO (by rw[hpp];decide) (zaH (zfK T) hr xwl zaA (zej 0 (zad (zaa 1) zas)))) (zae (zbp (i:=3) zb0.nd rfl xwO (by rw[hpp];decide) (zeB zat (zaH (zbD T) hr xwl zaA (zej 0 (zad (zmm (zhq T.b_len (zaa 2)) zat) zas))))) (zae (zk4 (i:=4) zb0.nd rfl xwO (by rw[hpp];decide) (zck (zaJ (zlN (zaa 2) ziB (zi6 (zaa 3))))) rfl (N':=zdp) (m:=1) xwk rfl (zb7 xwk) (zcS xwk) (zcO xwk) (λcl L s H fp G H' w Y=>⟨(zbd (i:=7) zhv rfl xwO (xwN rfl)),zdg,(zcb (zax (zaa 7) zaC))⟩)) (zae (zek hpo rfl (zck (zaJ (zlN (zaa 2) (zi6 (zaa 3)) ziB))) (zbd (i:=5) zb0.nd rfl xwO (by rw[hpp];decide)) (zah (zc6 (ztO 4 5 (zaH (zbD T) hr xwl zaA (zej 0 (zad (zaa 3) zas))))))) (zae (zbp (i:=6) zb0.nd rfl xwO (by rw[hpp];decide) (znY T.b_tuple (zaJ (zi2 (zck (zhK 4)) rfl (N':=zdi) (m:=1) xwk rfl (zb7 xwk) (zcS xwk) (zcO xwk) (λcl L s H fp G H' w Y=>⟨(zbd (i:=7) zhs rfl xwO (xwN rfl)),zdg,(zaH DS hr (wal _) zaA (zej 0 (zad (zaa 7) zas)))⟩))))) (zae (zbS (JW.jt (zuZ (ztq (zaa 3) zat) (ztU (zkm (zhk hr) (zaH (zbD T) hr xwl zaA (zej 0 (zad zat zas))) zat)))) (zah (za9 hnw (zjN (zax zhg (zax (zaa 6) zaC))))) zaN) (zah (za9 hnw (zjN (zax zhg (zax (zaa 6) zaC))))))))))))
abbrev zwS:List Str:=["script","k","state","n","one","other","rows","turn","number","row"]
abbrev zu9:List Str:=["script"]
theorem zeZ:za8 zwS zu9 (zak (top 37)):=⟨rfl,rfl,rfl,xwD,rfl,xwD,xwD⟩
noncomputable def zsM:DS:=(zaG (zfV (zfu (dFn ziL (dA (dC (.int 1)) (dA (dFn zi5 (dA (dFn zdv (dA (zab 0) dA0)) (dA (dC (.int 3)) dA0))) dA0)))) (zbv 1) (zaG (zcN 2 (zb1 zbW (dR (zab 0) (dR (zab 1) dR0)))) (zaG (zbo 3 (dOp zdz (dC (.int 1)) (zag zam (dRO 2 (dR (dC (.int 6)) dR0))))) (zaG (zv3 4 5 (dA (zag (zaM 8) (dRO 2 (dR (dFz (zi9 (zab 3))) dR0))) (dA (zag (zaM 8) (dRO 2 (dR (dFz (zi9 (zab 3))) dR0))) dA0))) (zaG (zbo 6 (dFz (zb1 zaS (dR (zab 3) (dR (zab 4) dR0))))) (zaG (dIf (zhy (dTB (dOp (gEq true) (dFz (zf9 zeh (dA (zab 6) dA0))) (zab 6))) (dTB (dOp (gEq true) (dFn zdv (dA (zab 6) dA0)) (zag zcj (dR (zab 3) (dR (zab 4) dR0)))))) (zaV (dC (.bl false))) dNx) (zaG (zfV (zfu (dC (.int 5))) (zbv 7) (zaG (zbo 8 (zag zam (dRO 2 (dR (dFn zdv (dA (zab 6) dA0)) dR0)))) (zaG (zbo 9 (dOp gIx (zab 6) (zab 8))) (zaG (dIf (zhy (dTB (dOp (gEq true) (zag zfg (dR (zab 3) (dR (zab 4) (dR (zab 8) dR0)))) (zab 9))) (zhy (dTB (dOp (gEq true) (zag zci (dR (zab 3) (dR (zab 4) (dR (zab 9) dR0)))) (zab 8))) (zcK (dTB (zag zb9 (dR (zab 3) (dR (zab 4) (dR (zab 9) dR0)))))))) (zaV (dC (.bl false))) dNx) (dIf (zhy (zcK (dTB (zag zb9 (dR (zab 3) (dR (zab 4) (dR (zq8 (zab 9)) dR0)))))) (dTB (dOp (gIn true) (zq8 (zab 9)) (zab 6)))) (zaV (dC (.bl false))) dNx))))) (zaG (dIf (dTB (dOp (gEq true) (dOp (gEq false) (dFz (zb1 zaS (dR (zab 3) (dR (zab 5) dR0)))) (zab 6)) (dOp (gEq false) (zag zb2 (dR (zab 3) (dR (zab 5) dR0))) (zag zb2 (dR (zab 3) (dR (zab 4) dR0)))))) (zaV (dC (.bl false))) dNx) (dIf (dTB (dOp (gEq true) (dFz (zb1 zaS (dR (zab 3) (dR (zag zb2 (dR (zab 3) (dR (zab 4) dR0))) dR0)))) (zab 6))) (zaV (dC (.bl false))) dNx))))))))) (zaV (dC (.bl true))))
noncomputable def zm8:FD:=zay false [false] 9 zsM
theorem zwx(T:Tx K mg){f:Addr}{fd:FuncData}(U:Fun K "law" "law" (top 37) f fd):zf7 P w K mg base CX0 35 f fd zu9 (znj false K xv [false] zm8):=by refine zaD (k:=34) false zaF U zeZ rfl rfl λX C hX hpp hxv hnw hr hx hpo=>?_;subst hxv;obtain ⟨cdv,A,outer,s,H,E,rfl⟩:=hX;exact (zae (zek hpo rfl (zgU rfl T.b_range (zvu rfl T.b_max zat (zuw rfl T.b_min (zhq T.b_len (zaa 0)) zat))) (zbd (i:=1) zeZ.nd rfl xwO (by rw[hpp];decide)) (zae (zeD (i:=2) zeZ.nd rfl xwO (by rw[hpp];decide) (zmI (zkg T) hr xwl zaA (zad (zaa 0) (zad (zaa 1) zas)))) (zae (zbp (i:=3) zeZ.nd rfl xwO (by rw[hpp];decide) (zeB zat (zaH (zbD T) hr xwl zaA (zej 2 (zad zat zas))))) (zae (zvU (i:=4) (j:=5) rfl zeZ.nd rfl rfl xwd rfl rfl (by rw[hpp];decide) (by rw[hpp];decide) (zax (zaH (ze5 T 8) hr xwl zaA (zej 2 (zad (zaJ (zkY rfl rfl T.b_list rfl T.b_range (zaa 3))) zas))) (zax (zaH (ze5 T 8) hr xwl zaA (zej 2 (zad (zaJ (zkY rfl rfl T.b_list rfl T.b_range (zaa 3))) zas))) zaC)) xwk) (zae (zbp (i:=6) zeZ.nd rfl xwO (by rw[hpp];decide) (zaJ (zmI (zdI T) hr xwl zaA (zad (zaa 3) (zad (zaa 4) zas))))) (zae (zbS (JW.jt (zjM (zmO (zhk hr) (zaJ (zpY rfl (zhk hr) rfl T.b_sorted rfl T.b_set (zaa 6))) (zaa 6)) (zjF (zmO (zhk hr) (zhq T.b_len (zaa 6)) (zaH (zkx T) hr xwl zaA (zad (zaa 3) (zad (zaa 4) zas))))))) (zah (za9 hnw zgx)) zaN) (zae (zek hpo rfl (zgU rfl T.b_range zat) (zbd (i:=7) zeZ.nd rfl xwO (by rw[hpp];decide)) (zae (zbp (i:=8) zeZ.nd rfl xwO (by rw[hpp];decide) (zaH (zbD T) hr xwl zaA (zej 2 (zad (zhq T.b_len (zaa 6)) zas)))) (zae (zbp (i:=9) zeZ.nd rfl xwO (by rw[hpp];decide) (zc4 (zaa 6) (zaa 8))) (zae (zbS (JW.jt (zjM (zmO (zhk hr) (zaH (zqJ T) hr xwl zaA (zad (zaa 3) (zad (zaa 4) (zad (zaa 8) zas)))) (zaa 9)) (zjM (zmO (zhk hr) (zaH (zll T) hr xwl zaA (zad (zaa 3) (zad (zaa 4) (zad (zaa 9) zas)))) (zaa 8)) (zjF (zgJ (zcC (zaH (zgT T) hr xwl zaA (zad (zaa 3) (zad (zaa 4) (zad (zaa 9) zas)))))))))) (zah (za9 hnw zgx)) zaN) (zah (zbS (JW.jt (zjM (zgJ (zcC (zaH (zgT T) hr xwl zaA (zad (zaa 3) (zad (zaa 4) (zad (znO (zaa 9)) zas)))))) (zjF (zqI (zwr hr) (znO (zaa 9)) (zaa 6))))) (zah (za9 hnw zgx)) zaN)))))) (zae (zbS (zmO (zhk hr) (zmT (zhk hr) (zaJ (zmI (zdI T) hr xwl zaA (zad (zaa 3) (zad (zaa 5) zas)))) (zaa 6)) (zmT (zhk hr) (zaH (zd8 T) hr xwl zaA (zad (zaa 3) (zad (zaa 5) zas))) (zaH (zd8 T) hr xwl zaA (zad (zaa 3) (zad (zaa 4) zas))))) (zah (za9 hnw zgx)) zaN) (zah (zbS (zmO (zhk hr) (zaJ (zmI (zdI T) hr xwl zaA (zad (zaa 3) (zad (zaH (zd8 T) hr xwl zaA (zad (zaa 3) (zad (zaa 4) zas))) zas)))) (zaa 6)) (zah (za9 hnw zgx)) zaN)))))))))) (zah (za9 hnw zgx)))
end
theorem zk0{x y:Dt}{bs:List B}:∀{Z:Ev}{k:Nat},zhm [.d x,.d y] bs k Z = Z
 |[],_=>rfl
 |o::r,k=>by show (match zdJ [.d x,.d y] k with|some j=>bs[j]?|none=>o)::zhm [.d x,.d y] bs (k+1) r=_;rw[zk0 (Z:=r)];rfl
theorem zb8{F:FD}{fa:De}{Z Z':Ev}{d y:Dt}{l:List B}(h:fa Z=.ok (d,Z'))(hF:F [.val d]=.ok (y,l)):zag F (dR fa dR0) Z=.ok (y,Z'):=by unfold zag dR dR0;rw[h];simp only[R.bind_ok,znk,zbi,if_true,za6,hF];rw[zpg]
theorem zgv{F:FD}{fa fb:De}{Z Z' Z'':Ev}{d e y:Dt}{l:List B}(h:fa Z=.ok (d,Z'))(h2:fb Z'=.ok (e,Z''))(hF:F [.val d,.val e]=.ok (y,l)):zag F (dR fa (dR fb dR0)) Z=.ok (y,Z''):=by unfold zag dR dR0;rw[h];simp only[R.bind_ok,h2,znk,zbi,if_true,za6,hF];rw[zk0]
theorem zlk{i k:Nat}{d:Dt}:zdJ [.s i,.d d] k=if i=k then some 0 else none:=by unfold zdJ zd4;split <;> rfl
theorem zrB{i:Nat}{d:Dt}{b:B}{bs:List B}:∀{Z:Ev}{k:Nat},k<=i->zhm [.s i,.d d] (b::bs) k Z = Z.set (i-k) (some b)
 |[],k,_=>by simp[zhm]
 |o::r,k,h=>by
  unfold zhm;rw[zlk];by_cases e:i=k
  ·subst e;simp only[if_true,Nat.sub_self,List.set_cons_zero];have:∀(r:Ev)(m:Nat),i<m->zhm [.s i,.d d] (b::bs) m r=r:=by
    intro r
    induction r with
    |nil=>intro m _;rfl
    |cons o r ih =>
     intro m hm;unfold zhm;rw[zlk,if_neg xwl,ih (m+1) xwl]
   rw[this r (i+1) xwl];rfl
  ·rw[if_neg e,zrB (k:=k+1) xwl];have:i-k=(i-(k+1))+1:=by lia
   rw[this,List.set_cons_succ]
theorem zhl{F:FD}{fb:De}{i:Nat}{Z:Ev}{d y:Dt}{st st':List Dt}{l:List B}(hi:Z[i]? = some (some (.own st)))(h:fb Z=.ok (d,Z))(hF:F [.own st,.val d]=.ok (y,.own st'::l)):zag F (dRO i (dR fb dR0)) Z=.ok (y,Z.set i (some (.own st'))):=by
 have u:znk [.s i,.d d]=true:=by unfold znk zbi;rw[zlk];simp[zbi]
 unfold zag dRO dR dR0;simp only[hi,h,R.bind_ok,u,if_true,za6,znQ,hF];rw[zrB (Nat.zero_le _)];rfl
theorem zan{nw:Bool}{ks:List Bool}{m:Nat}{body:DS}{bs:List B}{d:Dt}{Z':Ev}{l:List B}(hk:zcc bs=ks)(hb:body (bs.map some++List.replicate m none)=.ok (.rt d,Z'))(hl:za5 ks Z'=.ok l):zay nw ks m body bs=.ok (d,l):=by unfold zay;rw[if_pos hk,hb];simp only[R.bind_ok,hl]
noncomputable def St(st:List Dt):Prop:=∃ s b,st=[.int s,.bl b]
theorem zcL{st:List Dt}{m:Int}(h:St st)(h0:0<m)(h1:m<1073741824):∃(v:Int)(st':List Dt),zam [.own st,.val (.int m)]=.ok (.int v,[.own st',.val .non])/\St st'/\0<=v/\v<m:=by
 obtain ⟨s,b,rfl⟩:=h;cases b with
 |true =>
  refine ⟨s % m,[.int (s / m),.bl true],?_,⟨_,_,rfl⟩,Int.emod_nonneg _ xwl,Int.emod_lt_of_pos _ h0⟩;unfold zam zay ze6;simp[zcc,znQ,zaG,dIf,dTB,zpn,dC,atI,ixN,zbo,dOp,zmz,zab,zpd,zqt,zaV,za5,h0,h1]
 |false =>
  have e1:∃ a,(s * 48271+29) % 2147483647=a/\0<=a/\a<2147483647:=⟨_,rfl,Int.emod_nonneg _ xwd,Int.emod_lt_of_pos _ xwd⟩
  obtain ⟨a,ea,a0,a1⟩:=e1;have e2:∃ c,(a * a+39373 * a+7) % 2147483629=c/\0<=c/\c<2147483629:=⟨_,rfl,Int.emod_nonneg _ xwd,Int.emod_lt_of_pos _ xwd⟩
  obtain ⟨c,ec,c0,c1⟩:=e2;have sa:zbm a=true:=by unfold zbm;simp;lia
  have sc:zbm c=true:=by unfold zbm;simp;lia
  have s1:zbm 48271=true:=by decide
  have s2:zbm 39373=true:=by decide
  have s3:zbm 16807=true:=by decide
  refine ⟨(c * c+16807 * c) % 2147483587 / 8 % m,[.int a,.bl false],?_,⟨_,_,rfl⟩,Int.emod_nonneg _ xwl,Int.emod_lt_of_pos _ h0⟩;unfold zam zay ze6;simp[zcc,znQ,zaG,dIf,dTB,zpn,dC,atI,ixN,zbo,dOp,zmz,zil,zdz,zab,zpd,zqt,zaV,dNx,za5,h0,h1,ea,ec,sa,sc,s1,s2,s3]
theorem ziI:∀(n:Nat)(d:Dt),okN n d=true->okN (n+1) d=true
 |_,.non,_=>by simp[okN]
 |_,.bl _,_=>by simp[okN]
 |_,.int _,_=>by simp[okN]
 |n,.str x,h=>by cases n <;> simpa [okN] using h
 |0,.tup l,h=>by simp[okN] at h
 |0,.lst l,h=>by simp[okN] at h
 |n+1,.tup l,h=>by simp only[okN,List.all_eq_true] at h ⊢;exact λd hd=>ziI n d (h d hd)
 |n+1,.lst l,h=>by simp only[okN,List.all_eq_true] at h ⊢;exact λd hd=>ziI n d (h d hd)
 |n,.dct _,h=>by cases n <;> simp[okN] at h
 |n,.scr _,h=>by cases n <;> simp[okN] at h
theorem zr8{n m:Nat}{d:Dt}(h:okN n d=true)(hl:n<=m):okN m d=true:=by
 induction hl with
 |refl=>exact h
 |step _ ih=>exact ziI _ _ ih
theorem zkN{n:Nat}{v:Int}(h0:0<=v)(h1:v<n):ixN n v=some v.toNat:=by unfold ixN;rw[if_pos h0,if_pos h1]
theorem zdT{α:Type}:∀{l:List α}{j:Nat}{d:α},l[j]? = some d->(d::l.eraseIdx j).Perm l
 |[],_,_,h=>by simp at h
 |a::l,0,d,h=>by simp at h;subst h;exact .refl _
 |a::l,j+1,d,h=>by have:=zdT (l:=l) (j:=j) (d:=d) (by simpa using h);exact (List.Perm.swap a d _).trans (this.cons a)
theorem zbA{neg:Bool}{x y:Dt}(h1:okN 60 x=true)(h2:okN 60 y=true):gEq neg x y=.ok (.bl (if neg then !eqD x y else eqD x y)):=by unfold gEq;rw[h1,h2];rfl
theorem zkh{d:Dt}{l:List Dt}:eqD (.lst (d::l)) (.lst [])=false:=by rw[eqD];simp[zf0]
theorem zlb:eqD (.lst []) (.lst [])=true:=by rw[eqD,zf0]
theorem zvD{st found l:List Dt}{o:Option B}{b:Bool}(h:okN 60 (.lst l)=true)(e:(!eqD (.lst l) (.lst []))=b):dTB (zuo true 2 (dFz (zdm dA0))) [some (.own st),o,some (.own l),some (.own found)]=.ok (b,[some (.own st),o,some (.own l),some (.own found)]):=by show (((gEq true (.lst l) (.lst [])).bind λz=>.ok (z,[some (.own st),o,some (.own l),some (.own found)])).bind λ(a:Dt×Ev)=>match a.1 with|.bl b=>.ok (b,a.2)|_=>.no)=_;rw[zbA h rfl];simp only[if_true,e];rfl
theorem zhE{things:Option B}:∀(n:Nat)(left found:List Dt)(st:List Dt),left.length<n->left.length+found.length<=1000->(∀ d∈left,okN 59 d=true)->St st->∃ st' p,St st'/\p.Perm left /\
  zdr (dTB (zuo true 2 (dFz (zdm dA0)))) (dEx (zho 3 (zhU 2 (zag zam (dRO 0 (dR (zmY 2) dR0)))))) n [some (.own st),things,some (.own left),some (.own found)]=.ok (.nx,[some (.own st'),things,some (.own []),some (.own (found++p))])
 |0,left,found,st,h,_,_,_=>absurd h (Nat.not_lt_zero _)
 |n+1,[],found,st,h,hl,hk,hs=>by refine ⟨st,[],hs,.refl _,?_⟩;unfold zdr;rw[zvD (b:=false) rfl (by rw[zlb];rfl)];simp
 |n+1,d::left,found,st,h,hl,hk,hs=>by
  obtain ⟨v,st1,e,hs1,v0,v1⟩:=zcL (m:=((d::left).length:Nat)) hs (by simp only[wan];lia) (by simp only[wan] at hl ⊢;lia);have hv:v.toNat<(d::left).length:=by lia
  have hget:(d::left)[v.toNat]? = some (d::left)[v.toNat]:=by simp[hv]
  have hel:=zdT hget;have hlen:((d::left).eraseIdx v.toNat).length=left.length:=by have:=hel.length_eq;simp only[wan] at this;lia
  obtain ⟨st',p,hs',hp,hw⟩:=zhE (things:=things) n ((d::left).eraseIdx v.toNat) (found++[(d::left)[v.toNat]]) st1 (by simp only[wan] at h;lia) (by simp only[wav,wan,List.length_nil] at hl ⊢;lia)
   (λx hx=>hk x (hel.mem_iff.mp (wah _ hx))) hs1
  refine ⟨st',(d::left)[v.toNat]::p,hs',((hp.cons _).trans hel),?_⟩;have hall:((d::left).all (okN 59))=true:=List.all_eq_true.mpr hk;have ec:zag zam (dRO 0 (dR (zmY 2) dR0)) [some (.own st),things,some (.own (d::left)),some (.own found)]=.ok (.int v,[some (.own st1),things,some (.own (d::left)),some (.own found)]):=zhl (Z:=[some (.own st),things,some (.own (d::left)),some (.own found)]) rfl rfl e;have hm:zg9 v=true:=by unfold zg9;simp;simp only[wan] at hl v1;lia
  unfold zdr;have t1:=zvD (st:=st) (found:=found) (l:=d::left) (o:=things) (b:=true) (show okN 60 (.lst (d::left))=true from hall) (by rw[zkh];rfl);rw[t1];simp only[R.bind_ok,if_true];have t2:dEx (zho 3 (zhU 2 (zag zam (dRO 0 (dR (zmY 2) dR0))))) [some (.own st),things,some (.own (d::left)),some (.own found)]=.ok (.nx,[some (.own st1),things,some (.own ((d::left).eraseIdx v.toNat)),some (.own (found++[(d::left)[v.toNat]]))]):=by
   have hpop:zq6 (d::left) v=some ((d::left)[v.toNat],(d::left).eraseIdx v.toNat):=by unfold zq6;rw[if_pos hm,zkN v0 v1];simp only[hget]
   unfold dEx zho zhU;simp only[List.getElem?_cons_succ,List.getElem?_cons_zero,ec,R.bind_ok,hpop,List.set_cons_succ,List.set_cons_zero];rw[if_pos xwl];rfl
  rw[t2];simp only[R.bind_ok];rw[hw];simp
theorem zmB{l:List Dt}{st:List Dt}(hs:St st)(hl:l.length<10)(hk:∀ d∈l,okN 59 d=true):∃ st' p,St st'/\p.Perm l/\zbu [.own st,.val (.lst l)]=.ok (.lst p,[.own st',.val .non]):=by
 obtain ⟨st',p,hs',hp,hw⟩:=zhE (things:=some (.val (.lst l))) 10 l [] st hl (by simp;lia) hk hs;refine ⟨st',p,hs',hp,?_⟩;have hd:zbY [some (.own st),some (.val (.lst l)),none,none]=.ok (.rt (.lst p),[some (.own st'),some (.val (.lst l)),some (.own []),some (.val (.lst p))]):=by unfold zbY;have e1:zcN 2 (zf9 zlp (dA (zab 1) dA0)) [some (.own st),some (.val (.lst l)),none,none]=.ok (.nx,[some (.own st),some (.val (.lst l)),some (.own l),none]):=rfl;have e2:zcN 3 (zdm dA0) [some (.own st),some (.val (.lst l)),some (.own l),none]=.ok (.nx,[some (.own st),some (.val (.lst l)),some (.own l),some (.own [])]):=rfl;unfold zaG;rw[e1];simp only[R.bind_ok];rw[e2];simp only[R.bind_ok];rw[hw];rfl
 exact zan rfl hd rfl
theorem za4{g:Dt->Dt->R Dt}{fa fb:De}{Z Z1 Z2:Ev}{d e z:Dt}(h1:fa Z=.ok (d,Z1))(h2:fb Z1=.ok (e,Z2))(h3:g d e=.ok z):dOp g fa fb Z=.ok (z,Z2):=by unfold dOp;rw[h1];simp only[R.bind_ok,h2,h3]
theorem zaP{f:De}{Z Z1:Ev}{b:Bool}(h:f Z=.ok (.bl b,Z1)):dTB f Z=.ok (b,Z1):=by unfold dTB;rw[h];rfl
theorem zfJ{c:DT}{f g:DS}{Z Z1:Ev}(h:c Z=.ok (true,Z1)):dIf c f g Z=f Z1:=by unfold dIf;rw[h];rfl
theorem zc3{c:DT}{f g:DS}{Z Z1:Ev}(h:c Z=.ok (false,Z1)):dIf c f g Z=g Z1:=by unfold dIf;rw[h];rfl
theorem zaj{f g:DS}{Z Z1:Ev}(h:f Z=.ok (.nx,Z1)):zaG f g Z=g Z1:=by unfold zaG;rw[h];rfl
theorem zeo{f g:DS}{Z Z1:Ev}{d:Dt}(h:f Z=.ok (.rt d,Z1)):zaG f g Z=.ok (.rt d,Z1):=by unfold zaG;rw[h];rfl
theorem zb5{f:De}{Z Z1:Ev}{d:Dt}(h:f Z=.ok (d,Z1)):zaV f Z=.ok (.rt d,Z1):=by unfold zaV;rw[h];rfl
theorem zbl{f:De}{i:Nat}{Z Z1:Ev}{d:Dt}(h:f Z=.ok (d,Z1))(hi:i < Z1.length):zbo i f Z=.ok (.nx,Z1.set i (some (.val d))):=by unfold zbo;rw[h];simp only[R.bind_ok,hi,if_true]
theorem zqD{f:DN}{i:Nat}{Z Z1:Ev}{d:List Dt}(h:f Z=.ok (d,Z1))(hi:i < Z1.length):zcN i f Z=.ok (.nx,Z1.set i (some (.own d))):=by unfold zcN;rw[h];simp only[R.bind_ok,hi,if_true]
theorem zaZ{f:DN}{Z Z1:Ev}{d:List Dt}(h:f Z=.ok (d,Z1)):dFz f Z=.ok (.lst d,Z1):=by unfold dFz;rw[h];rfl
theorem zfi{f:De}{Z Z1:Ev}{d:Dt}(h:f Z=.ok (d,Z1)):dEx f Z=.ok (.nx,Z1):=by unfold dEx;rw[h];rfl
theorem zeI{g:List Dt->R Dt}{f:De}{Z Z1:Ev}{d z:Dt}(h:f Z=.ok (d,Z1))(hg:g [d]=.ok z):dFn g (dA f dA0) Z=.ok (z,Z1):=by unfold dFn dA dA0;rw[h];simp only[R.bind_ok,hg]
theorem zhX{f g:DT}{Z Z1:Ev}(h:f Z=.ok (false,Z1)):zhy f g Z=g Z1:=by unfold zhy;rw[h];rfl
theorem zsf{f g:DT}{Z Z1:Ev}(h:f Z=.ok (true,Z1)):zhy f g Z=.ok (true,Z1):=by unfold zhy;rw[h];rfl
theorem zpi{f g:DT}{Z Z1:Ev}(h:f Z=.ok (true,Z1)):zls f g Z=g Z1:=by unfold zls;rw[h];rfl
theorem ztV{f g:DT}{Z Z1:Ev}(h:f Z=.ok (false,Z1)):zls f g Z=.ok (false,Z1):=by unfold zls;rw[h];rfl
theorem zdZ{f:DT}{Z Z1:Ev}{b:Bool}(h:f Z=.ok (b,Z1)):zcK f Z=.ok (!b,Z1):=by unfold zcK;rw[h];rfl
theorem zo5{Z0:Ev}{o:Option B}{d:Dt}:zbv Z0.length d (Z0++[o])=.ok (Z0++[some (.val d)]):=by unfold zbv;rw[if_pos xws];simp
theorem zjx{α:Type}{u f:α->Dt}{fe:De}{Z0:Ev}:∀{l:List α}{o:Option B},(∀ a∈l,fe (Z0++[some (.val (u a))])=.ok (f a,Z0++[some (.val (u a))]))->∃ o',zd9 (zbv Z0.length) dTT fe (l.map u) (Z0++[o])=.ok (l.map f,Z0++[o'])
 |[],o,_=>⟨o,rfl⟩
 |a::l,o,h=>by obtain ⟨o',e⟩:=zjx (l:=l) (o:=some (.val (u a))) λb hb=>h b (by simp[hb]);refine ⟨o',?_⟩;rw[List.map_cons,zd9,zo5];simp only[R.bind_ok,dTT,if_true];rw[h a xws];simp only[R.bind_ok];rw[e];rfl
theorem zbH{α:Type}{u f:α->Dt}{fe:De}{Z0:Ev}{fi:DA}{l:List α}{ds:List Dt}(hi:fi Z0=.ok (ds,Z0))(hd:ds=l.map u)(hl:l.length<=1000)(h:∀ a∈l,fe (Z0++[some (.val (u a))])=.ok (f a,Z0++[some (.val (u a))])){j:Nat}(hj:j = Z0.length) :
  zbQ fi (zbv j) dTT fe 1 Z0=.ok (l.map f,Z0):=by
 subst hd;subst hj;obtain ⟨o',e⟩:=zjx (o:=none) h;unfold zbQ;rw[hi];simp only[R.bind_ok];rw[if_pos (by unfold fits;simp;lia)];show (match zd9 (zbv Z0.length) dTT fe (l.map u) (Z0++[none]) with|.ok z=>R.ok (z.1,z.2.take Z0.length)|_=>.no)=_;rw[e];simp
theorem zi0{α:Type}{a:α}{l:List α}:atI (a::l) 0=some a:=by unfold atI ixN;simp
theorem eqI{a b:Int}:eqD (.int a) (.int b)=(a == b):=by rw[eqD]
theorem zqz{x:Option B}{zaX:Ev}{o:Option B}{d:Dt}:zbv (zaX.length+1) d (x::(zaX++[o]))=.ok (x::(zaX++[some (.val d)])):=by unfold zbv;rw[if_pos xws];simp
theorem znZ{α β:Type}{Rl:α->β->Prop}{u:α->Dt}{v:β->Dt}{fe:De}{zaX:Ev}:∀{l:List α}{st:List Dt}{o:Option B},
  (∀ a∈l,∀ st,St st->∃ y st',St st'/\Rl a y/\fe (some (.own st)::(zaX++[some (.val (u a))]))=.ok (v y,some (.own st')::(zaX++[some (.val (u a))])))->St st ->
  ∃ ys st' o',St st'/\Paired Rl l ys/\zd9 (zbv (zaX.length+1)) dTT fe (l.map u) (some (.own st)::(zaX++[o]))=.ok (ys.map v,some (.own st')::(zaX++[o']))
 |[],st,o,_,hs=>⟨[],st,o,hs,.nil,rfl⟩
 |a::l,st,o,h,hs=>by obtain ⟨y,st1,hs1,hr,e1⟩:=h a xws st hs;obtain ⟨ys,st',o',hs',hp,e⟩:=znZ (l:=l) (st:=st1) (o:=some (.val (u a))) (λb hb=>h b (wah _ hb)) hs1;refine ⟨y::ys,st',o',hs',.cons hr hp,?_⟩;rw[List.map_cons,zd9,zqz];simp only[R.bind_ok,dTT,if_true];rw[e1];simp only[R.bind_ok];rw[e];rfl
theorem zqo{α β:Type}{Rl:α->β->Prop}{u:α->Dt}{v:β->Dt}{fe:De}{zaX:Ev}{fi:DA}{Z:Ev}{l:List α}{ds:List Dt}{st:List Dt}{j:Nat}(hi:fi Z=.ok (ds,some (.own st)::zaX))(hd:ds=l.map u)(hl:l.length<=1000)(hj:j=zaX.length+1)
  (h:∀ a∈l,∀ st,St st->∃ y st',St st'/\Rl a y/\fe (some (.own st)::(zaX++[some (.val (u a))]))=.ok (v y,some (.own st')::(zaX++[some (.val (u a))]))) (hs:St st) :
  ∃ ys st',St st'/\Paired Rl l ys/\zbQ fi (zbv j) dTT fe 1 Z=.ok (ys.map v,some (.own st')::zaX):=by
 subst hd;subst hj;obtain ⟨ys,st',o',hs',hp,e⟩:=znZ (o:=none) h hs;refine ⟨ys,st',hs',hp,?_⟩;unfold zbQ;rw[hi];simp only[R.bind_ok];rw[if_pos (by unfold fits;simp only[List.length_map,decide_eq_true_eq];lia)];show (match zd9 (zbv (zaX.length+1)) dTT fe (l.map u) (some (.own st)::(zaX++[none])) with|.ok z=>R.ok (z.1,z.2.take (zaX.length+1))|_=>.no)=_;rw[e];simp
theorem zj2{p:List Dt}{l:List Int}(h:p.Perm (l.map .int)):∃ q:List Int,q.Perm l/\p=q.map .int:=by
 refine ⟨p.map λd=>match d with|.int i=>i|_=>0,?_,?_⟩
 ·have:=h.map λd=>match d with|.int i=>i|_=>0
  rw[List.map_map] at this;have e:((λd=>match d with|.int i=>i|_=>0) ∘ Dt.int)=(id:Int->Int):=rfl;rw[e,List.map_id] at this;exact this
 ·rw[List.map_map]
  conv=>lhs;rw[<- List.map_id p]
  refine List.map_congr_left λd hd=>?_;obtain ⟨i,_,rfl⟩:=List.mem_map.mp (h.mem_iff.mp hd);rfl
noncomputable def isW:Dt->Bool
 |.int _=>true
 |_=>false
theorem zfy(d:Dt):zbc [.val d]=.ok (.bl (isW d),[.val .non]):=by
 cases d <;> simp[zbc,zay,zhB,zcc,znQ,zaV,zkw,zsh,zab,zwo,zwk,tyD,za5,isW]
theorem zfX{n:Int}(h1:1<=n)(h7:n<=7):za7 [.val (.int n)]=.ok (.non,[.val .non]):=by
 have e:zag zbc (dR (zab 0) dR0) [some (.val (.int n))]=.ok (.bl true,[some (.val (.int n))]):=zb8 (Z':=[some (.val (.int n))]) rfl (zfy _);have a1:decide (n<1)=false:=by simp;lia
 have a2:decide (7<n)=false:=by simp;lia
 simp[za7,zay,zei,zcc,znQ,dIf,zhy,zcK,dTB,e,dOp,zab,dC,zmE,a1,a2,dNx,za5]
noncomputable def isG(n:Int):Dt->Bool
 |.int i=>decide (0<=i) && decide (i<n)
 |_=>false
theorem znc(n:Int)(d:Dt):zbw [.val (.int n),.val d]=.ok (.bl (isG n d),[.val .non,.val .non]):=by
 have e:zag zbc (dR (zab 1) dR0) [some (.val (.int n)),some (.val d)]=.ok (.bl (isW d),[some (.val (.int n)),some (.val d)]):=zb8 (Z':=[some (.val (.int n)),some (.val d)]) rfl (zfy _);cases d with
 |int i =>
  by_cases h:0<=i
  ·simp[zbw,zay,zec,zcc,znQ,zaV,zkw,e,isW,zjv,dC,zab,zmE,h,isG,za5]
  ·simp[zbw,zay,zec,zcc,znQ,zaV,zkw,e,isW,zjv,dC,zab,zmE,h,isG,za5]
 |_=>simp[zbw,zay,zec,zcc,znQ,zaV,zkw,e,isW,isG,za5]
theorem zwI{neg:Bool}{i j:Int}:gEq neg (.int i) (.int j)=.ok (.bl (if neg then !(i == j) else (i == j))):=by rw[zbA rfl rfl,eqI]
theorem zir:∀ a b:List Int,zf0 (a.map .int) (b.map .int)=(a == b)
 |[],[]=>by rw[List.map_nil,zf0];rfl
 |[],b::r=>by rw[List.map_nil,List.map_cons,zf0];rfl;all_goals (intros;simp at *)
 |a::r,[]=>by rw[List.map_nil,List.map_cons,zf0];rfl;all_goals (intros;simp at *)
 |a::r,b::q=>by rw[List.map_cons,List.map_cons,zf0,eqI,zir r q];rfl
theorem zpy(l:List Int)(n:Nat):okN (n+1) (.lst (l.map .int))=true:=by simp[okN]
noncomputable def zbk(n:Nat):List Int:=(List.range n).map λ(k:Nat)=>(k:Int)
theorem zqO(n:Nat):zdl 0 n=(zbk n).map .int:=by unfold zdl zbk;rw[List.map_map];refine List.map_congr_left λk _=>?_;simp
theorem zf4:∀(a b:List Int),a.Nodup->(∀ x∈a,x∈b)->b.length<=a.length->a.Perm b
 |[],b,_,_,h=>by have:b=[]:=List.length_eq_zero_iff.mp (by simpa using h);subst this;exact .refl _
 |x::a,b,hn,hs,hl=>by rw[List.nodup_cons] at hn;have hx:x∈b:=hs x xws;have hp:=List.perm_cons_erase hx;have hlen:=hp.length_eq;simp only[wan] at hlen hl;have:=zf4 a (b.erase x) hn.2 (λy hy=>(List.mem_erase_of_ne (λ(e:y=x)=>hn.1 (e ▸ hy))).mpr (hs y (by simp[hy]))) xwl;exact (this.cons x).trans hp.symm
theorem zdP{n:Nat}{x:Int}:x∈zbk n ↔ 0<=x/\x<n:=by
 unfold zbk;rw[List.mem_map];constructor
 ·rintro ⟨k,hk,rfl⟩;have:=List.mem_range.mp hk;lia
 ·rintro ⟨h0,h1⟩;exact ⟨x.toNat,List.mem_range.mpr xwl,xwl⟩
theorem zcf(n:Nat):(zbk n).length=n:=by unfold zbk;simp
theorem znb(n:Nat):(zbk n).Pairwise (· <= ·):=by unfold zbk;rw[List.pairwise_map];refine List.Pairwise.imp (R:=λa b=>a<b) (λ{a b} h=>by lia) List.pairwise_lt_range
theorem zcy(n:Nat):(zbk n).Nodup:=by unfold zbk;unfold List.Nodup;rw[List.pairwise_map];refine List.Pairwise.imp (R:=λa b=>a<b) (λ{a b} h=>by lia) List.pairwise_lt_range
theorem zmX{n:Nat}{l:List Int}:zaT l=zbk n ↔ l.Nodup/\(∀ x∈l,0<=x/\x<n)/\l.length=n:=by
 constructor
 ·intro h;have hp:l.Perm (zbk n):=by rw[<- h];exact (zaB l).symm
  exact ⟨hp.nodup_iff.mpr (zcy n),λx hx=>zdP.mp (hp.mem_iff.mp hx),by rw[hp.length_eq,zcf]⟩
 ·rintro ⟨h1,h2,h3⟩;have hp:l.Perm (zbk n):=zf4 _ _ h1 (λx hx=>zdP.mpr (h2 x hx)) (by rw[zcf];lia);exact W.lks_uniq ((zaB l).trans hp) (zcI l) (znb n)
theorem zn0{α:Type}{l:List α}{j:Nat}(h:j<l.length):zme l none (some (j:Int))=l.take j:=by unfold zme;rw[HT.sIx_nat,HT.sIx_none,List.drop_zero,Nat.min_eq_left xwl,Nat.sub_zero]
theorem zlC{α:Type}{l:List α}{j:Nat}(h:j<l.length):zme l (some ((j:Int)+1)) none=l.drop (j+1):=by unfold zme;rw[show (j:Int)+1=((j+1:Nat):Int) from rfl,HT.sIx_nat,HT.sIx_none,Nat.min_eq_left xwl,List.take_of_length_le xws]
theorem zkQ{α:Type}{l:List α}{v:Int}(h0:0<=v)(h1:v<l.length):atI l v=l[v.toNat]? := by unfold atI;rw[zkN h0 h1];rfl
theorem zlv{l:List Dt}{v:Int}{d:Dt}(h0:0<=v)(h1:v<l.length)(hd:l[v.toNat]? = some d):gIx (.lst l) (.int v)=.ok d:=by unfold gIx;simp only[zkQ h0 h1,hd]
theorem zsv{fa:De}{fr:DA}{Z Z1 Z2:Ev}{d:Dt}{ds:List Dt}(h1:fa Z=.ok (d,Z1))(h2:fr Z1=.ok (ds,Z2)):dA fa fr Z=.ok (d::ds,Z2):=by unfold dA;rw[h1];simp only[R.bind_ok];rw[h2];rfl
theorem ztL{f:DA}{Z Z1:Ev}{ds:List Dt}(h:f Z=.ok (ds,Z1))(hl:ds.length<=16777216):zdm f Z=.ok (ds,Z1):=by unfold zdm;rw[h];simp only[R.bind_ok];rw[if_pos (by unfold fits;simpa using hl)]
theorem zoo{ns:List Int}{k:Nat}:∃ c:Int,zbN [.val (.scr ns),.val (.int k)]=.ok (.int c,[.val .non,.val .non]):=by
 have e0:dTB (dOp gLt (zab 1) (dFn zdv (dA (zab 0) dA0))) [some (.val (.scr ns)),some (.val (.int k))]=.ok (decide ((k:Int)<ns.length),[some (.val (.scr ns)),some (.val (.int k))]):=zaP (za4 (d:=.int k) (e:=.int ns.length) rfl rfl rfl);by_cases h:k<ns.length
 ·refine ⟨ns[k],zan (Z':=[some (.val (.scr ns)),some (.val (.int k))]) rfl ?_ rfl⟩;show zbr [some (.val (.scr ns)),some (.val (.int k))]=_;unfold zbr;refine zeo ?_;rw[zfJ (by rw[e0,decide_eq_true xwl])];refine zb5 (za4 (d:=.scr ns) (e:=.int k) rfl rfl ?_);unfold gIx;simp only[zkQ (l:=ns) (v:=(k:Int)) xwl xwl,Int.toNat_natCast,wac h]
 ·refine ⟨0,zan (Z':=[some (.val (.scr ns)),some (.val (.int k))]) rfl ?_ rfl⟩;show zbr [some (.val (.scr ns)),some (.val (.int k))]=_;unfold zbr;rw[zaj (Z1:=[some (.val (.scr ns)),some (.val (.int k))]) (by rw[zc3 (by rw[e0,decide_eq_false xwl])];rfl)];rfl
theorem zmu{ns:List Int}{k:Nat}:∃ st,St st/\zbW [.val (.scr ns),.val (.int k)]=.ok (.lst st,[.val .non,.val .non]):=by
 obtain ⟨c,hc⟩:=zoo (ns:=ns) (k:=k);have e1:zbo 2 (zag zbN (dR (zab 0) (dR (zab 1) dR0))) [some (.val (.scr ns)),some (.val (.int k)),none]=.ok (.nx,[some (.val (.scr ns)),some (.val (.int k)),some (.val (.int c))]):=zbl (zgv (Z':=[some (.val (.scr ns)),some (.val (.int k)),none]) (Z'':=[some (.val (.scr ns)),some (.val (.int k)),none]) rfl rfl hc) xws;have ep:dOp zp8 (dC (.int 10)) (dC (.int 18)) [some (.val (.scr ns)),some (.val (.int k)),some (.val (.int c))]=.ok (.int 1000000000000000000,[some (.val (.scr ns)),some (.val (.int k)),some (.val (.int c))]):=by refine za4 rfl rfl ?_;show (if 0<=(18:Int)/\(18:Int)<=1000/\(10:Int).natAbs<18446744073709551616 then R.ok (Dt.int ((10:Int) ^ (18:Int).toNat)) else R.no)=_;rw[if_pos xwd];rfl
 have e2:dTB (dOp gGe (zab 2) (dOp zp8 (dC (.int 10)) (dC (.int 18)))) [some (.val (.scr ns)),some (.val (.int k)),some (.val (.int c))]=.ok (decide ((1000000000000000000:Int)<=c),[some (.val (.scr ns)),some (.val (.int k)),some (.val (.int c))]):=zaP (za4 (d:=.int c) rfl ep rfl);by_cases h:(1000000000000000000:Int)<=c
 ·refine ⟨[.int (c-1000000000000000000),.bl true],⟨_,_,rfl⟩,zan (Z':=[some (.val (.scr ns)),some (.val (.int k)),some (.val (.int c))]) rfl ?_ rfl⟩;show zbR [some (.val (.scr ns)),some (.val (.int k)),none]=_;unfold zbR;rw[zaj e1];refine zeo ?_;rw[zfJ (by rw[e2,decide_eq_true h])];unfold zjH zdm;rw[dA,za4 (d:=.int c) (z:=.int (c-1000000000000000000)) rfl ep rfl];rfl
 ·refine ⟨[.int (c % 2147483647),.bl false],⟨_,_,rfl⟩,zan (Z':=[some (.val (.scr ns)),some (.val (.int k)),some (.val (.int c))]) rfl ?_ rfl⟩;show zbR [some (.val (.scr ns)),some (.val (.int k)),none]=_;unfold zbR;rw[zaj e1,zaj (Z1:=[some (.val (.scr ns)),some (.val (.int k)),some (.val (.int c))]) (by rw[zc3 (by rw[e2,decide_eq_false h])];rfl)];unfold zjH zdm;rw[dA,za4 (d:=.int c) (z:=.int (c % 2147483647)) rfl rfl rfl];rfl
theorem zjq{F:FD}{fa fb:De}{Z Z' Z'':Ev}{d e:Dt}{y:List Dt}{l:List B}(h:fa Z=.ok (d,Z'))(h2:fb Z'=.ok (e,Z''))(hF:F [.val d,.val e]=.ok (.lst y,l)):zb1 F (dR fa (dR fb dR0)) Z=.ok (y,Z''):=by unfold zb1 dR dR0;rw[h];simp only[R.bind_ok,h2,znk,zbi,if_true,za6,hF];rw[zk0]
inductive Tr where
 |lf (i:Int)|nd (row:Bool) (l:List Tr)
noncomputable def wd(r:Bool):Str:=if r then Str.ofString "row" else Str.ofString "any"
mutual
noncomputable def toD:Tr->Dt
 |.lf i=>.int i
 |.nd r l=>.tup [.str (wd r),.tup (zkv l)]
noncomputable def zkv:List Tr->List Dt
 |[]=>[]
 |t::r=>toD t::zkv r
end
mutual
noncomputable def zac:Tr->List Int
 |.lf i=>[i]
 |.nd _ l=>zaf l
noncomputable def zaf:List Tr->List Int
 |[]=>[]
 |t::r=>zac t++zaf r
end
mutual
noncomputable def dep:Tr->Nat
 |.lf _=>1
 |.nd _ l=>zcM l+1
noncomputable def zcM:List Tr->Nat
 |[]=>0
 |t::r=>max (dep t) (zcM r)
end
mutual
noncomputable def okT:Tr->Bool
 |.lf _=>true
 |.nd r l=>decide ((if r then 3 else 2)<=l.length) && zgt l
noncomputable def zgt:List Tr->Bool
 |[]=>true
 |t::r=>okT t && zgt r
end
theorem zce:∀ l:List Tr,zkv l=l.map toD
 |[]=>by simp[zkv]
 |t::r=>by simp[zkv,zce r]
theorem zaL:∀ l:List Tr,zaf l=l.flatMap zac
 |[]=>by simp[zaf]
 |t::r=>by simp[zaf,zaL r]
theorem zcY:∀ l:List Tr,zgt l=l.all okT
 |[]=>by simp[zgt]
 |t::r=>by simp[zgt,zcY r]
theorem zaW{n:Nat}:∀{l:List Tr},zcM l<=n ↔ ∀ t∈l,dep t<=n
 |[]=>by simp[zcM]
 |t::r=>by have:=zaW (n:=n) (l:=r);simp only[zcM,wap,forall_eq_or_imp];rw[<- this];lia
theorem zb6:∀(n:Nat)(t:Tr),dep t<=n->okT t=true->zac t≠[]
 |n,.lf i,_,_=>by simp[zac]
 |0,.nd r l,h,_=>by simp[dep] at h
 |n+1,.nd r l,h,ho=>by
  simp only[dep,okT,wae,war] at h ho;cases l with
  |nil=>have:=ho.1;cases r <;> simp at this
  |cons t q =>
   simp only[zgt,wae] at ho;have:=zb6 n t (by simp only[zcM] at h;lia) ho.2.1;simp only[zac,zaf];intro z;exact this (List.append_eq_nil_iff.mp z).1
theorem zh6{α:Type}{u:α->Dt}{f:α->List Dt}{fe:DN}{Z0:Ev}:∀{l:List α}{o:Option B},(∀ a∈l,fe (Z0++[some (.val (u a))])=.ok (f a,Z0++[some (.val (u a))]))->∃ o',zdh (zbv Z0.length) dTT fe (l.map u) (Z0++[o])=.ok (l.map f,Z0++[o'])
 |[],o,_=>⟨o,rfl⟩
 |a::l,o,h=>by obtain ⟨o',e⟩:=zh6 (l:=l) (o:=some (.val (u a))) λb hb=>h b (wah _ hb);refine ⟨o',?_⟩;rw[List.map_cons,zdh,zo5];simp only[R.bind_ok,dTT,if_true];rw[h a xws];simp only[R.bind_ok];rw[e];rfl
theorem zgK{g:Int}:∀{l:List (List Int)}{j:Nat}{p:List Int},l[j]? = some p->(l.set j (p++[g])).flatten.Perm (l.flatten++[g])
 |[],j,p,h=>by simp at h
 |a::l,0,p,h=>by simp at h;subst h;simp only[List.set_cons_zero,List.flatten_cons,List.append_assoc];exact List.Perm.append_left _ List.perm_append_comm
 |a::l,j+1,p,h=>by have:=zgK (g:=g) (l:=l) (j:=j) (p:=p) (by simpa using h);simp only[List.set_cons_succ,List.flatten_cons,List.append_assoc];exact this.append_left a
noncomputable def lz(p:List Int):List Dt:=p.map .int
theorem zkp{g r b6:Option B}{m:Nat}:∀{gs:List Int}{pss:List (List Int)}{st:List Dt}{o:Option B},0<m->m<=100->pss.length=m->(∀ p∈pss,p≠[])->pss.flatten.length+gs.length<=1000->St st ->
  ∃(pss':List (List Int))(st':List Dt)(o':Option B),St st'/\pss'.length=m/\(∀ p∈pss',p≠[])/\pss'.flatten.Perm (pss.flatten++gs) /\
   zpp (zbv 5) (dEx (zjy 4 5 (zag zam (dRO 0 (dR (zab 3) dR0))))) (gs.map .int) [some (.own st),g,r,some (.val (.int m)),some (.own2 (pss.map lz)),o,b6]=.ok (.nx,[some (.own st'),g,r,some (.val (.int m)),some (.own2 (pss'.map lz)),o',b6])
 |[],pss,st,o,_,_,hl,hne,_,hs=>⟨pss,st,o,hs,hl,hne,xws,rfl⟩
 |x::gs,pss,st,o,m0,m1,hl,hne,hb,hs=>by
  obtain ⟨v,st1,e,hs1,v0,v1⟩:=zcL (m:=(m:Nat)) hs xwl xwl;have hj:v.toNat<pss.length:=by lia
  obtain ⟨p,hp⟩ : ∃ p,pss[v.toNat]? = some p:=⟨_,wac hj⟩
  have hfs:=zgK (g:=x) hp;have hpl:p.length<=pss.flatten.length:=(List.sublist_flatten_of_mem (waH hp)).length_le;obtain ⟨pss',st',o',hs',hl',hne',hp',e'⟩:=zkp (g:=g) (r:=r) (b6:=b6) (m:=m) (gs:=gs) (pss:=pss.set v.toNat (p++[x])) (st:=st1) (o:=some (.val (.int x))) m0 m1 (by simpa using hl) (λq hq=>by
    rcases List.mem_or_eq_of_mem_set hq with z|z
    ·exact hne q z
    ·rw[z];simp) (by rw[hfs.length_eq];simp only[wav,wan,List.length_nil] at hb ⊢;lia) hs1
  refine ⟨pss',st',o',hs',hl',hne',?_,?_⟩
  ·refine hp'.trans ((hfs.append_right gs).trans ?_);simp
  ·rw[List.map_cons,zpp];show ((dEx (zjy 4 5 (zag zam (dRO 0 (dR (zab 3) dR0))))) [some (.own st),g,r,some (.val (.int m)),some (.own2 (pss.map lz)),some (.val (.int x)),b6]).bind _=_;have ec:=zhl (F:=zam) (fb:=zab 3) (i:=0) (Z:=[some (.own st),g,r,some (.val (.int m)),some (.own2 (pss.map lz)),some (.val (.int x)),b6]) rfl rfl e;have eB:dEx (zjy 4 5 (zag zam (dRO 0 (dR (zab 3) dR0)))) [some (.own st),g,r,some (.val (.int m)),some (.own2 (pss.map lz)),some (.val (.int x)),b6]=.ok (.nx,[some (.own st1),g,r,some (.val (.int m)),some (.own2 ((pss.set v.toNat (p++[x])).map lz)),some (.val (.int x)),b6]):=by
    refine zfi (d:=.non) ?_;have hx:(pss.map lz)[v.toNat]? = some (lz p):=by rw[List.getElem?_map,hp];rfl
    have hix:ixN (pss.map lz).length v=some v.toNat:=zkN v0 (by rw[List.length_map];lia);unfold zjy;simp only[List.getElem?_cons_succ,List.getElem?_cons_zero,ec,R.bind_ok,List.set_cons_zero,hix,hx];rw[if_pos (by unfold lz;rw[List.length_map];simp only[wan] at hb;lia)];simp only[List.set_cons_succ,List.set_cons_zero];rw[List.map_set];unfold lz;simp
   rw[eB];simp only[R.bind_ok];exact e'
theorem zva{m:Nat}{pss:List (List Int)}(hl:pss.length=m)(h2:2<=m)(hne:∀ p∈pss,p≠[]):∀ p∈pss,p.length<pss.flatten.length:=by
 intro p hp;obtain ⟨a,b,rfl⟩:=List.append_of_mem hp;have:0<a.flatten.length+b.flatten.length:=by
  cases a with
  |cons q a =>
   have:=List.length_pos_iff.mpr (hne q xws);simp only[List.flatten_cons,wav];lia
  |nil =>
   cases b with
   |cons q b =>
    have:=List.length_pos_iff.mpr (hne q xws);simp only[List.flatten_cons,wav];lia
   |nil=>simp at hl;lia
 simp only[List.flatten_append,List.flatten_cons,wav];lia
noncomputable def zwp(p:List Int)(t:Tr):Prop:=okT t=true/\(zac t).Perm p/\dep t<=p.length
theorem zjn{k:Nat}:∀{pss:List (List Int)}{ts:List Tr},Paired zwp pss ts->(∀ p∈pss,p.length<=k)->zgt ts=true/\(zaf ts).Perm pss.flatten/\zcM ts<=k/\ts.length=pss.length
 |_,_,.nil,_=>by simp[zgt,zaf,zcM]
 |p::pss,t::ts,.cons h r,hk=>by obtain ⟨a1,a2,a3,a4⟩:=zjn (k:=k) r λq hq=>hk q (wah _ hq);have:=hk p xws;obtain ⟨b1,b2,b3⟩:=h;simp only[zgt,zaf,zcM,List.flatten_cons,wan];exact ⟨by rw[b1,a1];rfl,b2.append a2,xwl,xwl⟩
theorem zgC:∀(n:Nat)(gs:List Int)(st:List Dt),gs.length<=n->n<=8->1<=gs.length->gs.length<=7->St st->∃ t st',St st'/\zwp gs t/\zaM n [.own st,.val (.lst (gs.map .int))]=.ok (toD t,[.own st',.val .non])
 |0,gs,st,h,_,h1,_,_=>by lia
 |n+1,gs,st,h,h8,h1,h7,hs=>by
  by_cases hone:gs.length=1
  ·obtain ⟨g,rfl⟩:=List.length_eq_one_iff.mp hone;refine ⟨.lf g,st,hs,⟨rfl,.refl _,by simp[dep]⟩,zan (Z':=[some (.own st),some (.val (.lst [.int g])),none,none,none,none,none]) rfl ?_ rfl⟩;rw[toD];show zbG (zaM n) [some (.own st),some (.val (.lst [.int g])),none,none,none,none,none]=_;unfold zbG;refine zeo ?_;rw[zfJ (Z1:=[some (.own st),some (.val (.lst [.int g])),none,none,none,none,none]) (zaP (za4 (d:=.int 1) (e:=.int 1) rfl rfl (by rw[zbA rfl rfl,eqI];rfl)))];rfl
  ·
   obtain ⟨st1,p,hs1,hp,e1⟩:=zmB (l:=gs.map .int) hs (by rw[List.length_map];lia) (λd hd=>by obtain ⟨i,_,rfl⟩:=List.mem_map.mp hd;rfl);obtain ⟨q,hq,rfl⟩:=zj2 hp;have hql:=hq.length_eq;obtain ⟨v,st2,e2,hs2,v0,v1⟩:=zcL (m:=(q.length:Int)-1) hs1 xwl xwl;obtain ⟨m,hm⟩ : ∃ m:Nat,(m:Int)=2+v:=⟨(2+v).toNat,xwl⟩
   have m2:2<=m:=by lia
   have mq:m<=q.length:=by lia
   have cut1:zme (q.map Dt.int) none (some (m:Int))=(q.take m).map .int:=by unfold zme;rw[HT.sIx_nat];simp only[HT.sIx_none,List.drop_zero,Nat.sub_zero,wag];rw[Nat.min_eq_left mq,List.map_take]
   have cut2:zme (q.map Dt.int) (some (m:Int)) none=(q.drop m).map .int:=by unfold zme;rw[HT.sIx_nat];simp only[HT.sIx_none,wag];rw[Nat.min_eq_left mq,List.map_drop,List.take_of_length_le xws]
   let G:Option B:=some (.val (.lst (gs.map .int)));let Rw:Option B:=some (.val (.lst (q.map .int)));let Mn:Option B:=some (.val (.int m));have x1:zbo 2 (zag zbu (dRO 0 (dR (zab 1) dR0))) [some (.own st),G,none,none,none,none,none]=.ok (.nx,[some (.own st1),G,Rw,none,none,none,none]) :=
    zbl (zhl (Z:=[some (.own st),G,none,none,none,none,none]) rfl rfl e1) xws
   have x2:zbo 3 (dOp zdz (dC (.int 2)) (zag zam (dRO 0 (dR (dOp zmF (dFn zdv (dA (zab 2) dA0)) (dC (.int 1))) dR0)))) [some (.own st1),G,Rw,none,none,none,none]=.ok (.nx,[some (.own st2),G,Rw,Mn,none,none,none]):=by
    have ea:dOp zmF (dFn zdv (dA (zab 2) dA0)) (dC (.int 1)) [some (.own st1),G,Rw,none,none,none,none]=.ok (.int ((q.length:Int)-1),[some (.own st1),G,Rw,none,none,none,none]):=by refine za4 (d:=.int (q.map Dt.int).length) rfl rfl ?_;rw[List.length_map];rfl
    refine zbl (za4 rfl (zhl (Z:=[some (.own st1),G,Rw,none,none,none,none]) rfl ea e2) (z:=.int m) ?_) xws;rw[hm];rfl
   obtain ⟨o7,c1⟩:=zh6 (Z0:=[some (.own st2),G,Rw,Mn,none,none,none]) (u:=Dt.int) (f:=λg=>[.int g]) (fe:=zdm (dA (zab 7) dA0)) (l:=q.take m) (o:=none) λg _=>rfl;have hpm:(q.take m).map (λg=>[Dt.int g])=((q.take m).map λg=>[g]).map lz:=by rw[List.map_map];rfl
   have x3:zly 4 (dIt (dFz (zne (zab 2) dO0 (dO1 (zab 3))))) (zbv 7) dTT (zdm (dA (zab 7) dA0)) 1 [some (.own st2),G,Rw,Mn,none,none,none]=.ok (.nx,[some (.own st2),G,Rw,Mn,some (.own2 (((q.take m).map λg=>[g]).map lz)),none,none]):=by
    have ei:dIt (dFz (zne (zab 2) dO0 (dO1 (zab 3)))) [some (.own st2),G,Rw,Mn,none,none,none]=.ok ((q.take m).map .int,[some (.own st2),G,Rw,Mn,none,none,none]):=by show R.ok (zme (q.map Dt.int) none (some (m:Int)),_)=_;rw[cut1]
    unfold zly;rw[ei];simp only[R.bind_ok];rw[if_pos (by unfold fits;simp only[List.length_map,List.length_take,decide_eq_true_eq];lia)];show (match zdh (zbv 7) dTT (zdm (dA (zab 7) dA0)) ((q.take m).map .int) ([some (.own st2),G,Rw,Mn,none,none,none]++[none]) with|.ok z=>if 4<7 then R.ok (Fl.nx,(z.2.take 7).set 4 (some (.own2 z.1))) else .no|_=>.no)=_;have c1':zdh (zbv 7) dTT (zdm (dA (zab 7) dA0)) ((q.take m).map .int) ([some (.own st2),G,Rw,Mn,none,none,none]++[none])=.ok ((q.take m).map (λg=>[Dt.int g]),[some (.own st2),G,Rw,Mn,none,none,none]++[o7]):=c1;rw[c1',hpm];rfl
   have hfl:((q.take m).map λg=>[g]).flatten=q.take m:=by
    induction q.take m with
    |nil=>rfl
    |cons a r ih=>simp[ih]
   obtain ⟨pss,st3,o5,hs3,hl3,hne3,hp3,e3⟩:=zkp (g:=G) (r:=Rw) (b6:=none) (m:=m) (gs:=q.drop m) (pss:=(q.take m).map λg=>[g]) (st:=st2) (o:=none) xwl xwl (by rw[List.length_map,List.length_take];lia) (λp hp=>by obtain ⟨g,_,rfl⟩:=List.mem_map.mp hp;simp) (by rw[hfl,List.length_take,List.length_drop];lia) hs2;have hflp:pss.flatten.Perm gs:=by refine hp3.trans ?_;rw[hfl,List.take_append_drop];exact hq
   have x4:zfV (dIt (dFz (zne (zab 2) (dO1 (zab 3)) dO0))) (zbv 5) (dEx (zjy 4 5 (zag zam (dRO 0 (dR (zab 3) dR0))))) [some (.own st2),G,Rw,Mn,some (.own2 (((q.take m).map λg=>[g]).map lz)),none,none]=.ok (.nx,[some (.own st3),G,Rw,Mn,some (.own2 (pss.map lz)),o5,none]):=by
    have ei:dIt (dFz (zne (zab 2) (dO1 (zab 3)) dO0)) [some (.own st2),G,Rw,Mn,some (.own2 (((q.take m).map λg=>[g]).map lz)),none,none]=.ok ((q.drop m).map .int,[some (.own st2),G,Rw,Mn,some (.own2 (((q.take m).map λg=>[g]).map lz)),none,none]):=by show R.ok (zme (q.map Dt.int) (some (m:Int)) none,_)=_;rw[cut2]
    unfold zfV;rw[ei];exact e3
   have hlt:=zva hl3 m2 hne3;have hfll:=hflp.length_eq;let Fz:Option B:=some (.val (.lst ((pss.map lz).map .lst)));obtain ⟨ts,st4,hs4,hp4,e4⟩:=zqo (Rl:=zwp) (u:=λp=>.lst (lz p)) (v:=toD) (zaX:=[G,Rw,Mn,Fz,o5,none]) (fi:=dIt (zlt 4)) (fe:=zag (zaM n) (dRO 0 (dR (zab 7) dR0))) (l:=pss) (ds:=(pss.map lz).map .lst) (j:=7) (Z:=[some (.own st3),G,Rw,Mn,some (.own2 (pss.map lz)),o5,none]) (st:=st3) rfl (by rw[List.map_map];rfl) xwl rfl
    (λp hp st' hs'=>by have:=hlt p hp;have hpos:=List.length_pos_iff.mpr (hne3 p hp);obtain ⟨t,st5,h5,h6,h7'⟩:=zgC n p st' xwl xwl xwl xwl hs';exact ⟨t,st5,h5,h6,zhl (Z:=some (.own st')::([G,Rw,Mn,Fz,o5,none]++[some (.val (.lst (lz p)))])) rfl rfl h7'⟩) hs3
   obtain ⟨k1,k2,k3,k4⟩:=zjn (k:=gs.length-1) hp4 λp hp=>by have:=hlt p hp;lia
   have x5:zbo 6 (dFn zfG (dA (dFz (zbQ (dIt (zlt 4)) (zbv 7) dTT (zag (zaM n) (dRO 0 (dR (zab 7) dR0))) 1)) dA0)) [some (.own st3),G,Rw,Mn,some (.own2 (pss.map lz)),o5,none]=.ok (.nx,[some (.own st4),G,Rw,Mn,Fz,o5,some (.val (.tup (ts.map toD)))]):=zbl (zeI (zaZ e4) rfl) xws;have pre:∀ X,zbG (zaM n) [some (.own st),G,none,none,none,none,none]=X ↔ zaG (dIf (zls (dTB (dOp gGt (zab 3) (dC (.int 2)))) (dTB (dOp (gEq false) (zag zam (dRO 0 (dR (dC (.int 2)) dR0))) (dC (.int 1))))) (zaV (zpo (dA (dC (.str (Str.ofString "row"))) (dA (zab 6) dA0)))) dNx) (zaV (zpo (dA (dC (.str (Str.ofString "any"))) (dA (zab 6) dA0)))) [some (.own st4),G,Rw,Mn,Fz,o5,some (.val (.tup (ts.map toD)))]=X:=λX=>by
    unfold zbG;have x0:dTB (dOp (gEq false) (dFn zdv (dA (zab 1) dA0)) (dC (.int 1))) [some (.own st),G,none,none,none,none,none]=.ok (false,[some (.own st),G,none,none,none,none,none]):=by
     refine zaP (za4 (d:=.int (gs.map Dt.int).length) rfl rfl ?_);rw[zbA rfl rfl,eqI,List.length_map];have:((gs.length:Int) == 1)=false:=by simp;lia
     rw[this];rfl
    rw[zaj (Z1:=[some (.own st),G,none,none,none,none,none]) (by rw[zc3 x0];rfl),zaj x1,zaj x2,zaj x3,zaj x4,zaj x5]
   have fin:∀(r:Bool)(st5:List Dt),(r=true->3<=m)->St st5->zbG (zaM n) [some (.own st),G,none,none,none,none,none]=.ok (.rt (toD (.nd r ts)),[some (.own st5),G,Rw,Mn,Fz,o5,some (.val (.tup (ts.map toD)))])->∃ t st',St st'/\zwp gs t/\zaM (n+1) [.own st,.val (.lst (gs.map .int))]=.ok (toD t,[.own st',.val .non]):=λr st5 hr hs5 hd=>by
    refine ⟨.nd r ts,st5,hs5,⟨?_,k2.trans hflp,?_⟩,zan (Z':=[some (.own st5),G,Rw,Mn,Fz,o5,some (.val (.tup (ts.map toD)))]) rfl hd rfl⟩
    ·simp only[okT,k1,Bool.and_true,war,k4,hl3];cases r with
     |false=>simpa using m2
     |true=>simpa using hr rfl
    ·simp only[dep];lia
   have hD:∀ r,toD (.nd r ts)=.tup [.str (wd r),.tup (ts.map toD)]:=λr=>by rw[toD,zce]
   by_cases h3:2<m
   ·have y1:dTB (dOp gGt (zab 3) (dC (.int 2))) [some (.own st4),G,Rw,Mn,Fz,o5,some (.val (.tup (ts.map toD)))]=.ok (true,[some (.own st4),G,Rw,Mn,Fz,o5,some (.val (.tup (ts.map toD)))]):=by refine zaP (za4 (d:=.int m) rfl rfl ?_);simp only[zmE];rw[decide_eq_true (by lia:(2:Int)<m)]
    obtain ⟨u,st5,e5,hs5,u0,u1⟩:=zcL (m:=2) hs4 xwd xwd;have ec:=zhl (F:=zam) (fb:=dC (.int 2)) (i:=0) (Z:=[some (.own st4),G,Rw,Mn,Fz,o5,some (.val (.tup (ts.map toD)))]) rfl rfl e5;have y2:dTB (dOp (gEq false) (zag zam (dRO 0 (dR (dC (.int 2)) dR0))) (dC (.int 1))) [some (.own st4),G,Rw,Mn,Fz,o5,some (.val (.tup (ts.map toD)))]=.ok (u == 1,[some (.own st5),G,Rw,Mn,Fz,o5,some (.val (.tup (ts.map toD)))]):=zaP (za4 ec rfl (by rw[zbA rfl rfl,eqI];rfl));by_cases hu:u=1
    ·refine fin true st5 (λ_=>by lia) hs5 ((pre _).mpr (zeo ?_));rw[zfJ (by rw[zpi y1,y2,hu];rfl),hD];rfl
    ·have hu':(u == 1)=false:=by simpa using hu
     refine fin false st5 (λz=>by cases z) hs5 ((pre _).mpr ?_);rw[zaj (Z1:=[some (.own st5),G,Rw,Mn,Fz,o5,some (.val (.tup (ts.map toD)))]) (by rw[zc3 (by rw[zpi y1,y2,hu'])];rfl),hD];rfl
   ·have y1:dTB (dOp gGt (zab 3) (dC (.int 2))) [some (.own st4),G,Rw,Mn,Fz,o5,some (.val (.tup (ts.map toD)))]=.ok (false,[some (.own st4),G,Rw,Mn,Fz,o5,some (.val (.tup (ts.map toD)))]):=by refine zaP (za4 (d:=.int m) rfl rfl ?_);simp only[zmE];rw[decide_eq_false (by lia:¬ (2:Int)<m)]
    refine fin false st4 (λz=>by cases z) hs4 ((pre _).mpr ?_);rw[zaj (Z1:=[some (.own st4),G,Rw,Mn,Fz,o5,some (.val (.tup (ts.map toD)))]) (by rw[zc3 (by rw[ztV y1])];rfl),hD];rfl
noncomputable def tz(p:List Int):Dt:=.tup (p.map .int)
noncomputable def lp(ps:List (List Int)):List Dt:=ps.map tz
theorem zeT(r:Bool):PySem.PyData.strOk (wd r)=true:=by cases r <;> decide +kernel
theorem zor:∀(n:Nat)(t:Tr),dep t<=n->okN (2 * n) (toD t)=true
 |n,.lf i,_=>by simp[toD,okN]
 |0,.nd r l,h=>by simp[dep] at h
 |n+1,.nd r l,h=>by
  simp only[dep] at h;have e:2 * (n+1)=(2 * n+1)+1:=by lia
  rw[e,toD];have h2:okN (2 * n+1) (.tup (zkv l))=true:=by simp only[okN,zce,List.all_eq_true,List.mem_map];rintro d ⟨t,ht,rfl⟩;exact zor n t (zaW.mp (by lia:zcM l<=n) t ht)
  have h1:okN (2 * n+1) (.str (wd r))=true:=by rw[okN];exact zeT r
  rw[okN];simp only[List.all_cons,List.all_nil,h1,h2,Bool.and_self]
theorem ok60{t:Tr}(h:dep t<=9):okN 59 (toD t)=true:=zr8 (zor 9 t h) xwd
noncomputable def zwT:Tr->Bool
 |.lf _=>true
 |.nd _ _=>false
theorem zfh(t:Tr):zaI [.val (toD t)]=.ok (.bl (zwT t),[.val .non]):=by
 cases t with
 |lf i=>rw[toD];rfl
 |nd r l=>rw[toD];rfl
theorem zcW:∀{l:List Tr}{t:Tr},t∈l->(zac t).length<=(zaf l).length
 |[],_,h=>by cases h
 |u::l,t,h=>by
  simp only[zaf,wav];rcases wap.mp h with rfl|h
  ·lia
  ·have:=zcW h;lia
theorem eqS{x y:Str}:eqD (.str x) (.str y)=(x == y):=by rw[eqD]
theorem zrX(r:Bool):(wd r == Str.ofString "any") = !r:=by cases r <;> decide +kernel
theorem zr4(r:Bool):(wd r == Str.ofString "row")=r:=by cases r <;> decide +kernel
theorem zkj:PySem.PyData.strOk (Str.ofString "any")=true:=by decide +kernel
theorem zjc:PySem.PyData.strOk (Str.ofString "row")=true:=by decide +kernel
theorem zlR{α:Type}(f:α->Bool):∀ l:List α,zeO (l.map λd=>.bl (f d))=some (l.map f)
 |[]=>rfl
 |a::r=>by rw[List.map_cons,zeO,zlR f r];rfl
theorem zse{α:Type}(f:α->Bool)(l:List α):zmw [.lst (l.map λd=>.bl (f d))]=.ok (.bl (l.all f)):=by unfold zmw;simp only[zlR];rw[List.all_map];rfl
theorem zgV{n:Nat}:∀(l:List Tr),zcM l<=n->zgt l=true->l.length<=(zaf l).length
 |[],_,_=>by simp
 |t::q,hd,ho=>by simp only[zcM] at hd;simp only[zgt,wae] at ho;have h1:=List.length_pos_iff.mpr (zb6 n t xwl ho.1);have h2:=zgV (n:=n) q xwl ho.2;simp only[zaf,wav,wan];lia
theorem eqB{a b:Bool}:eqD (.bl a) (.bl b)=(a == b):=by rw[eqD]
noncomputable def zeG{α:Type}:Nat->List α->List (List α)
 |0,_=>[[]]
 |n+1,l=>(List.range l.length).flatMap λk=>match l[k]? with
  |some a=>(zeG n (l.eraseIdx k)).map (a::·)
  |none=>[]
theorem zl1{α:Type}{l:List α}{n k:Nat}(h:l.length=n+1)(hk:k<l.length):(l.eraseIdx k).length=n:=by rw[List.length_eraseIdx,if_pos hk,h];rfl
theorem zsk{α β:Type}(f:α->β):∀(l:List α)(k:Nat),(l.map f).eraseIdx k=(l.eraseIdx k).map f
 |[],_=>rfl
 |a::l,0=>rfl
 |a::l,k+1=>by simp[zsk f l k]
theorem zc2{α:Type}:∀(n:Nat)(l p:List α),l.length=n->(p∈zeG n l ↔ p.Perm l)
 |0,l,p,h=>by have:l=[]:=List.length_eq_zero_iff.mp h;subst this;simp[zeG]
 |n+1,l,p,h=>by
  rw[zeG,List.mem_flatMap];constructor
  ·rintro ⟨k,hk,hp⟩;have hk':=List.mem_range.mp hk;rw[List.getElem?_eq_getElem hk'] at hp;obtain ⟨r,hr,rfl⟩:=List.mem_map.mp hp;have:=(zc2 n _ r (zl1 h hk')).mp hr;exact (this.cons _).trans (zdT (wac hk'))
  ·intro hp;cases p with
   |nil=>have:=hp.length_eq;simp at this;lia
   |cons a r =>
    obtain ⟨k,hk,e⟩:=List.mem_iff_getElem.mp (hp.mem_iff.mp wau);have e':l[k]? = some a:=by rw[List.getElem?_eq_getElem hk,e]
    refine ⟨k,List.mem_range.mpr hk,?_⟩;rw[e'];refine List.mem_map.mpr ⟨r,(zc2 n _ r (zl1 h hk)).mpr ?_,rfl⟩;exact List.Perm.cons_inv (hp.trans (zdT e').symm)
theorem zku{α:Type}:∀(n:Nat)(l:List α),l.length=n->l.Nodup->(zeG n l).Nodup
 |0,l,_,_=>by simp[zeG]
 |n+1,l,h,hn=>by
  rw[zeG];refine List.pairwise_flatMap.mpr ⟨λk hk=>?_,?_⟩
  ·have hk':=List.mem_range.mp hk;rw[List.getElem?_eq_getElem hk'];refine List.pairwise_map.mpr ((zku n (l.eraseIdx k) (zl1 h hk') (hn.sublist (List.eraseIdx_sublist _ _))).imp λ{a b} hab e=>hab (List.cons.inj e).2)
  ·refine List.pairwise_iff_getElem.mpr λi j hi hj hij x hx y hy e=>?_;rw[List.length_range] at hi hj;rw[List.getElem_range,List.getElem?_eq_getElem hi] at hx;rw[List.getElem_range,List.getElem?_eq_getElem hj] at hy;obtain ⟨r,_,rfl⟩:=List.mem_map.mp hx;obtain ⟨r',_,rfl⟩:=List.mem_map.mp hy;exact List.pairwise_iff_getElem.mp hn i j hi hj hij (List.cons.inj e).1
theorem zkB{α β:Type}(f:α->β):∀(n:Nat)(l:List α),zeG n (l.map f)=(zeG n l).map (List.map f)
 |0,l=>rfl
 |n+1,l=>by
  rw[zeG,zeG,List.length_map,List.map_flatMap];congr 1;funext k;rw[List.getElem?_map];cases l[k]? with
  |none=>rfl
  |some a =>
   show List.map (f a::·) (zeG n ((l.map f).eraseIdx k))=_;rw[zsk,zkB f n,List.map_map,List.map_map];rfl
noncomputable def fac:Nat->Nat
 |0=>1
 |n+1=>(n+1) * fac n
theorem zd2{α:Type}{f:α->Nat}{c:Nat}:∀{l:List α},(∀ a∈l,f a=c)->(l.map f).sum=l.length * c
 |[],_=>by simp
 |a::l,h=>by rw[List.map_cons,List.sum_cons,zd2 (λb hb=>h b (List.mem_cons_of_mem _ hb)),h a List.mem_cons_self,List.length_cons,Nat.succ_mul,Nat.add_comm]
theorem zft{α:Type}:∀(n:Nat)(l:List α),l.length=n->(zeG n l).length=fac n
 |0,l,_=>rfl
 |n+1,l,h=>by
  rw[zeG,List.length_flatMap,zd2 (c:=fac n) λk hk=>?_,List.length_range,h]
  ·rfl
  ·have hk':=List.mem_range.mp hk;rw[List.getElem?_eq_getElem hk'];show (List.map _ (zeG n _)).length=_;rw[List.length_map];exact zft n _ (zl1 h hk')
noncomputable def zbT:List (List (List Int))->List (List Int)
 |[]=>[[]]
 |c::cs=>c.flatMap λx=>(zbT cs).map (x++·)
theorem zit:∀{cs:List (List (List Int))}{r:List Int},r∈zbT cs ↔ ∃ ys,Paired (λy c=>y∈c) ys cs/\ys.flatten=r
 |[],r=>by
  simp only[zbT,List.mem_singleton];constructor
  ·rintro rfl;exact ⟨[],.nil,rfl⟩
  ·rintro ⟨ys,h,rfl⟩;cases h;rfl
 |c::cs,r=>by
  simp only[zbT,List.mem_flatMap,List.mem_map];constructor
  ·rintro ⟨x,hx,s,hs,rfl⟩;obtain ⟨ys,h1,rfl⟩:=zit.mp hs;exact ⟨x::ys,.cons hx h1,rfl⟩
  ·rintro ⟨ys,h,rfl⟩;cases h with
   |cons h t=>exact ⟨_,h,_,zit.mpr ⟨_,t,rfl⟩,rfl⟩
noncomputable def zbn:List Nat->Nat
 |[]=>1
 |n::l=>n * zbn l
theorem zfY:∀ cs:List (List (List Int)),(zbT cs).length=zbn (cs.map List.length)
 |[]=>rfl
 |c::cs=>by
  rw[zbT,List.length_flatMap,zd2 (c:=zbn (cs.map List.length)) λx hx=>?_]
  ·rfl
  ·rw[List.length_map,zfY cs]
theorem zfn{a b:List Nat}(h:a.Perm b):zbn a=zbn b:=by
 induction h with
 |nil=>rfl
 |cons x h ih=>simp[zbn,ih]
 |swap x y l=>simp only[zbn];rw[<- Nat.mul_assoc,<- Nat.mul_assoc,Nat.mul_comm x y]
 |trans h1 h2 i1 i2=>exact i1.trans i2
noncomputable def zik(rows:List (List Int))(cs:List (List (List Int))):List (List Int):=cs.foldl (λrows c=>rows.flatMap λrow=>c.map (row++·)) rows
theorem zl6:∀(cs:List (List (List Int)))(rows:List (List Int)),zik rows cs=rows.flatMap λa=>(zbT cs).map (a++·)
 |[],rows=>by
  unfold zik;simp only[List.foldl_nil,zbT,List.map_cons,List.map_nil,List.append_nil]
  induction rows with
  |nil=>rfl
  |cons a r ih=>rw[List.flatMap_cons,<- ih];rfl
 |c::cs,rows=>by
  have:zik rows (c::cs)=zik (rows.flatMap λrow=>c.map (row++·)) cs:=rfl;rw[this,zl6 cs,List.flatMap_assoc];congr 1;funext a;rw[zbT,List.flatMap_map,List.map_flatMap];congr 1;funext x;rw[List.map_map];congr 1;funext y;show (a++x)++y=a++(x++y)
  rw[List.append_assoc]
theorem zkA(cs:List (List (List Int))):zik [[]] cs=zbT cs:=by rw[zl6];simp
mutual
noncomputable def zap:Tr->List (List Int)
 |.lf g=>[[g]]
 |.nd r bs=>(if r=true then [zgZ bs,(zgZ bs).reverse] else zeG bs.length (zgZ bs)).flatMap zbT
noncomputable def zgZ:List Tr->List (List (List Int))
 |[]=>[]
 |t::l=>zap t::zgZ l
end
theorem zh3:∀ l:List Tr,zgZ l=l.map zap
 |[]=>by simp[zgZ]
 |t::l=>by simp[zgZ,zh3 l]
noncomputable def arr(r:Bool)(bs:List Tr):List (List Tr):=if r=true then [bs,bs.reverse] else zeG bs.length bs
theorem zau{r:Bool}{bs p:List Tr}(h:p∈arr r bs):p.Perm bs:=by
 unfold arr at h;split at h
 ·simp only[wap,wak,or_false] at h;rcases h with rfl|rfl
  ·exact .refl _
  ·exact List.reverse_perm _
 ·exact (zc2 _ _ _ rfl).mp h
theorem zfm(r:Bool)(bs:List Tr):zap (.nd r bs)=(arr r bs).flatMap λp=>zbT (p.map zap):=by
 rw[zap,zh3];unfold arr;cases r with
 |true=>simp
 |false =>
  simp only[Bool.false_eq_true,if_false];rw[zkB,List.flatMap_map]
theorem zbx{α β γ:Type}{F:α->γ->Prop}{f:β->γ}:∀{l:List α}{r:List β},Paired F l (r.map f) ↔ Paired (λa b=>F a (f b)) l r
 |l,[]=>⟨λh=>by cases h;exact .nil,λh=>by cases h;exact .nil⟩
 |l,b::r=>⟨λh=>by
   rw[List.map_cons] at h;cases h with
   |cons h t=>exact .cons h (zbx.mp t),λh=>by
   rw[List.map_cons];cases h with
   |cons h t=>exact .cons h (zbx.mpr t)⟩
noncomputable def zut(r:List Int)(p:List Tr):Prop:=∃ ys,Paired (λy t=>y∈zap t) ys p/\ys.flatten=r
theorem zgf{r:List Int}{p:List Tr}:r∈zbT (p.map zap) ↔ zut r p:=by rw[zit];unfold zut;exact ⟨λ⟨ys,h,e⟩=>⟨ys,zbx.mp h,e⟩,λ⟨ys,h,e⟩=>⟨ys,zbx.mpr h,e⟩⟩
theorem zaQ{b:Bool}{bs:List Tr}{r:List Int}:r∈zap (.nd b bs) ↔ ∃ p∈arr b bs,zut r p:=by rw[zfm,List.mem_flatMap];exact ⟨λ⟨p,h,e⟩=>⟨p,h,zgf.mp e⟩,λ⟨p,h,e⟩=>⟨p,h,zgf.mpr e⟩⟩
theorem zd0{p q:List Tr}(h:p.Perm q):(zaf p).Perm (zaf q):=by rw[zaL,zaL];exact h.flatMap_right _
theorem zh8{P:Tr->Prop}(H:∀ t,P t->∀ r∈zap t,r.Perm (zac t)):∀{p:List Tr}{ys:List (List Int)},(∀ t∈p,P t)->Paired (λy t=>y∈zap t) ys p->ys.flatten.Perm (zaf p)
 |[],_,_,.nil=>by simp[zaf]
 |t::p,_,hP,.cons h r=>by rw[List.flatten_cons,zaf];exact (H t (hP t wau) _ h).append (zh8 H (λu hu=>hP u (wah _ hu)) r)
theorem zgc:∀(n:Nat)(t:Tr),dep t<=n->∀ r∈zap t,r.Perm (zac t)
 |0,t,h,r,_=>by cases t <;> simp[dep] at h
 |n+1,.lf g,h,r,hr=>by rw[zap,List.mem_singleton] at hr;subst hr;rw[zac]
 |n+1,.nd b bs,h,r,hr=>by obtain ⟨p,hp,ys,h1,rfl⟩:=zaQ.mp hr;simp only[dep] at h;have hd:=zaW.mp (by lia:zcM bs<=n);rw[zac];exact (zh8 (P:=λt=>dep t<=n) (λt ht=>zgc n t ht) (λt ht=>hd t ((zau hp).mem_iff.mp ht)) h1).trans (zd0 (zau hp))
theorem zal{t:Tr}{r:List Int}(h:r∈zap t):r.Perm (zac t):=zgc _ t (wal _) r h
structure zfx(bs:List Tr):Prop where
 nd:(zaf bs).Nodup
 ne:∀ t∈bs,zac t≠[]
theorem zbe{g:Int}{bs:List Tr}:g∈zaf bs ↔ ∃ t∈bs,g∈zac t:=by rw[zaL,List.mem_flatMap]
theorem zfq:∀{bs:List Tr},(zaf bs).Nodup->∀{t u:Tr}{g:Int},t∈bs->u∈bs->g∈zac t->g∈zac u->t=u
 |[],_,_,_,_,h,_,_,_=>by cases h
 |b::bs,hn,t,u,g,ht,hu,gt,gu=>by
  rw[zaf,List.nodup_append] at hn;obtain ⟨h1,h2,h3⟩:=hn;rcases wap.mp ht with e|ht' <;> rcases wap.mp hu with e'|hu'
  ·rw[e,e']
  ·subst e;exact absurd rfl (h3 g gt g (zbe.mpr ⟨u,hu',gu⟩))
  ·subst e';exact absurd rfl (h3 g gu g (zbe.mpr ⟨t,ht',gt⟩))
  ·exact zfq h2 ht' hu' gt gu
theorem zjr{bs:List Tr}(A:zfx bs):∀{p q:List Tr}{ys zs:List (List Int)},(∀ t∈p,t∈bs)->(∀ t∈q,t∈bs)->Paired (λy t=>y∈zap t) ys p->Paired (λy t=>y∈zap t) zs q->ys.flatten=zs.flatten->p=q/\ys=zs
 |[],q,_,zs,_,hq,.nil,h2,e=>by
  cases h2 with
  |nil=>exact ⟨rfl,rfl⟩
  |@cons z t zs q h r =>
   exfalso;have:=zal h;rw[List.flatten_nil,List.flatten_cons] at e;have hz:z=[]:=(List.append_eq_nil_iff.mp e.symm).1;subst hz;exact A.ne t (hq t wau) (this.symm.eq_nil)
 |t::p,q,_,zs,hp,hq,.cons (a:=y) (l₁:=ys) h r,h2,e=>by
  have hy:=zal h;have hyn:y≠[]:=λz=>A.ne t (hp t wau) (by subst z;exact hy.symm.eq_nil);cases h2 with
  |nil =>
   exfalso;rw[List.flatten_nil,List.flatten_cons] at e;exact hyn (List.append_eq_nil_iff.mp e).1
  |@cons z u zs q h' r' =>
   have hz:=zal h';have hzn:z≠[]:=λw=>A.ne u (hq u wau) (by subst w;exact hz.symm.eq_nil);rw[List.flatten_cons,List.flatten_cons] at e;obtain ⟨g,y',rfl⟩:=waI hyn;obtain ⟨g',z',rfl⟩:=waI hzn;have eg:g=g':=by simp only[List.cons_append] at e;exact (List.cons.inj e).1
   subst eg;have tu:t=u:=zfq A.nd (hp t wau) (hq u wau) (hy.mem_iff.mp wau) (hz.mem_iff.mp wau);subst tu;have el:(g::y').length=(g::z').length:=hy.length_eq.trans hz.length_eq.symm;obtain ⟨e1,e2⟩:=List.append_inj e el;obtain ⟨e3,e4⟩:=zjr A (λu hu=>hp u (wah _ hu)) (λu hu=>hq u (wah _ hu)) r r' e2;exact ⟨by rw[e3],by rw[e1,e4]⟩
theorem zpF{bs:List Tr}(A:zfx bs){p q:List Tr}{r:List Int}(hp:∀ t∈p,t∈bs)(hq:∀ t∈q,t∈bs)(h1:zut r p)(h2:zut r q):p=q:=by obtain ⟨ys,a1,rfl⟩:=h1;obtain ⟨zs,b1,e⟩:=h2;exact (zjr A hp hq a1 b1 e.symm).1
theorem zdb:∀{bs:List Tr},zfx bs->bs.Nodup
 |[],_=>.nil
 |b::bs,A=>by
  have hn:=A.nd;rw[zaf,List.nodup_append] at hn;refine List.nodup_cons.mpr ⟨λhb=>?_,zdb ⟨hn.2.1,λt ht=>A.ne t (wah _ ht)⟩⟩;obtain ⟨g,y,e⟩:=waI (A.ne b wau);have hg:g∈zac b:=by rw[e];exact wau
  exact absurd rfl (hn.2.2 g hg g (zbe.mpr ⟨b,hb,hg⟩))
theorem zhH{bs:List Tr}(A:zfx bs):∀{p:List Tr},(∀ t∈p,t∈bs)->(∀ t∈p,(zap t).Nodup)->(zbT (p.map zap)).Nodup
 |[],_,_=>by simp[zbT]
 |t::p,hp,hn=>by
  rw[List.map_cons,zbT];refine List.pairwise_flatMap.mpr ⟨λx hx=>?_,?_⟩
  ·exact List.pairwise_map.mpr ((zhH A (λu hu=>hp u (wah _ hu)) λu hu=>hn u (wah _ hu)).imp λ{a b} hab e=>hab (List.append_cancel_left e))
  ·refine (List.Pairwise.imp_of_mem ?_ (hn t wau));intro x y hx hy hxy u hu v hv e;obtain ⟨a,_,rfl⟩:=List.mem_map.mp hu;obtain ⟨b,_,rfl⟩:=List.mem_map.mp hv;exact hxy (List.append_inj e ((zal hx).length_eq.trans (zal hy).length_eq.symm)).1
theorem zcV{n:Nat}{b:Bool}{bs:List Tr}(hd:dep (.nd b bs)<=n+1)(ho:okT (.nd b bs)=true)(hn:(zac (.nd b bs)).Nodup):zfx bs/\∀ t∈bs,dep t<=n/\okT t=true/\(zac t).Nodup:=by simp only[dep] at hd;rw[zac] at hn;rw[okT,Bool.and_eq_true,zcY,List.all_eq_true] at ho;have h:=zaW.mp (by lia:zcM bs<=n);refine ⟨⟨hn,λt ht=>zb6 n t (h t ht) (ho.2 t ht)⟩,λt ht=>⟨h t ht,ho.2 t ht,?_⟩⟩;rw[zaL] at hn;exact (List.pairwise_flatMap.mp hn).1 t ht
theorem znn{b:Bool}{bs:List Tr}(h:(if b then 3 else 2)<=bs.length)(hn:bs.Nodup):(arr b bs).Nodup:=by
 unfold arr;split
 ·rename_i hb;subst hb;simp only[if_true] at h;simp only[List.nodup_cons,List.mem_singleton,wak,not_false_iff,List.nodup_nil,and_true];intro e
  match bs,h,hn,e with
  |a::b::r,h,hn,e =>
   have h1:(a::b::r)[0]? = (a::b::r).reverse[0]? := by rw[<- e]
   rw[List.getElem?_reverse xws] at h1;simp only[List.getElem?_cons_zero,wan] at h1;have h2:=List.mem_iff_getElem?.mpr ⟨r.length,by
    have:(a::b::r)[r.length+1+1-1-0]? = (b::r)[r.length]? := by show (a::b::r)[r.length+1]? = _;rw[List.getElem?_cons_succ]
    rw[<- this,<- h1]⟩
   exact (List.nodup_cons.mp hn).1 h2
 ·exact zku _ _ rfl hn
theorem zbF:∀(n:Nat)(t:Tr),dep t<=n->okT t=true->(zac t).Nodup->(zap t).Nodup
 |0,t,h,_,_=>by cases t <;> simp[dep] at h
 |n+1,.lf g,_,_,_=>by rw[zap];simp
 |n+1,.nd b bs,hd,ho,hn=>by
  obtain ⟨A,H⟩:=zcV hd ho hn;rw[okT,Bool.and_eq_true,decide_eq_true_eq] at ho;rw[zfm];refine List.pairwise_flatMap.mpr ⟨λp hp=>?_,?_⟩
  ·exact zhH A (λt ht=>(zau hp).mem_iff.mp ht) λt ht=>by obtain ⟨h1,h2,h3⟩:=H t ((zau hp).mem_iff.mp ht);exact zbF n t h1 h2 h3
  ·refine List.Pairwise.imp_of_mem ?_ (znn ho.1 (zdb A));intro p q hp hq hpq x hx y hy e;subst e;exact hpq (zpF A (λt ht=>(zau hp).mem_iff.mp ht) (λt ht=>(zau hq).mem_iff.mp ht) (zgf.mp hx) (zgf.mp hy))
theorem zjS{α:Type} [BEq α] [LawfulBEq α]:∀{a b:List α},a.Nodup->(∀ x∈a,x∈b)->a.length<=b.length
 |[],_,_,_=>Nat.zero_le _
 |x::a,b,hn,h=>by
  have hx:=h x wau;have:=zjS (a:=a) (b:=b.erase x) (List.nodup_cons.mp hn).2 λy hy=>by have hne:y≠x:=λe=>(List.nodup_cons.mp hn).1 (by rw[<- e];exact hy);exact (List.mem_erase_of_ne hne).mpr (h y (wah _ hy))
  have e:=List.length_erase_of_mem hx;have:0<b.length:=List.length_pos_of_mem hx;rw[List.length_cons];lia
theorem ziC{t:Tr}(ho:okT t=true)(hn:(zac t).Nodup):(zap t).length<=fac (zac t).length:=by rw[<- zft _ (zac t) rfl];exact zjS (zbF _ t (wal _) ho hn) λr hr=>(zc2 _ _ _ rfl).mpr (zal hr)
theorem zkz:∀ n,1<=fac n
 |0=>wal _
 |n+1=>by have:=zkz n;rw[fac];exact waN this (Nat.le_mul_of_pos_left _ (Nat.succ_pos n))
theorem zkP(b:Nat):∀ a,fac a * fac b<=fac (a+b)
 |0=>by simp[fac]
 |a+1=>by rw[show a+1+b=(a+b)+1 by lia,fac,fac,Nat.mul_assoc];exact waN (Nat.mul_le_mul_left _ (zkP b a)) (Nat.mul_le_mul_right _ xwl)
theorem zpC{a b:Nat}(h:a<=b):fac a<=fac b:=by obtain ⟨c,rfl⟩:=Nat.le.dest h;exact waN (Nat.le_mul_of_pos_right _ (zkz c)) (zkP c a)
theorem zup{m:Nat}(h:m<=6):fac m<=720:=zpC (b:=6) h
theorem zlS:∀{p:List Tr},(∀ t∈p,(zap t).length<=fac (zac t).length)->zbn (p.map λt=>(zap t).length)<=fac (zaf p).length
 |[],_=>by simp[zbn,zaf,fac]
 |t::p,h=>by rw[List.map_cons,zbn,zaf,List.length_append];exact waN (Nat.mul_le_mul (h t wau) (zlS λu hu=>h u (wah _ hu))) (zkP _ _)
mutual
noncomputable def zhj:Tr->Nat
 |.lf _=>1
 |.nd r bs=>zfL r bs 1 (if r=true then 2 else 1)
noncomputable def zfL(r:Bool):List Tr->Nat->Nat->Nat
 |[],_,acc=>acc
 |t::l,i,acc=>zfL r l (i+1) (acc * zhj t * (if r=true then 1 else i))
end
theorem zl4:∀(l:List Tr)(i acc:Nat),zfL true l i acc=acc * zbn (l.map zhj)
 |[],_,acc=>by simp[zfL,zbn]
 |t::l,i,acc=>by rw[zfL,zl4 l];simp[zbn,Nat.mul_assoc]
theorem zlK:∀(l:List Tr)(i acc:Nat),fac i * zfL false l (i+1) acc=acc * zbn (l.map zhj) * fac (i+l.length)
 |[],i,acc=>by simp[zfL,zbn,Nat.mul_comm]
 |t::l,i,acc=>by have ih:=zlK l (i+1) (acc * zhj t * (i+1));rw[zfL];simp only[Bool.false_eq_true,if_false,List.map_cons,zbn,wan];rw[fac,Nat.mul_assoc,show i+1+l.length=i+(l.length+1) by lia] at ih;refine Nat.eq_of_mul_eq_mul_left (Nat.succ_pos i) (ih.trans ?_);simp only[Nat.mul_assoc,Nat.mul_left_comm,Nat.mul_comm]
theorem zkT:∀(n:Nat)(t:Tr),dep t<=n->zhj t=(zap t).length
 |0,t,h=>by cases t <;> simp[dep] at h
 |n+1,.lf g,_=>by rw[zhj,zap];rfl
 |n+1,.nd r bs,h=>by
  simp only[dep] at h;have hd:=zaW.mp (by lia:zcM bs<=n);have e:bs.map zhj=bs.map λt=>(zap t).length:=List.map_congr_left λt ht=>zkT n t (hd t ht);rw[zfm,List.length_flatMap,zd2 (c:=zbn (bs.map zhj)) λp hp=>?_,zhj]
  ·cases r with
   |true =>
    rw[zl4];rfl
   |false =>
    have:=zlK bs 0 1;simp only[fac,Nat.one_mul,Nat.zero_add] at this;show zfL false bs 1 1=_;rw[this];show _=(zeG bs.length bs).length * _;rw[zft _ _ rfl,Nat.mul_comm]
  ·rw[zfY,List.map_map,e];exact zfn ((zau hp).map _)
theorem zjD{α:Type}{g:DG}{body:DS}{u:α->Dt}{l:List α}{I:List α->Ev->Prop}(H:∀ dn a zaX,l=dn++a::zaX->∀ Z,I dn Z->∃ Z1 Z2,g (u a) Z=.ok Z1/\body Z1=.ok (.nx,Z2)/\I (dn++[a]) Z2) :
  ∀(todo dn:List α)(Z:Ev),l=dn++todo->I dn Z->∃ Z',I l Z'/\zpp g body (todo.map u) Z=.ok (.nx,Z')
 |[],dn,Z,e,h=>by rw[List.append_nil] at e;subst e;exact ⟨Z,h,rfl⟩
 |a::todo,dn,Z,e,h=>by obtain ⟨Z1,Z2,h1,h2,h3⟩:=H dn a todo e Z h;obtain ⟨Z',h4,h5⟩:=zjD H todo (dn++[a]) Z2 (by rw[e];simp) h3;refine ⟨Z',h4,?_⟩;rw[List.map_cons,zpp,h1];simp only[R.bind_ok,h2];exact h5
theorem zbh{α:Type}{fi:DA}{g:DG}{body:DS}{u:α->Dt}{l:List α}{ds:List Dt}{I:List α->Ev->Prop}{Z Z0:Ev}(hi:fi Z=.ok (ds,Z0))(hd:ds=l.map u)(h0:I [] Z0)(H:∀ dn a zaX,l=dn++a::zaX->∀ Z,I dn Z->∃ Z1 Z2,g (u a) Z=.ok Z1/\body Z1=.ok (.nx,Z2)/\I (dn++[a]) Z2) :
  ∃ Z',I l Z'/\zfV fi g body Z=.ok (.nx,Z'):=by
 subst hd;obtain ⟨Z',h1,h2⟩:=zjD H l [] Z0 rfl h0;refine ⟨Z',h1,?_⟩;unfold zfV;rw[hi];exact h2
theorem zmo{i:Nat}{fa:De}{Z Z1:Ev}{l0 ds l:List Dt}{d:Dt}(h0:Z[i]? = some (some (.own l0)))(h:fa Z=.ok (d,Z1))(h1:Z1[i]? = some (some (.own ds)))(hd:zsj d=some l)(hl:ds.length+l.length<=16777216):zfO i fa Z=.ok (.non,Z1.set i (some (.own (ds++l)))):=by unfold zfO;simp only[h0,h,R.bind_ok,h1,hd,hl,if_true]
theorem zvL{i:Nat}{fa:De}{Z Z1:Ev}{l0 ds:List Dt}{d:Dt}(h0:Z[i]? = some (some (.own l0)))(h:fa Z=.ok (d,Z1))(h1:Z1[i]? = some (some (.own ds)))(hl:ds.length<16777216):zho i fa Z=.ok (.non,Z1.set i (some (.own (ds++[d])))):=by unfold zho;simp only[h0,h,R.bind_ok,h1,hl,if_true]
theorem zr5{fa fb:De}{Z Z1 Z2:Ev}{x y:List Dt}(h:fa Z=.ok (.lst x,Z1))(h2:fb Z1=.ok (.lst y,Z2))(hl:x.length+y.length<=16777216):zs9 fa fb Z=.ok (x++y,Z2):=by unfold zs9;simp only[h,h2,R.bind_ok,hl,if_true]
theorem ztI{x y:List Dt}(hl:x.length+y.length<=16777216):zgo (.tup x) (.tup y)=.ok (.tup (x++y)):=by unfold zgo;simp only[hl,if_true]
theorem zoH{fa:De}{fl fh:DO}{Z Z1 Z2 Z3:Ev}{x:List Dt}{lo hi:Option Int}(h:fa Z=.ok (.lst x,Z1))(h1:fl Z1=.ok (lo,Z2))(h2:fh Z2=.ok (hi,Z3)):zne fa fl fh Z=.ok (zme x lo hi,Z3):=by unfold zne;simp only[h,h1,h2,R.bind_ok]
noncomputable abbrev ztn(F:FD):De:=zag F (dR (dFz (zs9 (dFz (zne (zab 0) dO0 (dO1 (zab 2)))) (dFz (zne (zab 0) (dO1 (dOp zdz (zab 2) (dC (.int 1)))) dO0)))) dR0)
noncomputable abbrev oApp:DS:=dEx (zho 1 (dFz (zs9 (dFz (zdm (dA (dOp gIx (zab 0) (zab 2)) dA0))) (zab 3))))
noncomputable abbrev oIn(F:FD):DS:=zfV (dIt (ztn F)) (zbv 3) oApp
theorem zo7(F:FD):zcl F=zaG (dIf (dTB (dOp (gEq false) (dFn zdv (dA (zab 0) dA0)) (dC (.int 0)))) (zaV (dC (.lst [(.lst [])]))) dNx) (zaG (zcN 1 (zdm dA0)) (zaG (zfV (zfu (dFn zdv (dA (zab 0) dA0))) (zbv 2) (oIn F)) (zaV (zlt 1)))):=rfl
noncomputable def zn4(l:List Dt)(k:Nat):List Dt:=match l[k]? with
 |some a=>((zeG (l.length-1) (l.eraseIdx k)).map (a::·)).map .lst
 |none=>[]
theorem ztK{α:Type}(l:List α)(k:Nat):l.take k++l.drop (k+1)=l.eraseIdx k:=(List.eraseIdx_eq_take_drop_succ l k).symm
theorem zpB{F:FD}{l acc:List Dt}{k:Nat}{o3:Option B}(hk:k<l.length)(hl:l.length<=6)(ha:acc.length<=10000)
  (hF:F [.val (.lst (l.eraseIdx k))]=.ok (.lst ((zeG (l.length-1) (l.eraseIdx k)).map .lst),[.val .non])) :
  ∃ o',oIn F [some (.val (.lst l)),some (.own acc),some (.val (.int (k:Nat))),o3]=.ok (.nx,[some (.val (.lst l)),some (.own (acc++zn4 l k)),some (.val (.int (k:Nat))),o']):=by
 have el:(l.eraseIdx k).length=l.length-1:=by rw[List.length_eraseIdx,if_pos hk]
 have e72:(zeG (l.length-1) (l.eraseIdx k)).length<=720:=by rw[zft _ _ el];exact zup xwl
 let Z0:Ev:=[some (.val (.lst l)),some (.own acc),some (.val (.int (k:Nat))),o3]
 have hc:dIt (ztn F) Z0=.ok ((zeG (l.length-1) (l.eraseIdx k)).map .lst,Z0):=by
  unfold dIt;have:ztn F Z0=.ok (.lst ((zeG (l.length-1) (l.eraseIdx k)).map .lst),Z0):=by
   refine zb8 (l:=[.val .non]) (Z':=Z0) (zaZ (zr5 (Z1:=Z0) (zaZ (zoH (Z1:=Z0) (Z2:=Z0) (lo:=none) (hi:=some (k:Int)) rfl rfl rfl)) (zaZ (zoH (Z1:=Z0) (Z2:=Z0) (lo:=some ((k:Int)+1)) (hi:=none) rfl rfl rfl)) ?_)) ?_
   ·rw[zn0 hk,zlC hk];simp;lia
   ·rw[zn0 hk,zlC hk,ztK];exact hF
  rw[this];rfl
 obtain ⟨Z',⟨o',rfl⟩,e⟩:=zbh (u:=Dt.lst) (g:=zbv 3) (body:=oApp) (I:=λdn Z=>∃ o',Z=[some (.val (.lst l)),some (.own (acc++dn.map λr=>.lst (l[k]::r))),some (.val (.int (k:Nat))),o']) hc rfl ⟨o3,by simp[Z0]⟩
  (λdn r zaX e Z ⟨o',hρ⟩=>by
   subst hρ;have hr:r∈zeG (l.length-1) (l.eraseIdx k):=by rw[e];simp
   have hrl:r.length<=6:=by rw[((zc2 _ _ _ el).mp hr).length_eq,el];lia
   have hdn:dn.length<=720:=by rw[e,List.length_append] at e72;lia
   let Z1:Ev:=[some (.val (.lst l)),some (.own (acc++dn.map λr=>.lst (l[k]::r))),some (.val (.int (k:Nat))),some (.val (.lst r))]
   refine ⟨Z1,_,rfl,zfi (zvL (Z1:=Z1) (l0:=acc++dn.map λr=>.lst (l[k]::r)) (ds:=acc++dn.map λr=>.lst (l[k]::r)) (d:=.lst ([l[k]]++r)) rfl ?_ rfl ?_),some (.val (.lst r)),?_⟩
   ·refine zaZ (zr5 (Z1:=Z1) (zaZ (ztL (zsv (Z1:=Z1) (za4 (Z1:=Z1) rfl rfl (zlv (v:=(k:Nat)) xwl xwl (by simp[hk]))) rfl) xws)) rfl ?_);simp;lia
   ·simp only[wav,wag];lia
   ·simp[Z1])
 refine ⟨o',e.trans ?_⟩;unfold zn4;rw[List.getElem?_eq_getElem hk];simp[List.map_map]
theorem zsT(l:List Dt)(h:0<l.length):(zeG l.length l).map .lst=(List.range l.length).flatMap (zn4 l):=by
 obtain ⟨m,hm⟩ : ∃ m,l.length=m+1:=⟨l.length-1,xwl⟩
 rw[hm,zeG,List.map_flatMap,hm];congr 1;funext k;unfold zn4;rw[hm];cases l[k]? <;> rfl
theorem zre{l:List Dt}{k:Nat}(hl:l.length<=6)(hk:k<l.length):(zn4 l k).length<=720:=by unfold zn4;rw[List.getElem?_eq_getElem hk];simp only[wag];rw[zft _ _ (by rw[List.length_eraseIdx,if_pos hk])];exact zup xwl
theorem zoI{α β:Type}{f:α->List β}{c:Nat}:∀{l:List α},(∀ a∈l,(f a).length<=c)->(l.flatMap f).length<=l.length * c
 |[],_=>by simp
 |a::l,h=>by rw[List.flatMap_cons,List.length_append,List.length_cons,Nat.succ_mul];have:=zoI (l:=l) λb hb=>h b (wah _ hb);have:=h a wau;lia
theorem zvS{m:Nat}(h:m<=1000):zg9 (m:Int)=true:=by unfold zg9;rw[Bool.and_eq_true,decide_eq_true_eq,decide_eq_true_eq];lia
noncomputable def zw1(j:Int)(Z:Ev):R (List Dt×Ev):=if zg9 j=true then .ok (zdl 0 j.toNat,Z) else .no
theorem zsG{j:Int}{Z:Ev}(h:zg9 j=true):zw1 j Z=.ok (zdl 0 j.toNat,Z):=if_pos h
theorem zuD{fa:De}{Z Z1:Ev}{j:Int}(h:fa Z=.ok (.int j,Z1)):zfu fa Z=zw1 j Z1:=by unfold zfu zw1;rw[h];rfl
theorem znK{fa:De}{Z Z1:Ev}{m:Nat}(h:fa Z=.ok (.int (m:Nat),Z1))(hm:m<=1000):zfu fa Z=.ok ((List.range m).map λk:Nat=>Dt.int k,Z1):=by rw[zuD h,zsG (zvS hm),Int.toNat_natCast];unfold zdl;simp only[Int.zero_add]
theorem zlm{F:FD}{n:Nat}(IH:∀ l:List Dt,l.length<n->l.length<=6->F [.val (.lst l)]=.ok (.lst ((zeG l.length l).map .lst),[.val .non]))(l:List Dt)(h:l.length<n+1)(hl:l.length<=6):zay false [false] 3 (zcl F) [.val (.lst l)]=.ok (.lst ((zeG l.length l).map .lst),[.val .non]):=by
  by_cases h0:l.length=0
  ·have:l=[]:=List.length_eq_zero_iff.mp h0;subst this;refine zan (d:=.lst [.lst []]) (Z':=[some (.val (.lst [])),none,none,none]) rfl ?_ rfl;show zcl F [some (.val (.lst [])),none,none,none]=_;rw[zo7,zeo (Z1:=[some (.val (.lst [])),none,none,none]) (d:=.lst [.lst []])];rw[zfJ (Z1:=[some (.val (.lst [])),none,none,none]) (zaP (za4 (d:=.int 0) (e:=.int 0) (Z1:=[some (.val (.lst [])),none,none,none]) rfl rfl zwI))];rfl
  ·let Z0:Ev:=[some (.val (.lst l)),none,none,none]
   let Z1:Ev:=[some (.val (.lst l)),some (.own []),none,none]
   have hlen:∀(a b c:Option B),dFn zdv (dA (zab 0) dA0) [some (.val (.lst l)),a,b,c]=.ok (.int l.length,[some (.val (.lst l)),a,b,c]):=λa b c=>rfl;have x1:dIf (dTB (dOp (gEq false) (dFn zdv (dA (zab 0) dA0)) (dC (.int 0)))) (zaV (dC (.lst [(.lst [])]))) dNx Z0=.ok (.nx,Z0):=by
    rw[zc3 (zaP (Z1:=Z0) (b:=false) (za4 (Z1:=Z0) (hlen _ _ _) rfl ?_))]
    ·rfl
    ·rw[zwI];simp only[Bool.false_eq_true,if_false];congr 2;exact beq_false_of_ne xwl
   have hr:zfu (dFn zdv (dA (zab 0) dA0)) Z1=.ok ((List.range l.length).map λk:Nat=>Dt.int k,Z1):=by exact znK (hlen _ _ _) xwl
   obtain ⟨Z',⟨o2,o3,rfl⟩,e⟩:=zbh (u:=λk:Nat=>Dt.int k) (g:=zbv 2) (body:=oIn F) (I:=λdn Z=>∃ o2 o3,Z=[some (.val (.lst l)),some (.own (dn.flatMap (zn4 l))),o2,o3]) hr rfl ⟨none,none,rfl⟩
    (λdn k zaX e Z ⟨o2,o3,hρ⟩=>by
     subst hρ;have hk:k<l.length:=List.mem_range.mp (by rw[e];simp);have hin:∀ a∈dn,a<l.length:=λa ha=>List.mem_range.mp (by rw[e];exact waR _ ha);have hdl:dn.length<=6:=by have:=congrArg List.length e;simp at this;lia
     have ha:(dn.flatMap (zn4 l)).length<=10000:=by have:=zoI (f:=zn4 l) (c:=720) (l:=dn) λa ha=>zre hl (hin a ha);have:=Nat.mul_le_mul_right 720 hdl;lia
     obtain ⟨o',e'⟩:=zpB (F:=F) (acc:=dn.flatMap (zn4 l)) (o3:=o3) hk hl ha (by
      have el:(l.eraseIdx k).length=l.length-1:=by rw[List.length_eraseIdx,if_pos hk]
      have:=IH (l.eraseIdx k) (by rw[el];lia) (by rw[el];lia);rw[el] at this;exact this)
     refine ⟨[some (.val (.lst l)),some (.own (dn.flatMap (zn4 l))),some (.val (.int (k:Nat))),o3],_,rfl,e',some (.val (.int (k:Nat))),o',?_⟩;rw[List.flatMap_append,List.flatMap_singleton])
   refine zan (Z':=[some (.val (.lst l)),some (.val (.lst ((zeG l.length l).map .lst))),o2,o3]) rfl ?_ rfl;show zcl F Z0=_;rw[zo7,zaj x1,zaj (Z1:=Z1) rfl,zaj e,<- zsT l xwl];rfl
theorem zgR:∀(n:Nat)(l:List Dt),l.length<n->l.length<=6->zcm n [.val (.lst l)]=.ok (.lst ((zeG l.length l).map .lst),[.val .non])
 |0,l,h,_=>by lia
 |n+1,l,h,hl=>zlm (zgR n) l h hl
theorem zry(a b:List (List Int)):lp (a++b)=lp a++lp b:=by unfold lp;rw[List.map_append]
theorem zfF(a:List (List Int)):(lp a).length=a.length:=by unfold lp;rw[List.length_map]
theorem zvB(a b:List Int):Dt.tup (a.map .int++b.map .int)=tz (a++b):=by unfold tz;rw[List.map_append]
noncomputable abbrev zu1:De:=dFz (zbQ (dIt (zab 2)) (zbv 5) dTT (dOp zgo (zab 4) (zab 5)) 1)
noncomputable abbrev sIn:DS:=zfV (dIt (zab 1)) (zbv 4) (dEx (zfO 3 zu1))
noncomputable abbrev zwn:DS:=zaG (zcN 3 (zdm dA0)) (zaG sIn (zbo 1 (zlt 3)))
theorem zmK:zih=zaG (zbo 1 (dC (.lst [(.tup [])]))) (zaG (zfV (dIt (zab 0)) (zbv 2) zwn) (zaV (zab 1))):=rfl
noncomputable def stp(c:List (List Int))(row:List Int):List (List Int):=c.map (row++·)
theorem ztl(c:List (List Int))(row:List Int):(stp c row).length=c.length:=by unfold stp;rw[List.length_map]
theorem zp0{ch o4:Option B}{R c:List (List Int)}(hc:c.length<=1000)(hR:R.length * c.length<=10000)(hl:∀ r∈R,∀ y∈c,r.length+y.length<=1000) :
  ∃ o',sIn [ch,some (.val (.lst (lp R))),some (.val (.lst (lp c))),some (.own []),o4]=.ok (.nx,[ch,some (.val (.lst (lp R))),some (.val (.lst (lp c))),some (.own (lp (R.flatMap (stp c)))),o']):=by
 let Z0:Ev:=[ch,some (.val (.lst (lp R))),some (.val (.lst (lp c))),some (.own []),o4]
 obtain ⟨Z',⟨o',rfl⟩,e⟩:=zbh (u:=tz) (l:=R) (g:=zbv 4) (body:=dEx (zfO 3 zu1)) (Z:=Z0) (Z0:=Z0) (ds:=lp R) (I:=λdn Z=>∃ o',Z=[ch,some (.val (.lst (lp R))),some (.val (.lst (lp c))),some (.own (lp (dn.flatMap (stp c)))),o']) (fi:=dIt (zab 1)) rfl rfl ⟨o4,rfl⟩
  (λdn row zaX e Z ⟨o',hρ⟩=>by
   subst hρ;have hrow:row∈R:=by rw[e];simp
   let Z1:Ev:=[ch,some (.val (.lst (lp R))),some (.val (.lst (lp c))),some (.own (lp (dn.flatMap (stp c)))),some (.val (tz row))]
   have hcomp:zbQ (dIt (zab 2)) (zbv 5) dTT (dOp zgo (zab 4) (zab 5)) 1 Z1=.ok (c.map λp=>tz (row++p),Z1):=by refine zbH (u:=tz) (f:=λp=>tz (row++p)) (fe:=dOp zgo (zab 4) (zab 5)) (l:=c) (ds:=lp c) rfl rfl hc (λp hp=>?_) rfl;have a1:zab 4 (Z1++[some (.val (tz p))])=.ok (tz row,Z1++[some (.val (tz p))]):=rfl;have a2:zab 5 (Z1++[some (.val (tz p))])=.ok (tz p,Z1++[some (.val (tz p))]):=rfl;refine za4 a1 a2 ?_;have:=hl row hrow p hp;rw[<- zvB];exact ztI (by simp only[wag];lia)
   have hdn:(dn.flatMap (stp c)).length+c.length<=10000:=by
    have h1:(dn.flatMap (stp c)).length<=dn.length * c.length:=zoI λa _=>Nat.le_of_eq (ztl c a);have h2:dn.length+1<=R.length:=by rw[e];simp
    have h3:=Nat.mul_le_mul_right c.length h2;rw[Nat.succ_mul] at h3;lia
   refine ⟨Z1,_,rfl,zfi (zmo (Z1:=Z1) rfl (zaZ hcomp) rfl rfl ?_),some (.val (tz row)),?_⟩
   ·rw[zfF,List.length_map];lia
   ·show [ch,_,_,some (.own (lp (dn.flatMap (stp c))++c.map λp=>tz (row++p))),_]=_;rw[List.flatMap_append,zry,List.flatMap_singleton];have:lp (stp c row)=c.map λp=>tz (row++p):=by unfold lp stp;rw[List.map_map];rfl
    rw[this])
 exact ⟨o',e⟩
theorem zq7(dn:List (List (List Int)))(c:List (List Int)):zik [[]] (dn++[c])=(zik [[]] dn).flatMap (stp c):=by unfold zik;rw[List.foldl_append];rfl
theorem zjz{m:Nat}:∀{cs:List (List (List Int))},(∀ c∈cs,∀ y∈c,y.length<=m)->∀ r∈zbT cs,r.length<=cs.length * m
 |[],_,r,hr=>by simp[zbT] at hr;subst hr;simp
 |c::cs,h,r,hr=>by simp only[zbT,List.mem_flatMap,List.mem_map] at hr;obtain ⟨x,hx,y,hy,rfl⟩:=hr;have:=zjz (λc hc=>h c (wah _ hc)) y hy;have:=h c wau x hx;rw[List.length_append,List.length_cons,Nat.succ_mul];lia
theorem zgw:∀ a b:List Nat,zbn (a++b)=zbn a * zbn b
 |[],b=>by simp[zbn]
 |x::a,b=>by rw[List.cons_append,zbn,zbn,zgw a b,Nat.mul_assoc]
theorem zfk:∀{a:List Nat},(∀ x∈a,1<=x)->1<=zbn a
 |[],_=>wal _
 |x::a,h=>waN (zfk λy hy=>h y (wah _ hy)) (Nat.le_mul_of_pos_left _ (h x wau))
noncomputable def chD(c:List (List Int)):Dt:=.lst (lp c)
theorem zkF{cs:List (List (List Int))}(h1:∀ c∈cs,1<=c.length)(h2:∀ c∈cs,∀ y∈c,y.length<=10)(h3:cs.length<=10)(h4:zbn (cs.map List.length)<=720):zeS [.val (.lst (cs.map chD))]=.ok (.lst (lp (zbT cs)),[.val .non]):=by
 have hpre:∀ dn zaX,cs=dn++zaX->zbn (dn.map List.length)<=720:=λdn zaX e=>by
  have:1<=zbn (zaX.map List.length):=zfk λx hx=>by obtain ⟨c,hc,rfl⟩:=List.mem_map.mp hx;exact h1 c (by rw[e];exact waz _ hc)
  rw[e,List.map_append,zgw] at h4;exact waN (Nat.le_mul_of_pos_right _ this) h4
 let A:Option B:=some (.val (.lst (cs.map chD)));obtain ⟨Z',⟨o2,o3,o4,rfl⟩,e⟩:=zbh (u:=chD) (l:=cs) (g:=zbv 2) (body:=zwn) (fi:=dIt (zab 0)) (Z:=[A,some (.val (.lst [.tup []])),none,none,none]) (Z0:=[A,some (.val (.lst [.tup []])),none,none,none]) (ds:=cs.map chD)
  (I:=λdn Z=>∃ o2 o3 o4,Z=[A,some (.val (.lst (lp (zik [[]] dn)))),o2,o3,o4]) rfl rfl ⟨none,none,none,rfl⟩
  (λdn c zaX e Z ⟨o2,o3,o4,hρ⟩=>by
   subst hρ;have hc:c∈cs:=by rw[e];simp
   have hdl:dn.length<=10:=by have:=congrArg List.length e;simp at this;lia
   have hp1:=hpre (dn++[c]) zaX (by rw[e];simp);rw[List.map_append,zgw,List.map_cons,List.map_nil,zbn,zbn,Nat.mul_one] at hp1;have hp2:=hpre dn (c::zaX) e;have hRl:(zik [[]] dn).length=zbn (dn.map List.length):=by rw[zkA,zfY]
   have hc1:=h1 c hc;have hcl:c.length<=720:=waN (Nat.le_mul_of_pos_left _ (zfk λx hx=>by obtain ⟨c',hc',rfl⟩:=List.mem_map.mp hx;exact h1 c' (by rw[e];exact waR _ hc'))) hp1
   obtain ⟨o',e'⟩:=zp0 (ch:=A) (o4:=o4) (R:=zik [[]] dn) (c:=c) xwl (by rw[hRl];lia) (λr hr y hy=>by rw[zkA] at hr;have h5:=zjz (m:=10) (λc' hc'=>h2 c' (by rw[e];exact waR _ hc')) r hr;have:=h2 c hc y hy;have:=Nat.mul_le_mul_right 10 hdl;lia)
   let Z1:Ev:=[A,some (.val (.lst (lp (zik [[]] dn)))),some (.val (chD c)),o3,o4]
   let Z2:Ev:=[A,some (.val (.lst (lp (zik [[]] dn)))),some (.val (chD c)),some (.own []),o4]
   refine ⟨Z1,[A,some (.val (.lst (lp ((zik [[]] dn).flatMap (stp c))))),some (.val (chD c)),some (.val (.lst (lp ((zik [[]] dn).flatMap (stp c))))),o'],rfl,?_,some (.val (chD c)),some (.val (.lst (lp ((zik [[]] dn).flatMap (stp c))))),o',?_⟩
   ·have e2:sIn Z2=.ok (.nx,[A,some (.val (.lst (lp (zik [[]] dn)))),some (.val (chD c)),some (.own (lp ((zik [[]] dn).flatMap (stp c)))),o']):=e';show zwn Z1=_;rw[show zwn=zaG (zcN 3 (zdm dA0)) (zaG sIn (zbo 1 (zlt 3))) from rfl,zaj (Z1:=Z2) rfl,zaj e2];rfl
   ·rw[zq7])
 refine zan (Z':=[A,some (.val (.lst (lp (zik [[]] cs)))),o2,o3,o4]) rfl ?_ rfl;show zih [A,none,none,none,none]=_;rw[zmK,zaj (Z1:=[A,some (.val (.lst [.tup []])),none,none,none]) rfl,zaj e,<- zkA];rfl
theorem zsC(r:Bool)(bs:List Tr):1<=(arr r bs).length:=by
 unfold arr;split
 ·simp
 ·rw[zft _ _ rfl];exact zkz _
theorem zpW(r:Bool)(bs:List Tr):(zap (.nd r bs)).length=(arr r bs).length * zbn (bs.map λt=>(zap t).length):=by rw[zfm,List.length_flatMap,zd2 (c:=zbn (bs.map λt=>(zap t).length)) λp hp=>?_];rw[zfY,List.map_map];exact zfn ((zau hp).map _)
theorem zgd:∀(n:Nat)(t:Tr),dep t<=n->1<=(zap t).length
 |0,t,h=>by cases t <;> simp[dep] at h
 |n+1,.lf g,_=>by rw[zap];simp
 |n+1,.nd r bs,h=>by
  simp only[dep] at h;have hd:=zaW.mp (by lia:zcM bs<=n);rw[zpW];exact waN (zsC r bs) (Nat.le_mul_of_pos_right _ (zfk λx hx=>by obtain ⟨t,ht,rfl⟩:=List.mem_map.mp hx;exact zgd n t (hd t ht)))
noncomputable abbrev ztr(F:FD):DN:=zbQ (dIt (dOp gIx (zab 0) (dC (.int 1)))) (zbv 5) dTT (zag F (dR (zab 5) dR0)) 1
noncomputable abbrev aIf:DS:=dIf (dTB (dOp (gEq false) (dOp gIx (zab 0) (dC (.int 0))) (dC (.str (Str.ofString "row"))))) (zbo 2 (dFz (zdm (dA (zab 1) (dA (dFz (zm5 (zab 1))) dA0))))) (zbo 2 (zag (zcm 8) (dR (zab 1) dR0)))
noncomputable abbrev zuY:DS:=dEx (zfO 3 (zag zeS (dR (zab 4) dR0)))
theorem zud(F:FD):zea F=zaG (dIf (dTB (zag zaI (dR (zab 0) dR0))) (zaV (dFz (zdm (dA (zpo (dA (zab 0) dA0)) dA0)))) dNx) (zaG (zbo 1 (dFz (ztr F))) (zaG aIf (zaG (zcN 3 (zdm dA0)) (zaG (zfV (dIt (zab 2)) (zbv 4) zuY) (zaV (zlt 3)))))):=rfl
noncomputable def brD(t:Tr):Dt:=chD (zap t)
noncomputable def orD(p:List Tr):Dt:=.lst (p.map brD)
theorem zqe{T o2 o3 o4:Option B}{r:Bool}{bs:List Tr}(hT:T=some (.val (toD (.nd r bs))))(hl:bs.length<=6):aIf [T,some (.val (.lst (bs.map brD))),o2,o3,o4]=.ok (.nx,[T,some (.val (.lst (bs.map brD))),some (.val (.lst ((arr r bs).map orD))),o3,o4]):=by
 subst hT;let Z:Ev:=[some (.val (toD (.nd r bs))),some (.val (.lst (bs.map brD))),o2,o3,o4]
 have hD:toD (.nd r bs)=.tup [.str (wd r),.tup (zkv bs)]:=by rw[toD]
 have ix:dOp gIx (zab 0) (dC (.int 0)) Z=.ok (.str (wd r),Z):=by have a1:zab 0 Z=.ok (toD (.nd r bs),Z):=rfl;exact za4 a1 rfl (by rw[hD];rfl)
 have ht:dTB (dOp (gEq false) (dOp gIx (zab 0) (dC (.int 0))) (dC (.str (Str.ofString "row")))) Z=.ok (r,Z):=by refine zaP (za4 ix rfl ?_);rw[zbA (by rw[okN];exact zeT r) (by rw[okN];exact zjc),eqS,zr4];rfl
 cases r with
 |true =>
  show dIf _ _ _ Z=_;rw[zfJ ht];have ea:(arr true bs).map orD=[.lst (bs.map brD),.lst (bs.map brD).reverse]:=by rw[<- List.map_reverse];rfl
  rw[ea];rfl
 |false =>
  show dIf _ _ _ Z=_;rw[zc3 ht];refine (zbl (i:=2) (Z1:=Z) (d:=.lst ((arr false bs).map orD)) (zb8 (Z':=Z) (l:=[.val .non]) (d:=.lst (bs.map brD)) rfl ?_) (by simp[Z])).trans rfl;have:=zgR 8 (bs.map brD) (by rw[List.length_map];lia) (by rw[List.length_map];lia);rw[this,List.length_map,zkB,List.map_map];rfl
theorem zrk{F:FD}{r:Bool}{bs:List Tr}(IH:∀ b∈bs,F [.val (toD b)]=.ok (.lst (lp (zap b)),[.val .non]))(ho:okT (.nd r bs)=true)(hn:(zac (.nd r bs)).Nodup)(h6:(zac (.nd r bs)).length<=6) :
  zay false [false] 4 (zea F) [.val (toD (.nd r bs))]=.ok (.lst (lp (zap (.nd r bs))),[.val .non]):=by
 obtain ⟨A,H⟩:=zcV (Nat.le_succ _) ho hn;have hD:toD (.nd r bs)=.tup [.str (wd r),.tup (zkv bs)]:=by rw[toD]
 have hk:bs.length<=6:=by have:=zgV bs (wal _) (by rw[okT,Bool.and_eq_true] at ho;exact ho.2);rw[zac] at h6;lia
 have hsub:∀ b∈bs,(zac b).length<=6:=λb hb=>by have:=zcW hb;rw[zac] at h6;lia
 have hle:∀ b∈bs,(zap b).length<=fac (zac b).length:=λb hb=>ziC (H b hb).2.1 (H b hb).2.2;have h720:zbn (bs.map λt=>(zap t).length)<=720:=waN (zlS hle) (zup (by rw[zac] at h6;exact h6));have htot:(zap (.nd r bs)).length<=720:=waN (ziC ho hn) (zup h6);let T:Option B:=some (.val (toD (.nd r bs)));let Z0:Ev:=[T,none,none,none,none]
 have x0:dIf (dTB (zag zaI (dR (zab 0) dR0))) (zaV (dFz (zdm (dA (zpo (dA (zab 0) dA0)) dA0)))) dNx Z0=.ok (.nx,Z0):=by rw[zc3 (zaP (Z1:=Z0) (b:=false) (zb8 (Z':=Z0) (d:=toD (.nd r bs)) rfl (zfh _)))];rfl
 have x1:zbo 1 (dFz (ztr F)) Z0=.ok (.nx,[T,some (.val (.lst (bs.map brD))),none,none,none]):=by
  have hi:dIt (dOp gIx (zab 0) (dC (.int 1))) Z0=.ok (zkv bs,Z0):=by have a1:zab 0 Z0=.ok (toD (.nd r bs),Z0):=rfl;have:dOp gIx (zab 0) (dC (.int 1)) Z0=.ok (.tup (zkv bs),Z0):=za4 a1 rfl (by rw[hD];rfl);unfold dIt;rw[this];rfl
  have hc:ztr F Z0=.ok (bs.map brD,Z0):=zbH (u:=toD) (f:=brD) (l:=bs) hi (zce bs) xwl (λb hb=>by have a1:zab 5 (Z0++[some (.val (toD b))])=.ok (toD b,Z0++[some (.val (toD b))]):=rfl;exact zb8 a1 (IH b hb)) rfl
  exact zbl (zaZ hc) (by simp[Z0])
 have x2:=zqe (T:=T) (o2:=none) (o3:=none) (o4:=none) (r:=r) (bs:=bs) rfl hk;let B1:Option B:=some (.val (.lst (bs.map brD)));let B2:Option B:=some (.val (.lst ((arr r bs).map orD)));obtain ⟨Z',⟨o4,rfl⟩,e⟩:=zbh (u:=orD) (l:=arr r bs) (g:=zbv 4) (body:=zuY) (fi:=dIt (zab 2)) (Z:=[T,B1,B2,some (.own []),none]) (Z0:=[T,B1,B2,some (.own []),none]) (ds:=(arr r bs).map orD)
  (I:=λdn Z=>∃ o4,Z=[T,B1,B2,some (.own (lp (dn.flatMap λp=>zbT (p.map zap)))),o4]) rfl rfl ⟨none,rfl⟩
  (λdn p zaX e Z ⟨o4,hρ⟩=>by
   subst hρ;have hp:p∈arr r bs:=by rw[e];simp
   have pb:∀ t∈p,t∈bs:=λt ht=>(zau hp).mem_iff.mp ht;have hpl:p.length<=6:=by rw[(zau hp).length_eq];exact hk
   have hst:zeS [.val (orD p)]=.ok (.lst (lp (zbT (p.map zap))),[.val .non]):=by
    have:orD p=.lst ((p.map zap).map chD):=by unfold orD;rw[List.map_map];rfl
    rw[this];refine zkF (λc hc=>?_) (λc hc y hy=>?_) (by rw[List.length_map];lia) ?_
    ·obtain ⟨t,ht,rfl⟩:=List.mem_map.mp hc;exact zgd _ t (wal _)
    ·obtain ⟨t,ht,rfl⟩:=List.mem_map.mp hc;rw[(zal hy).length_eq];have:=hsub t (pb t ht);lia
    ·rw[List.map_map];have:=zfn ((zau hp).map λt=>(zap t).length);exact waN (Nat.le_of_eq this) h720
   have hlen:(dn.flatMap λp=>zbT (p.map zap)).length+(zbT (p.map zap)).length<=720:=by rw[zfm,e,List.flatMap_append,List.length_append,List.flatMap_cons,List.length_append] at htot;lia
   let Z1:Ev:=[T,B1,B2,some (.own (lp (dn.flatMap λp=>zbT (p.map zap)))),some (.val (orD p))]
   refine ⟨Z1,_,rfl,zfi (zmo (Z1:=Z1) (l:=lp (zbT (p.map zap))) rfl (zb8 (Z':=Z1) (d:=orD p) rfl hst) rfl rfl ?_),some (.val (orD p)),?_⟩
   ·rw[zfF,zfF];lia
   ·rw[List.flatMap_append,zry,List.flatMap_singleton];rfl)
 refine zan (Z':=[T,B1,B2,some (.val (.lst (lp (zap (.nd r bs))))),o4]) rfl ?_ rfl;show zea F Z0=_;rw[zud,zaj x0,zaj x1,zaj x2,zaj (Z1:=[T,B1,B2,some (.own []),none]) rfl,zaj e,<- zfm];rfl
theorem zmt:∀(n:Nat)(t:Tr),dep t<=n->okT t=true->(zac t).Nodup->(zac t).length<=6->zbJ n [.val (toD t)]=.ok (.lst (lp (zap t)),[.val .non])
 |0,t,h,_,_,_=>by cases t <;> simp[dep] at h
 |n+1,.lf g,_,_,_,_=>by rw[toD,zap];exact zan (d:=.lst [.tup [.int g]]) (Z':=[some (.val (.int g)),none,none,none,none]) rfl rfl rfl
 |n+1,.nd r bs,h,ho,hn,h6=>by have hh:=zcV h ho hn;refine zrk (F:=zbJ n) (λb hb=>?_) ho hn h6;obtain ⟨h1,h2,h3⟩:=hh.2 b hb;refine zmt n b h1 h2 h3 ?_;have:=zcW hb;rw[zac] at h6;lia
theorem zp6{m:Nat}(h:m<=1000):zbm (m:Int)=true:=by unfold zbm;rw[Bool.and_eq_true,decide_eq_true_eq,decide_eq_true_eq];lia
noncomputable def mulC(i j:Int):R Dt:=if (zbm i || zbm j)=true then .ok (.int (i * j)) else .no
theorem zuh{i j:Int}(h:zbm j=true):mulC i j=.ok (.int (i * j)):=if_pos (by rw[h,Bool.or_true])
theorem zrS{a b:Nat}(h:b<=1000):zil (.int (a:Nat)) (.int (b:Nat))=.ok (.int ((a * b:Nat):Int)):=by rw[Int.natCast_mul];exact zuh (zp6 h)
noncomputable abbrev zps(F:FD):DS:=zaG (zbo 1 (dOp zil (zab 1) (zag F (dR (zab 3) dR0)))) (dIf (dTB (dOp (gEq false) (dOp gIx (zab 0) (dC (.int 0))) (dC (.str (Str.ofString "any"))))) (zbo 1 (dOp zil (zab 1) (zab 2))) dNx)
theorem zoQ(F:FD):zc0 F=zaG (dIf (dTB (zag zaI (dR (zab 0) dR0))) (zaV (dC (.int 1))) dNx) (zaG (zbo 1 (zum (dTB (dOp (gEq false) (dOp gIx (zab 0) (dC (.int 0))) (dC (.str (Str.ofString "row"))))) (dC (.int 2)) (dC (.int 1)))) (zaG (zfV (zhM (dOp gIx (zab 0) (dC (.int 1)))) (znI 2 3) (zps F)) (zaV (zab 1)))):=rfl
noncomputable def zfe(r:Bool)(acc:Nat)(l:List (Nat×Tr)):Nat:=l.foldl (λacc p=>acc * zhj p.2 * (if r=true then 1 else p.1+1)) acc
theorem zna(r:Bool)(acc:Nat)(l:List (Nat×Tr))(p:Nat×Tr):zfe r acc (l++[p])=zfe r acc l * zhj p.2 * (if r=true then 1 else p.1+1):=by unfold zfe;rw[List.foldl_append];rfl
theorem zjP(r:Bool):∀(l:List Tr)(i acc:Nat),zfe r acc ((List.range' i l.length).zip l)=zfL r l (i+1) acc
 |[],i,acc=>by simp[zfe,zfL]
 |t::l,i,acc=>by rw[List.length_cons,List.range'_succ,List.zip_cons_cons,zfL,<- zjP r l (i+1)];rfl
noncomputable def enD(p:Nat×Tr):Dt:=.tup [.int ((p.1+1:Nat):Int),toD p.2]
theorem zqH(bs:List Tr):zk3 (zkv bs)=((List.range' 0 bs.length).zip bs).map enD:=by unfold zk3;rw[zce,List.length_map,List.range_eq_range',List.zip_map_right,List.map_map];rfl
theorem zrW{r:Bool}{bs:List Tr}{Z:Ev}(h:zab 0 Z=.ok (toD (.nd r bs),Z)):dOp gIx (zab 0) (dC (.int 0)) Z=.ok (.str (wd r),Z) :=
 za4 h rfl (by rw[toD];rfl)
theorem zi4{r:Bool}{bs:List Tr}{Z:Ev}(h:zab 0 Z=.ok (toD (.nd r bs),Z)):dTB (dOp (gEq false) (dOp gIx (zab 0) (dC (.int 0))) (dC (.str (Str.ofString "row")))) Z=.ok (r,Z):=by refine zaP (za4 (zrW h) rfl ?_);rw[zbA (by rw[okN];exact zeT r) (by rw[okN];exact zjc),eqS,zr4];rfl
theorem zsN{r:Bool}{bs:List Tr}{Z:Ev}(h:zab 0 Z=.ok (toD (.nd r bs),Z)):dOp (gEq false) (dOp gIx (zab 0) (dC (.int 0))) (dC (.str (Str.ofString "any"))) Z=.ok (.bl (!r),Z):=by refine za4 (zrW h) rfl ?_;rw[zbA (by rw[okN];exact zeT r) (by rw[okN];exact zkj),eqS,zrX];rfl
theorem zlX{r:Bool}{bs:List Tr}{Z:Ev}(h:zab 0 Z=.ok (toD (.nd r bs),Z)):dOp gIx (zab 0) (dC (.int 1)) Z=.ok (.tup (zkv bs),Z) :=
 za4 h rfl (by rw[toD];rfl)
theorem zmL{F:FD}{r:Bool}{bs:List Tr}(IH:∀ b∈bs,F [.val (toD b)]=.ok (.int (zhj b:Nat),[.val .non]))(hc:∀ b∈bs,zhj b<=1000)(hl:bs.length<=100):zay false [false] 3 (zc0 F) [.val (toD (.nd r bs))]=.ok (.int (zhj (.nd r bs):Nat),[.val .non]):=by
 let T:Option B:=some (.val (toD (.nd r bs)));let b0:Nat:=if r=true then 2 else 1
 let Z0:Ev:=[T,none,none,none]
 have hv:∀ a b c:Option B,zab 0 [T,a,b,c]=.ok (toD (.nd r bs),[T,a,b,c]):=λ_ _ _=>rfl;have x0:dIf (dTB (zag zaI (dR (zab 0) dR0))) (zaV (dC (.int 1))) dNx Z0=.ok (.nx,Z0):=by rw[zc3 (zaP (Z1:=Z0) (b:=false) (zb8 (Z':=Z0) (d:=toD (.nd r bs)) rfl (zfh _)))];rfl
 have x1:zbo 1 (zum (dTB (dOp (gEq false) (dOp gIx (zab 0) (dC (.int 0))) (dC (.str (Str.ofString "row"))))) (dC (.int 2)) (dC (.int 1))) Z0=.ok (.nx,[T,some (.val (.int (b0:Nat))),none,none]):=by
  have:zum (dTB (dOp (gEq false) (dOp gIx (zab 0) (dC (.int 0))) (dC (.str (Str.ofString "row"))))) (dC (.int 2)) (dC (.int 1)) Z0=.ok (.int (b0:Nat),Z0):=by unfold zum;rw[zi4 (hv _ _ _)];cases r <;> rfl
  exact zbl this (by simp[Z0])
 have hi:zhM (dOp gIx (zab 0) (dC (.int 1))) [T,some (.val (.int (b0:Nat))),none,none]=.ok (zk3 (zkv bs),[T,some (.val (.int (b0:Nat))),none,none]):=by unfold zhM;rw[zlX (hv _ _ _)];rfl
 obtain ⟨Z',⟨o2,o3,rfl⟩,e⟩:=zbh (u:=enD) (l:=(List.range' 0 bs.length).zip bs) (g:=znI 2 3) (body:=zps F) (I:=λdn Z=>∃ o2 o3,Z=[T,some (.val (.int (zfe r b0 dn:Nat))),o2,o3]) hi (zqH bs) ⟨none,none,rfl⟩
  (λdn p zaX e Z ⟨o2,o3,hρ⟩=>by
   subst hρ;obtain ⟨i,b⟩:=p;have hi100:i<100:=by have h8:=(waQ (show (i,b)∈(List.range' 0 bs.length).zip bs by rw[e];simp)).1;rw[<- List.range_eq_range'] at h8;have:=List.mem_range.mp h8;lia
   have hb:b∈bs:=(waQ (show (i,b)∈(List.range' 0 bs.length).zip bs by rw[e];simp)).2;let I2:Option B:=some (.val (.int ((i+1:Nat):Int)));let B3:Option B:=some (.val (toD b));let Z1:Ev:=[T,some (.val (.int (zfe r b0 dn:Nat))),I2,B3]
   let Z2:Ev:=[T,some (.val (.int ((zfe r b0 dn * zhj b:Nat):Int))),I2,B3]
   have y1:zbo 1 (dOp zil (zab 1) (zag F (dR (zab 3) dR0))) Z1=.ok (.nx,Z2):=by have a1:zab 1 Z1=.ok (.int (zfe r b0 dn:Nat),Z1):=rfl;have a3:zab 3 Z1=.ok (toD b,Z1):=rfl;have:dOp zil (zab 1) (zag F (dR (zab 3) dR0)) Z1=.ok (.int ((zfe r b0 dn * zhj b:Nat):Int),Z1):=za4 a1 (zb8 a3 (IH b hb)) (zrS (hc b hb));exact zbl this (by simp[Z1])
   have y2:dTB (dOp (gEq false) (dOp gIx (zab 0) (dC (.int 0))) (dC (.str (Str.ofString "any")))) Z2=.ok (!r,Z2):=zaP (zsN (hv _ _ _));refine ⟨Z1,[T,some (.val (.int (zfe r b0 (dn++[(i,b)]):Nat))),I2,B3],rfl,?_,I2,B3,rfl⟩;show zps F Z1=_;rw[show zps F=zaG _ _ from rfl,zaj y1,zna];cases r with
   |true =>
    rw[zc3 y2];simp only[if_true,Nat.mul_one];rfl
   |false =>
    rw[zfJ y2];have a1:zab 1 Z2=.ok (.int ((zfe false b0 dn * zhj b:Nat):Int),Z2):=rfl;have a2:zab 2 Z2=.ok (.int ((i+1:Nat):Int),Z2):=rfl;have:dOp zil (zab 1) (zab 2) Z2=.ok (.int ((zfe false b0 dn * zhj b * (i+1):Nat):Int),Z2):=za4 a1 a2 (zrS xwl);exact zbl this (by simp[Z2]))
 refine zan (Z':=[T,some (.val (.int (zfe r b0 ((List.range' 0 bs.length).zip bs):Nat))),o2,o3]) rfl ?_ rfl;show zc0 F Z0=_;rw[zoQ,zaj x0,zaj x1,zaj e,zjP,zhj];rfl
theorem zuM{t:Tr}(ho:okT t=true)(hn:(zac t).Nodup)(h6:(zac t).length<=6):zhj t<=1000:=by rw[zkT _ t (Nat.le_refl _)];have:=waN (ziC ho hn) (zup h6);lia
theorem zhD:∀(n:Nat)(t:Tr),dep t<=n->okT t=true->(zac t).Nodup->(zac t).length<=6->zbz n [.val (toD t)]=.ok (.int (zhj t:Nat),[.val .non])
 |0,t,h,_,_,_=>by cases t <;> simp[dep] at h
 |n+1,.lf g,_,_,_,_=>by rw[toD,zhj];exact zan (d:=.int 1) (Z':=[some (.val (.int g)),none,none,none]) rfl rfl rfl
 |n+1,.nd r bs,h,ho,hn,h6=>by
  have hh:=zcV h ho hn;have hs:∀ b∈bs,(zac b).length<=6:=λb hb=>by have:=zcW hb;rw[zac] at h6;lia
  have hk:bs.length<=6:=by have:=zgV bs (wal _) (by rw[okT,Bool.and_eq_true] at ho;exact ho.2);rw[zac] at h6;lia
  exact zmL (F:=zbz n) (λb hb=>zhD n b (hh.2 b hb).1 (hh.2 b hb).2.1 (hh.2 b hb).2.2 (hs b hb)) (λb hb=>zuM (hh.2 b hb).2.1 (hh.2 b hb).2.2 (hs b hb)) xwl
theorem zoL{n:Nat}{t:Tr}(h1:1<=n)(h7:n<=7)(hd:dep t<=8)(ho:okT t=true)(hn:(zac t).Nodup)(h6:(zac t).length<=6):zcj [.val (.int n),.val (toD t)]=.ok (.int ((zap t).length:Nat),[.val .non,.val .non]):=by
 let Z:Ev:=[some (.val (.int n)),some (.val (toD t))]
 refine zan (Z':=Z) rfl ?_ rfl;have a0:zab 0 Z=.ok (.int n,Z):=rfl;have a1:zab 1 Z=.ok (toD t,Z):=rfl;show zaG (dEx (zag za7 (dR (zab 0) dR0))) (zaV (zag (zbz 8) (dR (zab 1) dR0))) Z=_;rw[zaj (zfi (zb8 a0 (zfX xwl xwl)))];refine zb5 (zb8 (l:=[.val .non]) a1 ?_);rw[zhD 8 t hd ho hn h6,zkT 8 t hd]
theorem ziq(l:List Int):zh1 (l.map .int)=some l:=zrZ l
theorem zkR:∀{ps:List (List Int)},(∀ p∈ps,p≠[])->zqa (lp ps)=some ps
 |[],_=>rfl
 |p::ps,h=>by have ih:=zkR (ps:=ps) λq hq=>h q (wah _ hq);obtain ⟨a,r,rfl⟩:=waI (h p wau);show zqa (tz (a::r)::lp ps)=_;unfold tz;rw[zqa,ziq,ih]
theorem zeY{n:Nat}{t:Tr}(h1:1<=n)(h7:n<=7)(hd:dep t<=8)(ho:okT t=true)(hn:(zac t).Nodup)(h6:(zac t).length<=6):zaS [.val (.int n),.val (toD t)]=.ok (.lst (lp (zfo (zap t))),[.val .non,.val .non]):=by
 let Z:Ev:=[some (.val (.int n)),some (.val (toD t))]
 refine zan (Z':=Z) rfl ?_ rfl;have a0:zab 0 Z=.ok (.int n,Z):=rfl;have a1:zab 1 Z=.ok (toD t,Z):=rfl;show zaG (dEx (zag za7 (dR (zab 0) dR0))) (zjH (zf9 zfj (dA (zag (zbJ 8) (dR (zab 1) dR0)) dA0))) Z=_;rw[zaj (zfi (zb8 a0 (zfX xwl xwl)))];have e:zag (zbJ 8) (dR (zab 1) dR0) Z=.ok (.lst (lp (zap t)),Z):=zb8 a1 (zmt 8 t hd ho hn h6);have eg:zfj [.lst (lp (zap t))]=.ok (lp (zfo (zap t))):=by unfold zfj;simp only[zkR (ps:=zap t) λp hp z=>zb6 _ t (wal _) ho (by subst z;exact (zal hp).symm.eq_nil)];rfl
 unfold zjH zf9 dA dA0;rw[e];simp only[R.bind_ok,eg]
theorem zuH{neg:Bool}{x:Dt}{ds:List Dt}(h1:okN 60 x=true)(h2:∀ d∈ds,okN 60 d=true):gIn neg x (.tup ds)=.ok (.bl (if neg then !inD x ds else inD x ds))/\gIn neg x (.lst ds)=.ok (.bl (if neg then !inD x ds else inD x ds)):=by have h3:ds.all (okN 60)=true:=List.all_eq_true.mpr h2;unfold gIn;simp only[h1,h3,Bool.and_self,if_true,and_self]
theorem zsA{l:List Int}:∀ d∈l.map Dt.int,okN 60 d=true:=λd hd=>by obtain ⟨i,_,rfl⟩:=List.mem_map.mp hd;rfl
theorem zhF(l:List Int):okN 60 (tz l)=true:=by unfold tz;rw[okN,List.all_eq_true];intro d hd;obtain ⟨i,_,rfl⟩:=List.mem_map.mp hd;rfl
theorem zhO(l:List Int):okN 60 (.lst (l.map .int))=true:=zpy l 59
theorem zqh(a b:List Int):eqD (tz a) (tz b)=(a == b):=by unfold tz;rw[eqD,zir]
theorem zsV(a b:List Int):eqD (.lst (a.map .int)) (.lst (b.map .int))=(a == b):=by rw[eqD,zir]
theorem zf6{g:List Dt->R (List Dt)}{f:De}{Z Z1:Ev}{d:Dt}{z:List Dt}(h:f Z=.ok (d,Z1))(hg:g [d]=.ok z):zf9 g (dA f dA0) Z=.ok (z,Z1):=by unfold zf9 dA dA0;rw[h];simp only[R.bind_ok,hg]
theorem zqg{l:List Int}(h:l.length<64):zeJ [tz l]=.ok ((zaT l).map .int):=by unfold zeJ tz;simp only[ziq,h,if_true]
theorem zi1{l:List Int}(h:l.length<64):zel [.lst (l.map .int)]=.ok ((zaT l).map .int):=by unfold zel;simp only[ziq,h,if_true]
structure Nod(r:Bool)(bs:List Tr):Prop where
 A:zfx bs
 d:∀ b∈bs,dep b<=8
 k:bs.length<=6
 l:(zaf bs).length<=6
section
variable{r:Bool}{bs:List Tr}{F:FD}{R:Option B}
end
theorem zlF{u x v a y b:List Int}(hn:(u++x++v).Nodup)(e:u++x++v=a++y++b)(hy:∀ g∈y,g∈x)(hne:y≠[]):∃ a' b',x=a'++y++b':=by
 rw[List.append_assoc,List.nodup_append] at hn;obtain ⟨_,hxv,hux⟩:=hn;rw[List.nodup_append] at hxv;have main:∀ c,x++v=c++(y++b)->∃ a' b',x=a'++y++b':=λc h=>by
  rw[<- List.append_assoc] at h;rcases List.append_eq_append_iff.mp h with ⟨w,h1,h2⟩|⟨w,h1,h2⟩
  ·by_cases hw:w=[]
   ·subst hw;rw[List.append_nil] at h1;exact ⟨c,[],by rw[List.append_nil,h1]⟩
   ·exfalso;have e1:=List.dropLast_concat_getLast hne;have e2:=List.dropLast_concat_getLast hw;rw[<- e1,<- e2,<- List.append_assoc,<- List.append_assoc] at h1;have e3:=(List.append_inj' h1 rfl).2;have e4:y.getLast hne=w.getLast hw:=(List.cons.inj e3).1;have hin:w.getLast hw∈v:=by rw[h2];exact waR _ (List.getLast_mem hw)
    exact hxv.2.2 _ (hy _ (List.getLast_mem hne)) _ hin e4
  ·exact ⟨c,w,h1⟩
 rw[List.append_assoc,List.append_assoc] at e;rcases List.append_eq_append_iff.mp e with ⟨c,_,h2⟩|⟨c,h1,h2⟩
 ·exact main c h2
 ·cases c with
  |nil=>exact main [] (by rw[List.nil_append] at h2 ⊢;exact h2.symm)
  |cons g c =>
   exfalso;obtain ⟨z,y',rfl⟩:=waI hne;have eg:z=g:=by simp only[List.cons_append] at h2;exact (List.cons.inj h2).1
   subst eg;have:z∈u:=by rw[h1];exact waz _ wau
   exact hux z this z (waR _ (hy z wau)) rfl
theorem zlB:∀(n:Nat)(rem:List Tr)(x:List Int),rem.length=n->zfx rem->x.Perm (zaf rem)->(∀ b∈rem,∃ a y c,x=a++y++c/\y∈zap b)->∃ p,p.Perm rem/\zut x p
 |0,rem,x,h,_,hx,_=>by have:rem=[]:=List.length_eq_zero_iff.mp h;subst this;rw[zaf] at hx;rw[hx.eq_nil];exact ⟨[],.refl _,[],.nil,rfl⟩
 |n+1,rem,x,h,A,hx,H=>by
  have hxn:x.Nodup:=hx.symm.nodup A.nd;have hne:x≠[]:=λz=>by
   subst z;obtain ⟨b,r,rfl⟩ : ∃ b r,rem=b::r:=waI λz=>by subst z;simp at h
   have:=hx.symm.eq_nil;rw[zaf] at this;exact A.ne b wau (List.append_eq_nil_iff.mp this).1
  obtain ⟨g,x',rfl⟩:=waI hne;obtain ⟨b,hb,gb⟩:=zbe.mp (hx.mem_iff.mp wau);obtain ⟨a,y,c,e,hy⟩:=H b hb;have hyp:=zal hy;have ha:a=[]:=by
   cases a with
   |nil=>rfl
   |cons z a =>
    exfalso;have ez:g=z:=by simp only[List.cons_append] at e;exact (List.cons.inj e).1
    subst ez;rw[e,List.append_assoc,List.nodup_append] at hxn;exact hxn.2.2 g wau g (waR _ (hyp.mem_iff.mpr gb)) rfl
  subst ha;rw[List.nil_append] at e;obtain ⟨s,t,rfl⟩:=List.append_of_mem hb;have pm:(s++b::t).Perm (b::(s++t)):=List.perm_middle;have hc:c.Perm (zaf (s++t)):=by
   have h1:(y++c).Perm (zac b++zaf (s++t)):=by rw[<- e];have:=hx.trans (zd0 pm);rw[zaf] at this;exact this
   exact (List.perm_append_left_iff y).mp (h1.trans (hyp.symm.append_right _))
  have hA:zfx (s++t):=by have:=(zd0 pm).nodup A.nd;rw[zaf,List.nodup_append] at this;exact ⟨this.2.1,λu hu=>A.ne u (pm.mem_iff.mpr (wah _ hu))⟩
  obtain ⟨p,hp,hM⟩:=zlB n (s++t) c (by have:=pm.length_eq;simp only[wan] at this;lia) hA hc λu hu=>by obtain ⟨a',y',c',e',hy'⟩:=H u (pm.mem_iff.mpr (wah _ hu));have hyp':=zal hy';obtain ⟨a2,c2,e2⟩:=zlF (u:=y) (x:=c) (v:=[]) (a:=a') (y:=y') (b:=c') (by rw[List.append_nil,<- e];exact hxn) (by rw[List.append_nil,<- e];exact e') (λz hz=>hc.mem_iff.mpr (zbe.mpr ⟨u,hu,hyp'.mem_iff.mp hz⟩)) (λz=>hA.ne u hu (by subst z;exact hyp'.symm.eq_nil));exact ⟨a2,y',c2,e2,hy'⟩
  refine ⟨b::p,(hp.cons b).trans pm.symm,?_⟩;obtain ⟨ys,h1,h2⟩:=hM;exact ⟨y::ys,.cons hy h1,by rw[List.flatten_cons,h2,e]⟩
theorem zdD{s a y c:List Int}{g:Int}(hn:s.Nodup)(e:s=a++y++c)(hg:g∈y):a.length<=s.idxOf g/\s.idxOf g<a.length+y.length:=by subst e;rw[List.append_assoc,List.nodup_append] at hn;have hga:g∉a:=λz=>hn.2.2 g z g (waR _ hg) rfl;rw[List.append_assoc,List.idxOf_append,if_neg hga,List.idxOf_append,if_pos hg];have:=List.idxOf_lt_length_of_mem hg;lia
theorem zeb{f:Tr->Int}:∀{p:List Tr}{ys:List (List Int)}{s u v:List Int},s.Nodup->s=u++ys.flatten++v->Paired (λy t=>y∈zap t) ys p->(∀ b∈p,f b∈zac b)->(p.map λb=>((s.idxOf (f b):Nat):Int)).Pairwise (· < ·)/\∀ b∈p,u.length<=s.idxOf (f b)
 |[],_,s,u,v,_,_,.nil,_=>⟨.nil,xws⟩
 |b::p,y::ys,s,u,v,hn,e,.cons h t,hf=>by
  rw[List.flatten_cons] at e;have e1:s=u++y++(ys.flatten++v):=by rw[e];simp
  have e2:s=(u++y)++ys.flatten++v:=by rw[e];simp
  have hb:=zdD hn e1 ((zal h).mem_iff.mpr (hf b wau));obtain ⟨h1,h2⟩:=zeb (f:=f) hn e2 t λc hc=>hf c (wah _ hc);refine ⟨List.pairwise_cons.mpr ⟨λz hz=>?_,h1⟩,λc hc=>?_⟩
  ·obtain ⟨c,hc,rfl⟩:=List.mem_map.mp hz;have:=h2 c hc;rw[List.length_append] at this;show ((s.idxOf (f b):Nat):Int)<((s.idxOf (f c):Nat):Int);lia
  ·rcases wap.mp hc with rfl|hc
   ·exact hb.1
   ·have:=h2 c hc;rw[List.length_append] at this;lia
noncomputable def plc(row p:List Int):List Int:=p.map λx=>(row.idxOf x:Int)
noncomputable def zus(row p:List Int):Bool:=zlI (plc row p)-zlT (plc row p) == (p.length:Int)-1
theorem zrm{s P:List Int}(hs:s.Nodup)(hP:P.Nodup)(hne:P≠[])(hsub:∀ g∈P,g∈s):zus s P=true ↔ ∃ u x v,s=u++x++v/\x.Perm P:=by
 have hpn:plc s P≠[]:=by unfold plc;simpa using hne
 unfold zus;rw[beq_iff_eq];constructor
 ·intro h;obtain ⟨hlo,hlo'⟩:=zg0 (plc s P) hpn;obtain ⟨hhi,hhi'⟩:=zgj (plc s P) hpn;obtain ⟨g0,hg0,e0⟩:=List.mem_map.mp hlo;refine ⟨s.take (s.idxOf g0),(s.drop (s.idxOf g0)).take P.length,s.drop (s.idxOf g0+P.length),?_,?_⟩
  ·rw[List.append_assoc,<- List.drop_drop,List.take_append_drop,List.take_append_drop]
  ·refine (zf4 P _ hP (λg hg=>?_) (by rw[List.length_take];lia)).symm;have h1:=hlo' _ (List.mem_map_of_mem (f:=λx=>((s.idxOf x:Nat):Int)) hg);have h2:=hhi' _ (List.mem_map_of_mem (f:=λx=>((s.idxOf x:Nat):Int)) hg);have hl:=List.idxOf_lt_length_of_mem (hsub g hg);have hP1:0<P.length:=List.length_pos_of_mem hg;have:((s.drop (s.idxOf g0)).take P.length)[s.idxOf g-s.idxOf g0]? = some g:=by rw[List.getElem?_take_of_lt xwl,List.getElem?_drop,show s.idxOf g0+(s.idxOf g-s.idxOf g0)=s.idxOf g by lia,List.getElem?_eq_getElem hl,List.getElem_idxOf]
   exact waH this
 ·rintro ⟨u,x,v,e,hx⟩;have hxn:x≠[]:=λz=>hne (by subst z;exact hx.symm.eq_nil);obtain ⟨z,x',rfl⟩:=waI hxn;have hin:∀ g∈P,(u.length:Int)<=(s.idxOf g:Nat)/\((s.idxOf g:Nat):Int)<=u.length+(P.length:Int)-1:=λg hg=>by have:=zdD hs e (hx.mem_iff.mpr hg);have:=hx.length_eq;lia
  have at_:∀ i,i<(z::x').length->∃ g∈P,s.idxOf g=u.length+i:=λi hi=>by
   refine ⟨(z::x')[i],hx.mem_iff.mp (List.getElem_mem hi),?_⟩;have hg:s[u.length+i]? = some (z::x')[i]:=by rw[e,List.append_assoc,List.getElem?_append_right xwl,show u.length+i-u.length=i by lia,List.getElem?_append_left hi,List.getElem?_eq_getElem hi]
   have hl:u.length+i<s.length:=(wam.mp hg).1;have h9:=(wam.mp hg).2;rw[<- h9];exact hs.idxOf_getElem (u.length+i) hl
  have hlen:=hx.length_eq;obtain ⟨g1,hg1,e1⟩:=at_ 0 xws;obtain ⟨g2,hg2,e2⟩:=at_ (P.length-1) (by rw[hlen];have:=List.length_pos_of_mem hg1;lia);have hP1:=List.length_pos_of_mem hg1;have hmin:(u.length:Int)=zlT (plc s P):=zr1 (by
   refine List.mem_map.mpr ⟨g1,hg1,?_⟩;rw[e1];rfl) λa ha=>by
   obtain ⟨g,hg,rfl⟩:=List.mem_map.mp ha;exact (hin g hg).1
  have hmax:(u.length:Int)+P.length-1=zlI (plc s P):=zr9 (by
   refine List.mem_map.mpr ⟨g2,hg2,?_⟩;rw[e2];lia) λa ha=>by
   obtain ⟨g,hg,rfl⟩:=List.mem_map.mp ha;exact (hin g hg).2
  rw[<- hmin,<- hmax];lia
noncomputable def zao(b:Tr):Int:=(zaT (zac b)).headD 0
theorem zcJ{b:Tr}(h:zac b≠[]):zao b∈zac b:=by unfold zao;have hn:zaT (zac b)≠[]:=λz=>h (by have:=zaB (zac b);rw[z] at this;exact this.symm.eq_nil);obtain ⟨g,r,e⟩:=waI hn;rw[e];exact (zaB _).mem_iff.mp (by rw[e];exact wau)
noncomputable def Seg(t:Tr)(s:List Int):Prop:=∃ u x v,s=u++x++v/\x∈zap t
noncomputable def zjk(t:Tr)(s:List Int):Bool:=@decide (Seg t s) (Classical.propDecidable _)
theorem zdR{t:Tr}{s:List Int}:zjk t s=true ↔ Seg t s:=by unfold zjk;rw[@decide_eq_true_iff _ (Classical.propDecidable _)]
noncomputable def zjA(l:List Int):Bool:=l == zaT l || l == (zaT l).reverse
noncomputable def zla(s:List Int)(b:Tr):Int:=((s.idxOf (zao b):Nat):Int)
theorem zrs{α:Type}{f:α->Int}:∀{l:List α},(l.map f).Pairwise (· < ·)->∀ t∈l,∀ u∈l,f t=f u->t=u
 |[],_,t,ht,_,_,_=>by cases ht
 |a::l,h,t,ht,u,hu,e=>by
  rw[List.map_cons,List.pairwise_cons] at h;rcases wap.mp ht with e1|ht' <;> rcases wap.mp hu with e2|hu'
  ·rw[e1,e2]
  ·subst e1;have:=h.1 _ (List.mem_map_of_mem (f:=f) hu');lia
  ·subst e2;have:=h.1 _ (List.mem_map_of_mem (f:=f) ht');lia
  ·exact zrs h.2 t ht' u hu' e
theorem ziM{α:Type}{f:α->Int}:∀{a b:List α},(∀ t∈a,∀ u∈b,f t=f u->t=u)->a.map f=b.map f->a=b
 |[],[],_,_=>rfl
 |[],_::_,_,h=>by simp at h
 |_::_,[],_,h=>by simp at h
 |x::a,y::b,hi,h=>by rw[List.map_cons,List.map_cons] at h;obtain ⟨h1,h2⟩:=List.cons.inj h;rw[hi x List.mem_cons_self y List.mem_cons_self h1,ziM (λt ht u hu=>hi t (List.mem_cons_of_mem _ ht) u (List.mem_cons_of_mem _ hu)) h2]
theorem zmp{s:List Int}{bs p:List Tr}(order:(p.map (zla s)).Pairwise (· < ·))(pm:p.Perm bs):zjA (bs.map (zla s))=true ↔ p=bs\/p=bs.reverse:=by
 have hs:zaT (bs.map (zla s))=p.map (zla s):=W.lks_uniq ((zaB _).trans (pm.symm.map _)) (zcI _) (order.imp λh=>by lia);have inj:=zrs order;unfold zjA;rw[hs,Bool.or_eq_true,beq_iff_eq,beq_iff_eq,<- List.map_reverse];constructor
 ·rintro (h|h)
  ·left;exact (ziM (λt ht u hu e=>inj t (pm.mem_iff.mpr ht) u hu e) h).symm
  ·right;have:=ziM (λt ht u hu e=>inj t (pm.mem_iff.mpr ht) u (List.mem_reverse.mp hu) e) h;rw[this,List.reverse_reverse]
 ·rintro (rfl|rfl)
  ·left;rfl
  ·right;rw[List.reverse_reverse]
theorem zrl{r:Bool}{bs:List Tr}{s:List Int}(A:zfx bs)(hne:bs≠[])(hs:s.Nodup)(hsub:∀ g∈zaf bs,g∈s) :
  Seg (.nd r bs) s ↔ zus s (zaT (zaf bs))=true/\(r=true->zjA (bs.map (zla s))=true)/\∀ b∈bs,Seg b s:=by
 have hpm:=zaB (zaf bs);have hLne:zaf bs≠[]:=by obtain ⟨b,t,rfl⟩:=waI hne;intro z;rw[zaf] at z;exact A.ne b wau (List.append_eq_nil_iff.mp z).1
 have hsits:=zrm (s:=s) (P:=zaT (zaf bs)) hs (hpm.symm.nodup A.nd) (λz=>hLne (by rw[z] at hpm;exact hpm.symm.eq_nil)) λg hg=>hsub g (hpm.mem_iff.mp hg);have hl:∀ p:List Tr,(∀ t∈p,t∈bs)->∀ b∈p,zao b∈zac b:=λp hp b hb=>zcJ (A.ne b (hp b hb));constructor
 ·rintro ⟨u,x,v,e,hx⟩;obtain ⟨p,hp,ys,h1,rfl⟩:=zaQ.mp hx;have pm:=zau hp;have pb:∀ t∈p,t∈bs:=λt ht=>pm.mem_iff.mp ht;refine ⟨hsits.mpr ⟨u,ys.flatten,v,e,(zal hx).trans (by rw[zac];exact hpm.symm)⟩,λhr=>?_,?_⟩
  ·subst hr;refine (zmp (zeb (f:=zao) hs e h1 (hl p pb)).1 pm).mpr ?_;simpa [arr] using hp
  ·have seg:∀(p:List Tr)(ys:List (List Int))(u v:List Int),s=u++ys.flatten++v->Paired (λy t=>y∈zap t) ys p->∀ b∈p,Seg b s:=by
    intro p
    induction p with
    |nil=>intro ys u v _ _ b hb;cases hb
    |cons c p ih =>
     intro ys u v e h b hb;cases h with
     |@cons y _ ys _ h t =>
      rw[List.flatten_cons] at e;rcases wap.mp hb with rfl|hb
      ·exact ⟨u,y,ys.flatten++v,by rw[e];simp,h⟩
      ·exact ih ys (u++y) v (by rw[e];simp) t b hb
   exact λb hb=>seg p ys u v e h1 b (pm.mem_iff.mpr hb)
 ·rintro ⟨h1,h2,h3⟩;obtain ⟨u,x,v,e,hx⟩:=hsits.mp h1;have hx':x.Perm (zaf bs):=hx.trans hpm;obtain ⟨p,pm,hM⟩:=zlB _ bs x rfl A hx' λb hb=>by obtain ⟨a,y,c,e',hy⟩:=h3 b hb;have hyp:=zal hy;obtain ⟨a2,c2,e2⟩:=zlF (u:=u) (x:=x) (v:=v) (a:=a) (y:=y) (b:=c) (by rw[<- e];exact hs) (e.symm.trans e') (λg hg=>hx'.mem_iff.mpr (zbe.mpr ⟨b,hb,hyp.mem_iff.mp hg⟩)) (λz=>A.ne b hb (by subst z;exact hyp.symm.eq_nil));exact ⟨a2,y,c2,e2,hy⟩
  refine ⟨u,x,v,e,zaQ.mpr ⟨p,?_,hM⟩⟩;cases r with
  |false=>exact (zc2 _ _ _ rfl).mpr pm
  |true =>
   obtain ⟨ys,h4,h5⟩:=hM;have:=(zmp (zeb (f:=zao) hs (by rw[h5];exact e) h4 (hl p λt ht=>pm.mem_iff.mp ht)).1 pm).mp (h2 rfl);simpa [arr] using this
theorem zop{t:Tr}{s:List Int}(h:s.Perm (zac t)):Seg t s ↔ s∈zap t:=by
 constructor
 ·rintro ⟨u,x,v,e,hx⟩;have h1:=(zal hx).length_eq;have h2:=h.length_eq;rw[e,List.length_append,List.length_append] at h2;have hu:u=[]:=List.length_eq_zero_iff.mp xwl;have hv:v=[]:=List.length_eq_zero_iff.mp xwl;rw[e,hu,hv,List.nil_append,List.append_nil];exact hx
 ·exact λhx=>⟨[],s,[],xws,hx⟩
theorem zo1{r:Bool}{bs:List Tr}{Z:Ev}(h:zab 0 Z=.ok (toD (.nd r bs),Z)):dIt (dOp gIx (zab 0) (dC (.int 1))) Z=.ok (bs.map toD,Z):=by unfold dIt;rw[zlX h,zce];rfl
theorem zrC{t:Tr}{Z:Ev}{f:DS}(h:zab 0 Z=.ok (toD t,Z)):dIf (dTB (zag zaI (dR (zab 0) dR0))) f dNx Z=if zwT t=true then f Z else .ok (.nx,Z):=by
 have e:=zaP (zb8 h (zfh t));cases hl:zwT t with
 |true=>rw[hl] at e;rw[zfJ e];rfl
 |false=>rw[hl] at e;rw[zc3 e];rfl
theorem zkt{F:FD}{r:Bool}{bs:List Tr}(IH:∀ b∈bs,F [.val (toD b)]=.ok (.lst ((zac b).map .int),[.val .non]))(hl:(zaf bs).length<=1000):zay false [false] 2 (zdn F) [.val (toD (.nd r bs))]=.ok (.lst ((zaf bs).map .int),[.val .non]):=by
 let T:Option B:=some (.val (toD (.nd r bs)));let Z0:Ev:=[T,none,none]
 let Z1:Ev:=[T,some (.own []),none]
 obtain ⟨Z',⟨o',rfl⟩,e⟩:=zbh (u:=toD) (l:=bs) (g:=zbv 2) (body:=dEx (zfO 1 (zag F (dR (zab 2) dR0)))) (Z:=Z1) (I:=λdn Z=>∃ o',Z=[T,some (.own ((zaf dn).map .int)),o']) (zo1 (Z:=Z1) (r:=r) rfl) rfl ⟨none,rfl⟩
  (λdn b zaX e Z ⟨o',hρ⟩=>by
   subst hρ;have hb:b∈bs:=by rw[e];simp
   let r1:Ev:=[T,some (.own ((zaf dn).map .int)),some (.val (toD b))]
   have hlen:(zaf dn).length+(zac b).length<=1000:=by rw[e,zaL,List.flatMap_append,List.length_append,List.flatMap_cons,List.length_append] at hl;rw[zaL];lia
   refine ⟨r1,_,rfl,zfi (zmo (Z1:=r1) (l:=(zac b).map .int) rfl (zb8 (Z':=r1) (d:=toD b) rfl (IH b hb)) rfl rfl (by simp only[wag];lia)),some (.val (toD b)),?_⟩;show [T,some (B.own ((zaf dn).map Dt.int++(zac b).map Dt.int)),_]=_;rw[<- List.map_append];have:zaf (dn++[b])=zaf dn++zac b:=by rw[zaL,List.flatMap_append,zaL];simp
   rw[this])
 refine zan (Z':=[T,some (.val (.lst ((zaf bs).map .int))),o']) rfl ?_ rfl;show zaG (dIf (dTB (zag zaI (dR (zab 0) dR0))) (zaV (dFz (zdm (dA (zab 0) dA0)))) dNx) (zaG (zcN 1 (zdm dA0)) (zaG (zfV (dIt (dOp gIx (zab 0) (dC (.int 1)))) (zbv 2) (dEx (zfO 1 (zag F (dR (zab 2) dR0))))) (zaV (zlt 1)))) Z0=_;rw[zaj (zrC (t:=.nd r bs) (Z:=Z0) rfl),zaj (Z1:=Z1) rfl,zaj e];rfl
theorem zd7:∀(n:Nat)(t:Tr),dep t<=n->(zac t).length<=1000->zba n [.val (toD t)]=.ok (.lst ((zac t).map .int),[.val .non])
 |0,t,h,_=>by cases t <;> simp[dep] at h
 |n+1,.lf g,_,_=>by rw[toD,zac];exact zan (d:=.lst [.int g]) (Z':=[some (.val (.int g)),none,none]) rfl rfl rfl
 |n+1,.nd r bs,h,hl=>by simp only[dep] at h;rw[zac] at hl ⊢;exact zkt (F:=zba n) (λb hb=>zd7 n b (zaW.mp (by lia:zcM bs<=n) b hb) (by have:=zcW hb;lia)) hl
theorem zgS{t:Tr}(h:dep t<=8)(hl:(zac t).length<=6):zaU [.val (toD t)]=.ok (.lst ((zaT (zac t)).map .int),[.val .non]):=by
 let Z:Ev:=[some (.val (toD t))]
 refine zan (Z':=Z) rfl ?_ rfl;have a0:zab 0 Z=.ok (toD t,Z):=rfl;exact zb5 (zaZ (zf6 (zb8 a0 (zd7 8 t h xwl)) (zi1 xwl)))
theorem zmk(x:Int):∀{l:List Int},x∈l->zk9 (.int x) (l.map .int)=some (l.idxOf x)
 |[],h=>by simp at h
 |a::r,h=>by
  rw[List.map_cons,zk9,eqI];by_cases e:a=x
  ·subst e;simp
  ·have hx:x∈r:=by
    rcases wap.mp h with rfl|h
    ·exact absurd rfl e
    ·exact h
   rw[if_neg (by simpa using e),zmk x hx,List.idxOf_cons];have:(a == x)=false:=by simpa using e
   rw[this];rfl
theorem znH{fa fb:De}{Z Z1 Z2:Ev}{s:List Int}{g:Int}(h:fa Z=.ok (tz s,Z1))(h2:fb Z1=.ok (.int g,Z2))(hg:g∈s):zks fa fb Z=.ok (.int ((s.idxOf g:Nat):Int),Z2):=by unfold zks;rw[h];show ((fb Z1).bind λb=>if (okN 60 b.1 && (s.map Dt.int).all (okN 60))=true then (match zk9 b.1 (s.map Dt.int) with|some j=>R.ok (Dt.int j,b.2)|none=>.no) else .no)=_;rw[h2];simp only[R.bind_ok];rw[if_pos (by rw[List.all_eq_true.mpr zsA];rfl),zmk g hg]
theorem zn5{l:List Int}(h:l≠[]):zkk [.lst (l.map .int)]=.ok (.int (zlI l))/\zj8 [.lst (l.map .int)]=.ok (.int (zlT l)):=by
 unfold zkk zj8;simp only[zrZ];cases l with
 |nil=>exact absurd rfl h
 |cons a r=>exact ⟨rfl,rfl⟩
theorem znJ{row p:List Int}(hp:∀ x∈p,x∈row)(hne:p≠[])(hl:p.length<=1000):zjg [.val (tz row),.val (.lst (p.map .int))]=.ok (.bl (zus row p),[.val .non,.val .non]):=by
 let Z0:Ev:=[some (.val (tz row)),some (.val (.lst (p.map .int))),none]
 let Z1:Ev:=[some (.val (tz row)),some (.val (.lst (p.map .int))),some (.val (.lst ((plc row p).map .int)))]
 have hc:zbQ (dIt (zab 1)) (zbv 3) dTT (zks (zab 0) (zab 3)) 1 Z0=.ok (p.map λx=>.int (row.idxOf x:Int),Z0) :=
  zbH (l:=p) (u:=.int) (f:=λx=>.int (row.idxOf x:Int)) (ds:=p.map .int) rfl rfl hl (λx hx=>by have a0:zab 0 (Z0++[some (.val (.int x))])=.ok (tz row,Z0++[some (.val (.int x))]):=rfl;have a3:zab 3 (Z0++[some (.val (.int x))])=.ok (.int x,Z0++[some (.val (.int x))]):=rfl;exact znH a0 a3 (hp x hx)) rfl
 have e1:zbo 2 (dFz (zbQ (dIt (zab 1)) (zbv 3) dTT (zks (zab 0) (zab 3)) 1)) Z0=.ok (.nx,Z1):=by refine (zbl (i:=2) (zaZ hc) (by simp[Z0])).trans ?_;simp[Z0,Z1,plc]
 have hne':plc row p≠[]:=by unfold plc;simpa using hne
 refine zan (Z':=Z1) rfl ?_ rfl;show zo6 Z0=_;unfold zo6;rw[zaj e1];have a1:zab 1 Z1=.ok (.lst (p.map .int),Z1):=rfl;have a2:zab 2 Z1=.ok (.lst ((plc row p).map .int),Z1):=rfl;have l1:dFn zdv (dA (zab 1) dA0) Z1=.ok (.int (p.length:Nat),Z1):=zeI a1 (by show R.ok (Dt.int ((p.map Dt.int).length:Nat))=_;rw[List.length_map]);refine zb5 (za4 (za4 (zeI a2 (zn5 hne').1) (zeI a2 (zn5 hne').2) rfl) (za4 l1 rfl rfl) ?_);rw[zwI];rfl
theorem zpO{l:List Int}(h:l.length<64):zeK [.lst (l.map .int)]=.ok ((zaT l).reverse.map .int):=by unfold zeK;simp only[ziq,h,if_true]
theorem znR{l:List Int}(h:l.length<64):zjb [.val (.lst (l.map .int))]=.ok (.bl (zjA l),[.val .non]):=by
 let Z:Ev:=[some (.val (.lst (l.map .int)))]
 refine zan (Z':=Z) rfl ?_ rfl;have a0:zab 0 Z=.ok (.lst (l.map .int),Z):=rfl;have e1:dOp (gEq false) (zab 0) (dFz (zf9 zel (dA (zab 0) dA0))) Z=.ok (.bl (l == zaT l),Z):=za4 a0 (zaZ (zf6 a0 (zi1 h))) (by rw[zbA (zhO _) (zhO _),zsV];rfl);have e2:dOp (gEq false) (zab 0) (dFz (zf9 zeK (dA (zab 0) dA0))) Z=.ok (.bl (l == (zaT l).reverse),Z):=za4 a0 (zaZ (zf6 a0 (zpO h))) (by rw[zbA (zhO _) (zhO _),zsV];rfl);refine zb5 ?_;show dOr _ _ Z=_;unfold dOr zjA;rw[e1];simp only[R.bind_ok];cases l == zaT l with
 |true=>rfl
 |false=>exact e2
noncomputable abbrev ztN:DN:=zbQ (dIt (dOp gIx (zab 0) (dC (.int 1)))) (zbv 3) dTT (zks (zab 1) (dOp gIx (zag zaU (dR (zab 3) dR0)) (dC (.int 0)))) 1
noncomputable abbrev zw6(F:FD):DN:=zbQ (dIt (dOp gIx (zab 0) (dC (.int 1)))) (zbv 3) dTT (zag F (dR (zab 3) (dR (zab 1) dR0))) 1
noncomputable abbrev zpR:DS:=dIf (zcK (dTB (zag zjg (dR (zab 1) (dR (zag zaU (dR (zab 0) dR0)) dR0))))) (zaV (dC (.bl false))) dNx
noncomputable abbrev zt4:DS:=dIf (dTB (dOp (gEq false) (dOp gIx (zab 0) (dC (.int 0))) (dC (.str (Str.ofString "row"))))) (zaG (zbo 2 (dFz ztN)) (dIf (zcK (dTB (zag zjb (dR (zab 2) dR0)))) (zaV (dC (.bl false))) dNx)) dNx
theorem zfb(F:FD):zg4 F=zaG (dIf (dTB (zag zaI (dR (zab 0) dR0))) (zaV (dC (.bl true))) dNx) (zaG zpR (zaG zt4 (zaV (dFn zmw (dA (dFz (zw6 F)) dA0))))):=rfl
theorem zmx{F:FD}{r:Bool}{bs:List Tr}{s:List Int}(N:Nod r bs)(hd:dep (.nd r bs)<=8)(hne:bs≠[])(hs:s.Nodup)(hsub:∀ g∈zaf bs,g∈s)(IH:∀ b∈bs,F [.val (toD b),.val (tz s)]=.ok (.bl (zjk b s),[.val .non,.val .non])) :
  zay false [false,false] 1 (zg4 F) [.val (toD (.nd r bs)),.val (tz s)]=.ok (.bl (zjk (.nd r bs) s),[.val .non,.val .non]):=by
 have hk:=zrl (r:=r) N.A hne hs hsub;have hl6:(zac (.nd r bs)).length<=6:=by rw[zac];exact N.l
 have hb6:∀ b∈bs,(zac b).length<=6:=λb hb=>by have:=zcW hb;have:=N.l;lia
 let T:Option B:=some (.val (toD (.nd r bs)));let S:Option B:=some (.val (tz s));let Z0:Ev:=[T,S,none]
 have v0:∀ o,zab 0 [T,S,o]=.ok (toD (.nd r bs),[T,S,o]):=λ_=>rfl;have v1:∀ o,zab 1 [T,S,o]=.ok (tz s,[T,S,o]):=λ_=>rfl;have hpm:=zaB (zaf bs);have hsn:zaT (zaf bs)≠[]:=λz=>by obtain ⟨b,t,rfl⟩:=waI hne;rw[z] at hpm;have:=hpm.symm.eq_nil;rw[zaf] at this;exact N.A.ne b wau (List.append_eq_nil_iff.mp this).1
 have hsit:zcK (dTB (zag zjg (dR (zab 1) (dR (zag zaU (dR (zab 0) dR0)) dR0)))) Z0=.ok (!zus s (zaT (zaf bs)),Z0):=by have e1:=zgS (t:=.nd r bs) hd hl6;rw[zac] at e1;exact zdZ (zaP (zgv (v1 _) (zb8 (v0 _) e1) (znJ (λx hx=>hsub x (hpm.mem_iff.mp hx)) hsn (by rw[hpm.length_eq];have:=N.l;lia))))
 have x0:dIf (dTB (zag zaI (dR (zab 0) dR0))) (zaV (dC (.bl true))) dNx Z0=.ok (.nx,Z0):=zrC (t:=.nd r bs) (v0 _);have fin:∀(o:Option B)(v:Bool),v=zjk (.nd r bs) s->zg4 F Z0=.ok (.rt (.bl v),[T,S,o])->zay false [false,false] 1 (zg4 F) [.val (toD (.nd r bs)),.val (tz s)]=.ok (.bl (zjk (.nd r bs) s),[.val .non,.val .non]):=λo v hv e=>by rw[<- hv];exact zan (Z':=[T,S,o]) rfl e rfl
 have hno:(¬ Seg (.nd r bs) s)->false=zjk (.nd r bs) s:=λh=>by
  cases e:zjk (.nd r bs) s with
  |false=>rfl
  |true=>exact absurd (zdR.mp e) h
 cases h1:zus s (zaT (zaf bs)) with
 |false =>
  rw[h1] at hsit;refine fin none false (hno λz=>by rw[(hk.mp z).1] at h1;cases h1) ?_;rw[zfb,zaj x0];exact zeo (by rw[show zpR Z0=_ from zfJ hsit];rfl)
 |true =>
  rw[h1] at hsit;have x1:zpR Z0=.ok (.nx,Z0):=by rw[show zpR Z0=_ from zc3 hsit];rfl
  have hcomp:ztN Z0=.ok (bs.map λb=>Dt.int (zla s b),Z0):=zbH (u:=toD) (f:=λb=>Dt.int (zla s b)) (l:=bs) (zo1 (v0 _)) rfl (by have:=N.k;lia) (λb hb=>by
   have a1:zab 1 (Z0++[some (.val (toD b))])=.ok (tz s,Z0++[some (.val (toD b))]):=rfl;have a3:zab 3 (Z0++[some (.val (toD b))])=.ok (toD b,Z0++[some (.val (toD b))]):=rfl;have hbn:=N.A.ne b hb;have hin:zao b∈zac b:=zcJ hbn;have hix:gIx (.lst ((zaT (zac b)).map .int)) (.int 0)=.ok (.int (zao b)):=by have hn:zaT (zac b)≠[]:=λz=>hbn (by have:=zaB (zac b);rw[z] at this;exact this.symm.eq_nil);obtain ⟨g,t,e⟩:=waI hn;unfold zao;rw[e];unfold gIx;rw[List.map_cons];simp only[zi0];rfl
   exact znH a1 (za4 (zb8 a3 (zgS (N.d b hb) (hb6 b hb))) rfl hix) (hsub _ (zbe.mpr ⟨b,hb,hin⟩))) rfl
  have hall:∀ o,dFn zmw (dA (dFz (zw6 F)) dA0) [T,S,o]=.ok (.bl (bs.all λb=>zjk b s),[T,S,o]):=λo=>by
   have hc:zw6 F [T,S,o]=.ok (bs.map λb=>Dt.bl (zjk b s),[T,S,o]):=zbH (u:=toD) (f:=λb=>Dt.bl (zjk b s)) (l:=bs) (zo1 (v0 _)) rfl (by have:=N.k;lia) (λb hb=>by have a1:zab 1 ([T,S,o]++[some (.val (toD b))])=.ok (tz s,[T,S,o]++[some (.val (toD b))]):=rfl;have a3:zab 3 ([T,S,o]++[some (.val (toD b))])=.ok (toD b,[T,S,o]++[some (.val (toD b))]):=rfl;exact zgv a3 a1 (IH b hb)) rfl
   exact zeI (zaZ hc) (zse (λb=>zjk b s) bs)
  have hyes:(r=true->zjA (bs.map (zla s))=true)->(bs.all λb=>zjk b s)=zjk (.nd r bs) s:=λh2=>by rw[Bool.eq_iff_iff,List.all_eq_true,zdR,hk];exact ⟨λh=>⟨h1,h2,λb hb=>zdR.mp (h b hb)⟩,λh b hb=>zdR.mpr (h.2.2 b hb)⟩
  cases r with
  |false =>
   refine fin none _ (hyes λz=>by cases z) ?_;have x2:zt4 Z0=.ok (.nx,Z0):=by rw[show zt4 Z0=_ from zc3 (zi4 (v0 _))];rfl
   rw[zfb,zaj x0,zaj x1,zaj x2];exact zb5 (hall none)
  |true =>
   let P:Option B:=some (.val (.lst ((bs.map (zla s)).map .int)));let Z1:Ev:=[T,S,P]
   have y1:zbo 2 (dFz ztN) Z0=.ok (.nx,Z1):=by refine (zbl (i:=2) (zaZ hcomp) (by simp[Z0])).trans ?_;show R.ok (Fl.nx,[T,S,some (B.val (.lst (bs.map λb=>Dt.int (zla s b))))])=_;rw[show (bs.map λb=>Dt.int (zla s b))=(bs.map (zla s)).map Dt.int by rw[List.map_map];rfl]
   have a2:zab 2 Z1=.ok (.lst ((bs.map (zla s)).map .int),Z1):=rfl;have y2:zcK (dTB (zag zjb (dR (zab 2) dR0))) Z1=.ok (!zjA (bs.map (zla s)),Z1):=zdZ (zaP (zb8 a2 (znR (by rw[List.length_map];have:=N.k;lia))));cases h2:zjA (bs.map (zla s)) with
   |false =>
    rw[h2] at y2;refine fin P false (hno λz=>by rw[(hk.mp z).2.1 rfl] at h2;cases h2) ?_;have x2:zt4 Z0=.ok (.rt (.bl false),Z1):=by rw[show zt4 Z0=_ from zfJ (zi4 (v0 _)),zaj y1,zfJ y2];rfl
    rw[zfb,zaj x0,zaj x1];exact zeo x2
   |true =>
    rw[h2] at y2;refine fin P _ (hyes λ_=>h2) ?_;have x2:zt4 Z0=.ok (.nx,Z1):=by rw[show zt4 Z0=_ from zfJ (zi4 (v0 _)),zaj y1,zc3 y2];rfl
    rw[zfb,zaj x0,zaj x1,zaj x2];exact zb5 (hall P)
theorem zh4{s:List Int}(hs:s.Nodup):∀(n:Nat)(t:Tr),dep t<=n->dep t<=8->okT t=true->(zac t).Nodup->(zac t).length<=6->(∀ g∈zac t,g∈s)->zfs n [.val (toD t),.val (tz s)]=.ok (.bl (zjk t s),[.val .non,.val .non])
 |0,t,h,_,_,_,_,_=>by cases t <;> simp[dep] at h
 |n+1,.lf g,_,_,_,_,_,hg=>by
  have:zjk (.lf g) s=true:=zdR.mpr (by obtain ⟨u,v,e⟩:=List.append_of_mem (hg g (by rw[zac];exact wau));exact ⟨u,[g],v,by rw[e];simp,by rw[zap];exact wau⟩)
  rw[this,toD];exact zan (Z':=[some (.val (.int g)),some (.val (tz s)),none]) rfl rfl rfl
 |n+1,.nd r bs,h,h8,ho,hn,h6,hg=>by
  have hh:=zcV h ho hn;have hd8:∀ b∈bs,dep b<=8:=λb hb=>by have h8':=h8;simp only[dep] at h8';have:=zaW.mp (wal (zcM bs)) b hb;lia
  have hk:bs.length<=6:=by have:=zgV bs (wal _) (by rw[okT,Bool.and_eq_true] at ho;exact ho.2);rw[zac] at h6;lia
  have hbne:bs≠[]:=λz=>by subst z;rw[okT] at ho;cases r <;> simp at ho
  rw[zac] at h6 hg;refine zmx (F:=zfs n) ⟨hh.1,hd8,hk,h6⟩ h8 hbne hs hg λb hb=>?_;obtain ⟨h1,h2,h3⟩:=hh.2 b hb;exact zh4 hs n b h1 (hd8 b hb) h2 h3 (by have:=zcW hb;lia) λg hg'=>hg g (zbe.mpr ⟨b,hb,hg'⟩)
theorem zmd{x y z:Dt}{bs:List B}:∀{Z:Ev}{k:Nat},zhm [.d x,.d y,.d z] bs k Z = Z
 |[],_=>rfl
 |o::r,k=>by show (match zdJ [.d x,.d y,.d z] k with|some j=>bs[j]?|none=>o)::zhm [.d x,.d y,.d z] bs (k+1) r=_;rw[zmd (Z:=r)];rfl
section
variable{F:FD}{fa fb fc:De}{Z Z1 Z2 Z3:Ev}{d e g y:Dt}{l:List B}{n:Nat}
theorem znw(h:fa Z=.ok (d,Z1))(h2:fb Z1=.ok (e,Z2))(h3:fc Z2=.ok (g,Z3))(hF:F [.val d,.val e,.val g]=.ok (y,l)):zag F (dR fa (dR fb (dR fc dR0))) Z=.ok (y,Z3):=by unfold zag dR dR0;rw[h];simp only[R.bind_ok,h2,h3,znk,zbi,if_true,za6,hF];rw[zmd]
end
theorem zlg{fa:De}{Z Z1:Ev}{n:Nat}(h:fa Z=.ok (.int n,Z1))(hn:n<=1000):zi9 fa Z=.ok ((zbk n).map .int,Z1):=by
 have hc:(0:Int)<=n/\(n:Int)<=16777216:=by lia
 unfold zi9;rw[h];show (if 0<=(n:Int)/\(n:Int)<=16777216 then R.ok (zdl 0 (n:Int).toNat,Z1) else .no)=_;rw[if_pos hc,Int.toNat_natCast,zqO]
structure Tn(n:Nat)(t:Tr):Prop where
 n1:1<=n
 n6:n<=6
 d:dep t<=8
 o:okT t=true
 p:(zac t).Perm (zbk n)
theorem Tn.nd{n:Nat}{t:Tr}(h:Tn n t):(zac t).Nodup:=h.p.symm.nodup (zcy n)
theorem Tn.l{n:Nat}{t:Tr}(h:Tn n t):(zac t).length<=6:=by rw[h.p.length_eq,zcf];exact h.n6
theorem zsW{n:Nat}{s:List Int}(h1:1<=n)(h7:n<=6)(hp:s.Perm (zbk n)):zct [.val (.int n),.val (tz s)]=.ok (.bl true,[.val .non,.val .non]):=by
 let Z:Ev:=[some (.val (.int n)),some (.val (tz s))]
 have hl:s.length=n:=by rw[hp.length_eq,zcf]
 have a0:zab 0 Z=.ok (.int n,Z):=rfl;have a1:zab 1 Z=.ok (tz s,Z):=rfl;refine zan (Z':=Z) rfl ?_ rfl;show zaG (dEx (zag za7 (dR (zab 0) dR0))) (zaV (zkw (zag zcq (dR (zab 0) (dR (zab 1) dR0))) (dOp (gEq false) (dFz (zf9 zeJ (dA (zab 1) dA0))) (dFz (zi9 (zab 0)))))) Z=_;rw[zaj (zfi (zb8 a0 (zfX xwl xwl)))];have hare:zcq [.val (.int n),.val (tz s)]=.ok (.bl true,[.val .non,.val .non]):=by
  refine zan (Z':=Z) rfl ?_ rfl;show zaV (zkw (zsh "tuple" (zab 1)) (dFn zmw (dA (dFz (zbQ (dIt (zab 1)) (zbv 2) dTT (zag zbw (dR (zab 0) (dR (zab 2) dR0))) 1)) dA0))) Z=_;refine zb5 ?_;have hc:zbQ (dIt (zab 1)) (zbv 2) dTT (zag zbw (dR (zab 0) (dR (zab 2) dR0))) 1 Z=.ok (s.map λx=>Dt.bl true,Z):=zbH (u:=Dt.int) (f:=λ_=>Dt.bl true) (l:=s) (ds:=s.map .int) rfl rfl xwl (λx hx=>by have b0:zab 0 (Z++[some (.val (.int x))])=.ok (.int n,Z++[some (.val (.int x))]):=rfl;have b2:zab 2 (Z++[some (.val (.int x))])=.ok (.int x,Z++[some (.val (.int x))]):=rfl;have hx':=zdP.mp (hp.mem_iff.mp hx);have e:=znc n (.int x);rw[show isG n (.int x)=true by show (decide (0<=x) && decide (x<(n:Int)))=true;rw[decide_eq_true hx'.1,decide_eq_true hx'.2];rfl] at e;exact zgv b0 b2 e) rfl
  have hall:=zeI (g:=zmw) (zaZ hc) (zse (λ_=>true) s);unfold zkw;rw[show zsh "tuple" (zab 1) Z=.ok (.bl true,Z) from rfl];simp only[R.bind_ok];rw[hall];simp
 refine zb5 ?_;unfold zkw;rw[zgv a0 a1 hare];simp only[R.bind_ok];refine za4 (zaZ (zf6 a1 (zqg xwl))) (zaZ (zlg a0 xwl)) ?_;rw[zbA (zhO _) (zhO _),zsV];have:zaT s=zbk n:=zmX.mpr ⟨hp.symm.nodup (zcy n),λx hx=>zdP.mp (hp.mem_iff.mp hx),hl⟩;rw[this];simp
theorem zmf{n:Nat}{t:Tr}{s:List Int}(H:Tn n t)(hp:s.Perm (zbk n)):zb9 [.val (.int n),.val (toD t),.val (tz s)]=.ok (.bl (decide (s∈zap t)),[.val .non,.val .non,.val .non]):=by
 let Z:Ev:=[some (.val (.int n)),some (.val (toD t)),some (.val (tz s))]
 have a0:zab 0 Z=.ok (.int n,Z):=rfl;have a1:zab 1 Z=.ok (toD t,Z):=rfl;have a2:zab 2 Z=.ok (tz s,Z):=rfl;refine zan (Z':=Z) rfl ?_ rfl;show zaV (zkw (zag zct (dR (zab 0) (dR (zab 2) dR0))) (zag (zfs 8) (dR (zab 1) (dR (zab 2) dR0)))) Z=_;refine zb5 ?_;unfold zkw;rw[zgv a0 a2 (zsW H.n1 H.n6 hp)];simp only[R.bind_ok];have e:=zh4 (hp.symm.nodup (zcy n)) 8 t H.d H.d H.o H.nd H.l λg hg=>hp.mem_iff.mpr (H.p.mem_iff.mp hg);have hv:zjk t s=decide (s∈zap t):=by rw[Bool.eq_iff_iff,zdR,decide_eq_true_eq];exact zop (hp.trans H.p.symm)
 rw[hv] at e;exact zgv a1 a2 e
noncomputable def due(t:Tr):List (List Int):=zfo (zap t)
theorem zep{t:Tr}{s:List Int}:s∈due t ↔ s∈zap t:=(zbb _).mem_iff
theorem zko{n:Nat}{t:Tr}(H:Tn n t):(due t).Nodup:=(zbb _).symm.nodup (zbF _ t (wal _) H.o H.nd)
theorem zpk{n:Nat}{t:Tr}(H:Tn n t):1<=(due t).length/\(due t).length<=720:=by unfold due;rw[(zbb _).length_eq];exact ⟨zgd _ t (wal _),waN (ziC H.o H.nd) (zup H.l)⟩
theorem zi3{n:Nat}{t:Tr}{s:List Int}(H:Tn n t)(h:s∈due t):s.Perm (zbk n):=(zal (zep.mp h)).trans H.p
theorem zv8{n:Nat}{t:Tr}{Z:Ev}(H:Tn n t)(h0:zab 0 Z=.ok (.int n,Z))(h1:zab 1 Z=.ok (toD t,Z)):dFz (zb1 zaS (dR (zab 0) (dR (zab 1) dR0))) Z=.ok (.lst (lp (due t)),Z) :=
 zaZ (zjq h0 h1 (zeY H.n1 (by have:=H.n6;lia) H.d H.o H.nd H.l))
noncomputable abbrev zlM:DT:=zhy (zcK (dTB (zag zbc (dR (zab 2) dR0)))) (zhy (dTB (dOp gLt (zab 2) (dC (.int 0)))) (dTB (dOp gGe (zab 2) (dFn zdv (dA (zab 3) dA0)))))
theorem zuJ:ziW=zaG (zbo 3 (dFz (zb1 zaS (dR (zab 0) (dR (zab 1) dR0))))) (zaG (dIf zlM dNo dNx) (zaV (dOp gIx (zab 3) (zab 2)))):=rfl
noncomputable def zw9(m:Nat):Dt->Bool
 |.int i=>decide (i<0) || decide ((m:Int)<=i)
 |_=>true
theorem zsF{n:Nat}{t:Tr}{d:Dt}(Z:Ev)(e:Z=[some (.val (.int n)),some (.val (toD t)),some (.val d),some (.val (.lst (lp (due t))))]):zlM Z=.ok (zw9 (due t).length d,Z):=by
 subst e;let Z:Ev:=[some (.val (.int n)),some (.val (toD t)),some (.val d),some (.val (.lst (lp (due t))))]
 have a2:zab 2 Z=.ok (d,Z):=rfl;have a3:zab 3 Z=.ok (.lst (lp (due t)),Z):=rfl;have l3:dFn zdv (dA (zab 3) dA0) Z=.ok (.int ((due t).length:Nat),Z):=zeI a3 (by show R.ok (Dt.int ((lp (due t)).length:Nat))=_;rw[zfF]);have w:=zdZ (zaP (zb8 a2 (zfy d)));cases d with
 |int i =>
  have w':zcK (dTB (zag zbc (dR (zab 2) dR0))) Z=.ok (false,Z):=w;have c1:dTB (dOp gLt (zab 2) (dC (.int 0))) Z=.ok (decide (i<0),Z):=zaP (za4 a2 rfl rfl);have c2:dTB (dOp gGe (zab 2) (dFn zdv (dA (zab 3) dA0))) Z=.ok (decide (i ≥ ((due t).length:Nat)),Z):=zaP (za4 a2 l3 rfl);rw[show zlM Z=_ from zhX w'];show _=R.ok (decide (i<0) || decide (((due t).length:Int)<=i),Z);cases h:decide (i<0) with
  |true=>rw[h] at c1;rw[zsf c1];rfl
  |false=>rw[h] at c1;rw[zhX c1];exact c2
 |_=>exact zsf w
theorem zs4{n:Nat}{t:Tr}{j:Nat}{s:List Int}(H:Tn n t)(hj:(due t)[j]? = some s):zfg [.val (.int n),.val (toD t),.val (.int (j:Nat))]=.ok (tz s,[.val .non,.val .non,.val .non]):=by
 have hl:=(wam.mp hj).1;let Z0:Ev:=[some (.val (.int n)),some (.val (toD t)),some (.val (.int (j:Nat))),none]
 let Z:Ev:=[some (.val (.int n)),some (.val (toD t)),some (.val (.int (j:Nat))),some (.val (.lst (lp (due t))))]
 have x1:zbo 3 (dFz (zb1 zaS (dR (zab 0) (dR (zab 1) dR0)))) Z0=.ok (.nx,Z):=zbl (zv8 (Z:=Z0) H rfl rfl) (by simp[Z0]);have hc:zlM Z=.ok (false,Z):=by rw[zsF Z rfl];congr 2;show (decide ((j:Int)<0) || decide (((due t).length:Int)<=j))=false;rw[decide_eq_false xwl,decide_eq_false xwl];rfl
 refine zan (Z':=Z) rfl ?_ rfl;show ziW Z0=_;rw[zuJ,zaj x1,zaj (Z1:=Z) (by rw[zc3 hc];rfl)];have a3:zab 3 Z=.ok (.lst (lp (due t)),Z):=rfl;have a2:zab 2 Z=.ok (.int (j:Nat),Z):=rfl;exact zb5 (za4 a3 a2 (zlv xwl (by rw[zfF];lia) (by rw[Int.toNat_natCast];unfold lp;rw[List.getElem?_map,hj];rfl)))
theorem znS{s:List Int}:∀{rs:List (List Int)},s∈rs->zk9 (tz s) (lp rs)=some (rs.idxOf s)
 |[],h=>by cases h
 |a::r,h=>by
  show zk9 (tz s) (tz a::lp r)=_;rw[zk9,zqh];by_cases e:a=s
  ·subst e;simp
  ·have hx:s∈r:=by
    rcases wap.mp h with e'|h
    ·exact absurd e'.symm e
    ·exact h
   have hb:(a == s)=false:=beq_false_of_ne e;rw[hb,if_neg xws,znS hx,List.idxOf_cons,hb];rfl
noncomputable abbrev nuIf:DS:=dIf (zcK (dTB (zag zb9 (dR (zab 0) (dR (zab 1) (dR (zab 2) dR0)))))) dNo dNx
theorem zu3:ze3=zaG nuIf (zaV (zwv (dFz (zb1 zaS (dR (zab 0) (dR (zab 1) dR0)))) (zab 2))):=rfl
theorem ztu{n:Nat}{t:Tr}{s:List Int}(H:Tn n t)(hs:s∈due t):zci [.val (.int n),.val (toD t),.val (tz s)]=.ok (.int (((due t).idxOf s:Nat):Int),[.val .non,.val .non,.val .non]):=by
 let Z:Ev:=[some (.val (.int n)),some (.val (toD t)),some (.val (tz s))]
 have a0:zab 0 Z=.ok (.int n,Z):=rfl;have a1:zab 1 Z=.ok (toD t,Z):=rfl;have a2:zab 2 Z=.ok (tz s,Z):=rfl;have hh:=zmf H (zi3 H hs);rw[decide_eq_true (zep.mp hs)] at hh;refine zan (Z':=Z) rfl ?_ rfl;show ze3 Z=_;rw[zu3,zaj (Z1:=Z) (by rw[show nuIf Z=_ from zc3 (zdZ (zaP (znw a0 a1 a2 hh)))];rfl)];refine zb5 ?_;unfold zwv;rw[zv8 H a0 a1];simp only[R.bind_ok,a2];have h9:(lp (due t)).all (okN 60)=true:=List.all_eq_true.mpr λd hd=>by obtain ⟨p,_,rfl⟩:=List.mem_map.mp hd;exact zhF p
 rw[if_pos (by rw[zhF,h9];rfl),znS hs]
theorem zbK{α β:Type}{F:α->β->Prop}:∀{l:List α}{r:List β},Paired F l r->Paired F l.reverse r.reverse
 |_,_,.nil=>.nil
 |_,_,.cons h t=>by rw[List.reverse_cons,List.reverse_cons];exact zeq h (zbK t)
theorem zgG{α β:Type}{F F':α->β->Prop}{g:α->α}:∀{l:List α}{r:List β},Paired F l r->(∀ a b,F a b->F' (g a) b)->Paired F' (l.map g) r
 |_,_,.nil,_=>.nil
 |_,_,.cons h t,H=>.cons (H _ _ h) (zgG t H)
theorem zlA:∀ ys:List (List Int),(ys.reverse.map List.reverse).flatten=ys.flatten.reverse
 |[]=>rfl
 |y::ys=>by rw[List.reverse_cons,List.map_append,List.flatten_append,zlA ys,List.flatten_cons,List.reverse_append];simp
theorem zsI{r:Bool}{bs p:List Tr}(h:p∈arr r bs):p.reverse∈arr r bs:=by
 cases r with
 |false=>exact (zc2 _ _ _ rfl).mpr ((List.reverse_perm p).trans (zau h))
 |true =>
  have:p=bs\/p=bs.reverse:=by simpa [arr] using h
  rcases this with rfl|rfl
  ·simp[arr]
  ·simp[arr]
theorem zpj:∀(n:Nat)(t:Tr),dep t<=n->∀ x∈zap t,x.reverse∈zap t
 |0,t,h,_,_=>by cases t <;> simp[dep] at h
 |n+1,.lf g,_,x,hx=>by rw[zap,List.mem_singleton] at hx;subst hx;rw[zap];simp
 |n+1,.nd r bs,h,x,hx=>by
  simp only[dep] at h;have hd:=zaW.mp (by omega:zcM bs<=n);obtain ⟨p,hp,ys,h1,rfl⟩:=zaQ.mp hx;refine zaQ.mpr ⟨p.reverse,zsI hp,ys.reverse.map List.reverse,?_,zlA ys⟩;have:Paired (λy t=>y∈zap t/\dep t<=n) ys p:=by
   have pb:∀ t∈p,dep t<=n:=λt ht=>hd t ((zau hp).mem_iff.mp ht);clear hx hp
   induction h1 with
   |nil=>exact .nil
   |cons h t ih=>exact .cons ⟨h,pb _ wau⟩ (ih λu hu=>pb u (wah _ hu))
  exact zgG (zbK this) λa b hab=>zpj n b hab.2 a hab.1
theorem zms{t:Tr}{x:List Int}(h:x∈zap t):x.reverse∈zap t:=zpj _ t (wal _) x h
theorem zoE{x P M N u s v:List Int}{a c b:Int}(hn:x.Nodup)(e:x=P++M++N)(e':x=u++s++v)(ha:a∈P)(hc:c∈M)(hb:b∈N)(sa:a∈s)(sb:b∈s):c∈s:=by
 have i1:=zdD (y:=P) (a:=[]) (c:=M++N) hn (by rw[e];simp) ha;have i2:=zdD hn e hc;have i3:=zdD (y:=N) (a:=P++M) (c:=[]) hn (by rw[e];simp) hb;have j1:=zdD hn e' sa;have j3:=zdD hn e' sb;simp only[List.length_nil,wav] at i1 i3;have hcx:c∈x:=by rw[e];simp[hc]
 have hl:=List.idxOf_lt_length_of_mem hcx;have hg:x[x.idxOf c]? = some c:=by rw[List.getElem?_eq_getElem hl,List.getElem_idxOf]
 rw[show x[x.idxOf c]? = (u++s++v)[x.idxOf c]? by rw[<- e'],List.append_assoc,List.getElem?_append_right xwo,List.getElem?_append_left xwo] at hg;exact waH hg
structure zfW(t:Tr):Prop where
 o:okT t=true
 n:(zac t).Nodup
theorem zfW.kids{r:Bool}{bs:List Tr}(h:zfW (.nd r bs)):zfx bs/\(∀ b∈bs,zfW b)/\(if r then 3 else 2)<=bs.length:=by obtain ⟨A,H⟩:=zcV (Nat.le_succ _) h.o h.n;have:=h.o;rw[okT,Bool.and_eq_true,decide_eq_true_eq] at this;exact ⟨A,λb hb=>⟨(H b hb).2.1,(H b hb).2.2⟩,this.1⟩
theorem znx{r:Bool}{bs:List Tr}{x:List Int}(hx:x∈zap (.nd r bs)){b:Tr}(hb:b∈bs):Seg b x:=by
 obtain ⟨p,hp,ys,h1,rfl⟩:=zaQ.mp hx;have hb':=(zau hp).mem_iff.mpr hb;clear hx hp hb
 induction h1 with
 |nil=>cases hb'
 |@cons y t ys p h r ih =>
  rw[List.flatten_cons];rcases wap.mp hb' with rfl|hb'
  ·exact ⟨[],y,ys.flatten,xws,h⟩
  ·obtain ⟨u,s,v,e,hs⟩:=ih hb';exact ⟨y++u,s,v,by rw[e];simp,hs⟩
theorem zkb:∀{ys:List (List Int)}{w R:List Int},ys.flatten=w++R->(∃ l1 l2,ys=l1++l2/\w=l1.flatten/\R=l2.flatten)\/∃ l1 a b l2,ys=l1++(a++b)::l2/\a≠[]/\b≠[]/\w=l1.flatten++a/\R=b++l2.flatten
 |[],w,R,e=>by rw[List.flatten_nil] at e;obtain ⟨h1,h2⟩:=List.append_eq_nil_iff.mp e.symm;exact .inl ⟨[],[],rfl,h1,h2⟩
 |y::ys,w,R,e=>by
  rw[List.flatten_cons] at e;rcases List.append_eq_append_iff.mp e with ⟨c,h1,h2⟩|⟨c,h1,h2⟩
  ·
   rcases zkb h2 with ⟨l1,l2,e1,e2,e3⟩|⟨l1,a,b,l2,e1,e2,e3,e4,e5⟩
   ·exact .inl ⟨y::l1,l2,by rw[e1];rfl,by rw[h1,e2];simp,e3⟩
   ·exact .inr ⟨y::l1,a,b,l2,by rw[e1];rfl,e2,e3,by rw[h1,e4];simp,e5⟩
  ·
   by_cases hw:w=[]
   ·exact .inl ⟨[],y::ys,rfl,hw,by subst hw;rw[h2,h1];simp⟩
   by_cases hc:c=[]
   ·subst hc;rw[List.append_nil] at h1;exact .inl ⟨[y],ys,rfl,by simp[h1],by simpa using h2⟩
   ·exact .inr ⟨[],w,c,ys,by rw[h1];rfl,hw,hc,rfl,h2⟩
noncomputable abbrev Pr(ys:List (List Int))(p:List Tr):Prop:=Paired (λy t=>y∈zap t) ys p
theorem zbf{α β:Type}{F:α->β->Prop}:∀{l1 l2:List α}{y:α}{p:List β},Paired F (l1++y::l2) p->∃ p1 b p2,p=p1++b::p2/\Paired F l1 p1/\F y b/\Paired F l2 p2
 |[],l2,y,_,.cons h t=>⟨[],_,_,rfl,.nil,h,t⟩
 |a::l1,l2,y,_,.cons h t=>by obtain ⟨p1,b,p2,rfl,h1,h2,h3⟩:=zbf (l1:=l1) t;exact ⟨_::p1,b,p2,rfl,.cons h h1,h2,h3⟩
theorem zaO{α β:Type}{F:α->β->Prop}:∀{l1 l2:List α}{p1 p2:List β},Paired F l1 p1->Paired F l2 p2->Paired F (l1++l2) (p1++p2)
 |_,_,_,_,.nil,h=>h
 |_,_,_,_,.cons h t,h'=>.cons h (zaO t h')
theorem zhw{α β:Type}{F:α->β->Prop}:∀{l1 l2:List α}{p:List β},Paired F (l1++l2) p->∃ p1 p2,p=p1++p2/\Paired F l1 p1/\Paired F l2 p2
 |[],l2,p,h=>⟨[],p,rfl,.nil,h⟩
 |a::l1,l2,_,.cons h t=>by obtain ⟨p1,p2,rfl,h1,h2⟩:=zhw (l1:=l1) t;exact ⟨_::p1,p2,rfl,.cons h h1,h2⟩
theorem zom{α:Type}{R:α->α->Prop}{A B:List α}{x:α}(h:(A++x::B).Pairwise R):(∀ a∈A,R a x)/\∀ b∈B,R x b:=by rw[List.pairwise_append,List.pairwise_cons] at h;exact ⟨λa ha=>h.2.2 a ha x wau,h.2.1.1⟩
theorem zkU{bs:List Tr}(A:zfx bs){y:List Int}{b:Tr}(hb:b∈bs)(h:y∈zap b):y≠[]:=λz=>A.ne b hb (by subst z;exact (zal h).symm.eq_nil)
theorem zuO{bs:List Tr}(A:zfx bs):∀{ys:List (List Int)}{p:List Tr},Pr ys p->(∀ t∈p,t∈bs)->ys.flatten=[]->p=[]
 |_,_,.nil,_,_=>rfl
 |_,_,.cons h t,hp,e=>by exfalso;rw[List.flatten_cons] at e;exact zkU A (hp _ wau) h (List.append_eq_nil_iff.mp e).1
theorem zoY{r1 r2:Bool}{bs1 bs2:List Tr}(H1:zfW (.nd r1 bs1))(H2:zfW (.nd r2 bs2))(hS:∀ x,x∈zap (.nd r1 bs1) ↔ x∈zap (.nd r2 bs2))
  {cm ys zs:List (List Int)} {y z:List Int} {p q:List Tr} (hp:p∈arr r1 bs1) (hq:q∈arr r2 bs2) (m1:Pr (cm++y::ys) p) (m2:Pr (cm++z::zs) q) (e:(cm++y::ys).flatten=(cm++z::zs).flatten) (hl:y.length<z.length):False:=by
 obtain ⟨A1,K1,L1⟩:=H1.kids;obtain ⟨A2,K2,L2⟩:=H2.kids;have pb:∀ t∈p,t∈bs1:=λt ht=>(zau hp).mem_iff.mp ht;have qb:∀ t∈q,t∈bs2:=λt ht=>(zau hq).mem_iff.mp ht;have hx1:(cm++y::ys).flatten∈zap (.nd r1 bs1):=zaQ.mpr ⟨p,hp,_,m1,rfl⟩;have hxn:(cm++y::ys).flatten.Nodup:=(zal hx1).symm.nodup H1.n;rw[List.flatten_append,List.flatten_append,List.flatten_cons,List.flatten_cons] at e;have e':=List.append_cancel_left e;obtain ⟨w,hz,hw⟩ : ∃ w,z=y++w/\ys.flatten=w++zs.flatten:=by
  rcases List.append_eq_append_iff.mp e' with ⟨c,h1,h2⟩|⟨c,h1,h2⟩
  ·exact ⟨c,h1,h2⟩
  ·have:=congrArg List.length h1;rw[List.length_append] at this;lia
 have hwn:w≠[]:=λz'=>by subst z';rw[List.append_nil] at hz;subst hz;lia
 obtain ⟨p1,b,p2,ep,n1,n2,n3⟩:=zbf m1;obtain ⟨q1,c,q2,eq,o1,o2,o3⟩:=zbf m2;have hbm:b∈bs1:=pb b (by rw[ep];simp);have hcm:c∈bs2:=qb c (by rw[eq];simp);have hyn:=zkU A1 hbm n2;obtain ⟨γ,y',ey⟩:=waI hyn;have hγ:γ∈y:=by rw[ey];exact wau
 have hx2:cm.flatten++w.reverse++y.reverse++zs.flatten∈zap (.nd r1 bs1):=by
  rw[hS];refine zaQ.mpr ⟨q,hq,cm++z.reverse::zs,?_,?_⟩
  ·rw[eq];exact zaO o1 (.cons (zms o2) o3)
  ·rw[List.flatten_append,List.flatten_cons,hz,List.reverse_append];simp
 have hx2n:(cm.flatten++w.reverse++y.reverse++zs.flatten).Nodup:=(zal hx2).symm.nodup H1.n;have hdis:∀ g∈y,g∉ys.flatten:=λg hg z'=>by rw[List.flatten_append,List.flatten_cons,List.nodup_append,List.nodup_append] at hxn;exact hxn.2.1.2.2 g hg g z' rfl
 rcases zkb hw with ⟨l1,l2,e1,e2,e3⟩|⟨l1,a,bb,l2,e1,e2,e3,e4,e5⟩
 ·cases l1 with
  |nil=>exact hwn (by rw[e2];rfl)
  |cons y2 l1 =>
   rw[e1] at n3;cases n3 with
   |@cons _ d _ p3 nd n3 =>
    have hdm:d∈bs1:=pb d (by rw[ep];simp);obtain ⟨β,y2',ey2⟩:=waI (zkU A1 hdm nd);have hβ:β∈y2:=by rw[ey2];exact wau
    have hw2:∀ g∈y2,g∈w:=λg hg=>by rw[e2];exact List.mem_flatten.mpr ⟨y2,wau,hg⟩
    have hzy:∀ g,g∈z ↔ g∈y\/g∈w:=λg=>by rw[hz,List.mem_append]
    obtain ⟨p4,p5,ep3,n4,n5⟩:=zhw n3;have tq:∃ ye ev ms ps,Pr (y::ye::y2::ms) (b::ev::d::ps)/\(b::ev::d::ps).Perm p/\(∀ g∈ye,g∉z)/\ye≠[]/\((ev∈p1/\∀ g∈ye,g∈cm.flatten)\/(ev∈p5/\∀ g∈ye,g∈zs.flatten)):=by
     by_cases hc0:cm=[]
     ·by_cases hl2:l2=[]
      ·exfalso;subst hc0;subst hl2;cases o1;have:q2=[]:=zuO A2 o3 (λt ht=>qb t (by rw[eq];simp[ht])) (by rw[e3];rfl);subst this;have:=(zau hq).length_eq;rw[eq] at this;simp at this;cases r2 <;> simp at L2 <;> lia
      ·obtain ⟨ye,l2',el2⟩:=waI hl2;rw[el2] at n5;cases n5 with
       |@cons _ ev _ p6 ne n6 =>
        have hem:ev∈bs1:=pb ev (by rw[ep,ep3];simp);refine ⟨ye,ev,cm++(l1++l2'),p1++(p4++p6),.cons n2 (.cons ne (.cons nd (zaO n1 (zaO n4 n6)))),?_,λg hg hgz=>?_,zkU A1 hem ne,.inr ⟨wau,λg hg=>by rw[e3,el2];exact List.mem_flatten.mpr ⟨ye,wau,hg⟩⟩⟩
        ·rw[ep,ep3];have h1:(b::ev::d::(p1++(p4++p6))).Perm (p1++(b::ev::d::(p4++p6))):=by exact (List.perm_append_comm_assoc [b,ev,d] p1 (p4++p6)).trans (.refl _)
         refine h1.trans (List.Perm.append_left p1 (List.Perm.cons b ?_));exact (List.Perm.swap d ev _).trans (List.Perm.cons d List.perm_middle.symm)
        ·rcases (hzy g).mp hgz with h|h
         ·exact hdis g h (by rw[e1,el2];simp[hg])
         ·rw[e1] at hdis;rw[List.flatten_append,List.flatten_cons,e1,el2] at hxn;rw[e2] at h;rw[show (y2::l1++ye::l2').flatten=(y2::l1).flatten++(ye++l2'.flatten) by simp,List.nodup_append,List.nodup_append,List.nodup_append] at hxn;exact hxn.2.1.2.1.2.2 g h g (waR _ hg) rfl
     ·obtain ⟨ye,cm',ecm⟩:=waI hc0;subst ecm;cases n1 with
      |@cons _ ev _ p6 ne n6 =>
       have hem:ev∈bs1:=pb ev (by rw[ep];simp);refine ⟨ye,ev,cm'++(l1++l2),p6++p3,.cons n2 (.cons ne (.cons nd (zaO n6 (by rw[ep3];exact zaO n4 n5)))),?_,λg hg hgz=>?_,zkU A1 hem ne,.inl ⟨wau,λg hg=>List.mem_flatten.mpr ⟨ye,wau,hg⟩⟩⟩
       ·rw[ep];have h1:(b::ev::d::(p6++p3)).Perm (ev::b::d::(p6++p3)):=List.Perm.swap _ _ _;refine h1.trans (List.Perm.cons ev ?_);exact List.perm_append_comm_assoc [b,d] p6 p3
       ·have hgc:g∈(ye::cm').flatten:=List.mem_flatten.mpr ⟨ye,wau,hg⟩;rw[List.flatten_append,List.nodup_append] at hxn;refine hxn.2.2 g hgc g ?_ rfl;rw[List.flatten_cons];rcases (hzy g).mp hgz with h|h
        ·exact waR _ h
        ·exact waz _ (by rw[hw];exact waR _ h)
    obtain ⟨ye,ev,ms,ps,t1,t2,t3,t4,t5⟩:=tq;cases r1 with
    |false =>
     have hx3:(y::ye::y2::ms).flatten∈zap (.nd false bs1):=zaQ.mpr ⟨_,(zc2 _ _ _ rfl).mpr (t2.trans (zau hp)),_,t1,rfl⟩;have hx3n:=(zal hx3).symm.nodup H1.n;obtain ⟨u,s,v,es,hs⟩:=znx ((hS _).mp hx3) hcm;have hsz:∀ g,g∈s ↔ g∈z:=λg=>(zal hs).mem_iff.trans (zal o2).mem_iff.symm;obtain ⟨δ,ye',eye⟩:=waI t4;have hδ : δ ∈ ye:=by rw[eye];exact wau
     have:=zoE (P:=y) (M:=ye) (N:=y2++ms.flatten) hx3n xws es hγ hδ (waR _ hβ) ((hsz γ).mpr ((hzy γ).mpr (.inl hγ))) ((hsz β).mpr ((hzy β).mpr (.inr (hw2 β hβ))));exact t3 δ hδ ((hsz δ).mp this)
    |true =>
     obtain ⟨p'',hp'',zz,mz,ez⟩:=zaQ.mp hx2;have ord:=(zeb (f:=zao) (u:=[]) (v:=[]) hx2n (by rw[ez];simp) mz λt ht=>zcJ (A1.ne t ((zau hp'').mem_iff.mp ht))).1;have hevm:ev∈bs1:=pb ev (t2.mem_iff.mp xws);have ib:=zdD (a:=cm.flatten++w.reverse) (y:=y.reverse) (c:=zs.flatten) (g:=zao b) hx2n rfl (List.mem_reverse.mpr ((zal n2).mem_iff.mpr (zcJ (A1.ne b hbm))));have id:=zdD (a:=cm.flatten) (y:=w.reverse) (c:=y.reverse++zs.flatten) (g:=zao d) hx2n xws (List.mem_reverse.mpr (hw2 _ ((zal nd).mem_iff.mpr (zcJ (A1.ne d hdm)))));have hye:zao ev∈ye:=by
      cases t1 with
      |cons _ t=>cases t with
       |cons hh _=>exact (zal hh).mem_iff.mpr (zcJ (A1.ne ev hevm))
     have hpp:p=bs1\/p=bs1.reverse:=by simpa [arr] using hp
     have hpp'':p''=bs1\/p''=bs1.reverse:=by simpa [arr] using hp''
     have hcase:p''=p\/p''=p.reverse:=by rcases hpp with h|h <;> rcases hpp'' with h'|h' <;> simp[h,h']
     rw[List.length_append] at ib;rcases hcase with h|h
     ·rw[h,ep,List.map_append,List.map_cons] at ord;have:=(zom ord).2 _ (List.mem_map_of_mem (f:=λt=>((_:List Int).idxOf (zao t):Int)) (wau:d∈d::p3));lia
     ·have ord':(p.map λt=>(((cm.flatten++w.reverse++y.reverse++zs.flatten).idxOf (zao t):Nat):Int)).Pairwise (λa b=>b<a):=by rw[h,List.map_reverse,List.pairwise_reverse] at ord;exact ord
      rw[ep,List.map_append,List.map_cons] at ord';rcases t5 with ⟨k1,k2⟩|⟨k1,k2⟩
      ·have h1:=(zom ord').1 _ (List.mem_map_of_mem (f:=λt=>(((cm.flatten++w.reverse++y.reverse++zs.flatten).idxOf (zao t):Nat):Int)) k1);have ie:=zdD (a:=[]) (y:=cm.flatten) (c:=w.reverse++y.reverse++zs.flatten) (g:=zao ev) hx2n xws (k2 _ hye);simp only[List.length_nil] at ie;have h1':(((cm.flatten++w.reverse++y.reverse++zs.flatten).idxOf (zao b):Nat):Int)<(((cm.flatten++w.reverse++y.reverse++zs.flatten).idxOf (zao ev):Nat):Int):=h1;lia
      ·have h1:=(zom ord').2 _ (List.mem_map_of_mem (f:=λt=>(((cm.flatten++w.reverse++y.reverse++zs.flatten).idxOf (zao t):Nat):Int)) (show ev∈d::p3 by rw[ep3];simp[k1]));have ie:=zdD (a:=cm.flatten++w.reverse++y.reverse) (y:=zs.flatten) (c:=[]) (g:=zao ev) hx2n xws (k2 _ hye);simp only[wav] at ie ib;have h1':(((cm.flatten++w.reverse++y.reverse++zs.flatten).idxOf (zao ev):Nat):Int)<(((cm.flatten++w.reverse++y.reverse++zs.flatten).idxOf (zao b):Nat):Int):=h1;lia
 ·rw[e1] at n3;obtain ⟨p4,d,p5,ep2,n4,nd,n5⟩:=zbf n3;have hdm:d∈bs1:=pb d (by rw[ep,ep2];simp);obtain ⟨u,s,v,es,hs⟩:=znx hx2 hdm;have hsd:∀ g,g∈s ↔ g∈a++bb:=λg=>(zal hs).mem_iff.trans (zal nd).mem_iff.symm;obtain ⟨α,a',ea⟩:=waI e2;obtain ⟨β,b',eb⟩:=waI e3;have hα:α∈a:=by rw[ea];exact wau
  have hβ:β∈bb:=by rw[eb];exact wau
  have:=zoE (P:=cm.flatten++w.reverse) (M:=y.reverse) (N:=zs.flatten) hx2n rfl es (waz _ (List.mem_reverse.mpr (by rw[e4];exact waz _ hα))) (List.mem_reverse.mpr hγ) (by rw[e5];exact waR _ hβ) ((hsd α).mpr (waR _ hα)) ((hsd β).mpr (waz _ hβ));exact hdis γ hγ (by rw[e1,List.flatten_append,List.flatten_cons];exact waz _ (waR _ ((hsd γ).mp this)))
noncomputable def zbX(a b:Tr):Prop:=∀ x,x∈zap a ↔ x∈zap b
theorem zbX.symm{a b:Tr}(h:zbX a b):zbX b a:=λx=>(h x).symm
section
variable{r1 r2:Bool}{bs1 bs2:List Tr}
theorem zj3(H1:zfW (.nd r1 bs1))(H2:zfW (.nd r2 bs2))(hS:zbX (.nd r1 bs1) (.nd r2 bs2)){p q:List Tr}(hp:p∈arr r1 bs1)(hq:q∈arr r2 bs2) :
  ∀(ys zs cm:List (List Int)),Pr (cm++ys) p->Pr (cm++zs) q->(cm++ys).flatten=(cm++zs).flatten->ys=zs
 |[],[],_,_,_,_=>rfl
 |[],z::zs,cm,_,m2,e=>by
  exfalso;rw[List.append_nil,List.flatten_append] at e;have e2:(z::zs).flatten=[]:=by have:=congrArg List.length e;rw[List.length_append] at this;exact List.length_eq_zero_iff.mp xwl
  obtain ⟨q1,c,q2,rfl,_,h,_⟩:=zbf m2;exact zkU H2.kids.1 ((zau hq).mem_iff.mp xws) h (List.append_eq_nil_iff.mp (by rw[List.flatten_cons] at e2;exact e2)).1
 |y::ys,[],cm,m1,_,e=>by
  exfalso;rw[List.append_nil,List.flatten_append] at e;have e2:(y::ys).flatten=[]:=by have:=congrArg List.length e;rw[List.length_append] at this;exact List.length_eq_zero_iff.mp xwl
  obtain ⟨q1,c,q2,rfl,_,h,_⟩:=zbf m1;exact zkU H1.kids.1 ((zau hp).mem_iff.mp xws) h (List.append_eq_nil_iff.mp (by rw[List.flatten_cons] at e2;exact e2)).1
 |y::ys,z::zs,cm,m1,m2,e=>by
  have hl:y.length=z.length:=by
   rcases Nat.lt_trichotomy y.length z.length with h|h|h
   ·exact (zoY H1 H2 hS hp hq m1 m2 e h).elim
   ·exact h
   ·exact (zoY H2 H1 hS.symm hq hp m2 m1 e.symm h).elim
  have e':=e;rw[List.flatten_append,List.flatten_append,List.flatten_cons,List.flatten_cons] at e';have hyz:=(List.append_inj (List.append_cancel_left e') hl).1;subst hyz;rw[zj3 H1 H2 hS hp hq ys zs (cm++[y]) (by rw[List.append_assoc];exact m1) (by rw[List.append_assoc];exact m2) (by rw[List.append_assoc,List.append_assoc];exact e)]
theorem ziF(H1:zfW (.nd r1 bs1))(H2:zfW (.nd r2 bs2))(hS:zbX (.nd r1 bs1) (.nd r2 bs2)){p q:List Tr}(hp:p∈arr r1 bs1)(hq:q∈arr r2 bs2){ys zs:List (List Int)}(m1:Pr ys p)(m2:Pr zs q)(e:ys.flatten=zs.flatten):ys=zs:=zj3 H1 H2 hS hp hq ys zs [] m1 m2 e
theorem zi7{bs:List Tr}(A:zfx bs){c c':Tr}{y:List Int}(hc:c∈bs)(hc':c'∈bs)(h:y.Perm (zac c))(h':y.Perm (zac c')):c=c':=by
 have hn:y≠[]:=λz=>A.ne c hc (by subst z;exact h.symm.eq_nil);obtain ⟨g,y',e⟩:=waI hn;have hg:g∈y:=by rw[e];exact wau
 exact zfq A.nd hc hc' (h.mem_iff.mp hg) (h'.mem_iff.mp hg)
theorem znW(H1:zfW (.nd r1 bs1))(H2:zfW (.nd r2 bs2))(hS:zbX (.nd r1 bs1) (.nd r2 bs2)){p1 p2 q1 q2:List Tr}{b c:Tr}{l1 l2:List (List Int)}{y:List Int}(hp:p1++b::p2∈arr r1 bs1)(hq:q1++c::q2∈arr r2 bs2)
  (m1:Pr l1 p1) (m2:Pr l2 p2) (hb:y∈zap b) (hc:y∈zap c):∀ x∈zap b,x∈zap c:=λx hx=>by
 have hx':(l1++x::l2).flatten∈zap (.nd r1 bs1):=zaQ.mpr ⟨_,hp,_,zaO m1 (.cons hx m2),rfl⟩;obtain ⟨q',hq',zs,mz,ez⟩:=zaQ.mp ((hS _).mp hx');have:=ziF H1 H2 hS hp hq' (zaO m1 (.cons hx m2)) mz ez.symm;subst this;obtain ⟨q3,c',q4,rfl,_,h,_⟩:=zbf mz;have h1:c'∈bs2:=(zau hq').mem_iff.mp xws;have h2:c∈bs2:=(zau hq).mem_iff.mp xws;have:c=c':=zi7 H2.kids.1 h2 h1 ((zal hx).trans ((zal hb).symm.trans (zal hc))) (zal h);rw[this];exact h
theorem zjK(H1:zfW (.nd r1 bs1))(H2:zfW (.nd r2 bs2))(hS:zbX (.nd r1 bs1) (.nd r2 bs2)){p q:List Tr}(hp:p∈arr r1 bs1)(hq:q∈arr r2 bs2) :
  ∀(l2 l1:List (List Int))(p1 p2 q1 q2:List Tr),Pr l1 p1->Pr l1 q1->Pr l2 p2->Pr l2 q2->p=p1++p2->q=q1++q2->Paired zbX p2 q2
 |_,l1,p1,_,q1,_,a1,a2,.nil,.nil,_,_=>.nil
 |_,l1,p1,_,q1,_,a1,a2,.cons (l₁:=l2) (a:=y) (b:=b) (l₂:=p2) h t,.cons (b:=c) (l₂:=q2) h' t',ep,eq=>by refine .cons (λx=>⟨znW H1 H2 hS (ep ▸ hp) (eq ▸ hq) a1 t h h' x,znW H2 H1 hS.symm (eq ▸ hq) (ep ▸ hp) a2 t' h' h x⟩) ?_;exact zjK H1 H2 hS hp hq l2 (l1++[y]) (p1++[b]) p2 (q1++[c]) q2 (zaO a1 (.cons h .nil)) (zaO a2 (.cons h' .nil)) t t' (by rw[ep];simp) (by rw[eq];simp)
theorem zrV{bs1 bs2:List Tr}(H1:zfW (.nd false bs1))(H2:zfW (.nd true bs2))(hS:zbX (.nd false bs1) (.nd true bs2)){p q:List Tr}(hp:p∈arr false bs1)(hq:q∈arr true bs2){ys:List (List Int)}(m1:Pr ys p)(m2:Pr ys q):False:=by
 obtain ⟨A2,_,L2⟩:=H2.kids;have hql:=(zau hq).length_eq;simp only[if_true] at L2;have hqn:q.Nodup:=(zau hq).symm.nodup (zdb A2);have qb:∀ t∈q,t∈bs2:=λt ht=>(zau hq).mem_iff.mp ht;cases m2 with
 |nil=>simp at hql;lia
 |@cons y1 c1 ys q h1 t =>
  cases t with
  |nil=>simp at hql;lia
  |@cons y2 c2 ys q h2 t =>
   cases m1 with
   |@cons _ b1 _ p k1 s =>
    cases s with
    |@cons _ b2 _ p k2 s =>
     have hp4:b2::b1::p∈arr false bs1:=(zc2 _ _ _ rfl).mpr ((List.Perm.swap _ _ _).trans (zau hp));have m4:Pr (y2::y1::ys) (b2::b1::p):=.cons k2 (.cons k1 s);obtain ⟨q4,hq4,zs,mz,ez⟩:=zaQ.mp ((hS _).mp (zaQ.mpr ⟨_,hp4,_,m4,rfl⟩));have:=ziF H1 H2 hS hp4 hq4 m4 mz ez.symm;subst this;have hq4n:q4.Nodup:=(zau hq4).symm.nodup (zdb A2);have q4b:∀ t∈q4,t∈bs2:=λt ht=>(zau hq4).mem_iff.mp ht;cases mz with
     |@cons _ d2 _ q5 f2 mz =>
      cases mz with
      |@cons _ d1 _ q5 f1 mz =>
       have e2:c2=d2:=zi7 A2 (qb c2 xws) (q4b d2 xws) (zal h2) (zal f2);have e1:c1=d1:=zi7 A2 (qb c1 xws) (q4b d1 xws) (zal h1) (zal f1);subst e1;subst e2;have a1:c1::c2::q=bs2\/c1::c2::q=bs2.reverse:=by simpa [arr] using hq
       have a2:c2::c1::q5=bs2\/c2::c1::q5=bs2.reverse:=by simpa [arr] using hq4
       have hcase:c2::c1::q5=c1::c2::q\/(c2::c1::q5).reverse=c1::c2::q:=by rcases a1 with a1|a1 <;> rcases a2 with a2|a2 <;> rw[a1,a2] <;> simp
       rcases hcase with hc|hc
       ·have:c2=c1:=(List.cons.inj hc).1;rw[List.nodup_cons] at hqn;exact hqn.1 (by rw[this];exact wau)
       ·have hc':q5.reverse++[c1,c2]=c1::c2::q:=by rw[<- hc];simp
        rw[List.nodup_cons,List.nodup_cons] at hq4n;cases hr:q5.reverse with
        |nil =>
         have h5:q5=[]:=by simpa using hr
         subst h5;have hl:=(zau hq4).length_eq;simp only[wan,List.length_nil] at hl;lia
        |cons a r =>
         rw[hr] at hc';have:a=c1:=(List.cons.inj hc').1;exact hq4n.2.1 (List.mem_reverse.mp (by rw[hr,this];exact wau))
end
inductive Eqv:Tr->Tr->Prop
 |lf (g:Int):Eqv (.lf g) (.lf g)
 |nd {r:Bool} {bs cs p q:List Tr}:p∈arr r bs->q∈arr r cs->Paired Eqv p q->Eqv (.nd r bs) (.nd r cs)
theorem zmg{g:Int}{r:Bool}{bs:List Tr}(H:zfW (.nd r bs))(h:zbX (.lf g) (.nd r bs)):False:=by have h1:=zal ((h [g]).mp (by rw[zap];exact wau));rw[zac] at h1;have h2:=zgV bs (wal _) (by have:=H.o;rw[okT,Bool.and_eq_true] at this;exact this.2);have h3:=H.kids.2.2;have:=h1.length_eq;simp only[wan,List.length_nil] at this;cases r <;> simp at h3 <;> lia
theorem zhI{n:Nat}(IH:∀ a b,dep a<=n->zfW a->zfW b->zbX a b->Eqv a b):∀{p q:List Tr},(∀ t∈p,dep t<=n/\zfW t)->(∀ t∈q,zfW t)->Paired zbX p q->Paired Eqv p q
 |_,_,_,_,.nil=>.nil
 |_,_,hp,hq,.cons h t=>.cons (IH _ _ (hp _ wau).1 (hp _ wau).2 (hq _ wau) h) (zhI IH (λt ht=>hp t (wah _ ht)) (λt ht=>hq t (wah _ ht)) t)
theorem zoc:∀(n:Nat)(t:Tr),dep t<=n->zap t≠[]
 |n,t,h,e=>by have:=zgd n t h;rw[e] at this;simp at this
theorem zrL:∀(n:Nat)(a b:Tr),dep a<=n->zfW a->zfW b->zbX a b->Eqv a b
 |0,a,_,h,_,_,_=>by cases a <;> simp[dep] at h
 |n+1,.lf g,.lf k,_,_,_,hS=>by have:=(hS [g]).mp (by rw[zap];exact wau);rw[zap,List.mem_singleton] at this;cases this;exact .lf g
 |n+1,.lf g,.nd r cs,_,_,H2,hS=>(zmg H2 hS).elim
 |n+1,.nd r bs,.lf k,_,H1,_,hS=>(zmg H1 hS.symm).elim
 |n+1,.nd r bs,.nd r' cs,hd,H1,H2,hS=>by
  simp only[dep] at hd;have hdd:=zaW.mp (by lia:zcM bs<=n);obtain ⟨x,hx⟩ : ∃ x,x∈zap (.nd r bs):=by
   cases e:zap (.nd r bs) with
   |nil =>
    exfalso;have:=H1.o;exact absurd e (zoc _ _ (wal _))
   |cons x l=>exact ⟨x,wau⟩
  obtain ⟨p,hp,ys,m1,e1⟩:=zaQ.mp hx;obtain ⟨q,hq,zs,m2,e2⟩:=zaQ.mp ((hS x).mp hx);have:=ziF H1 H2 hS hp hq m1 m2 (e1.trans e2.symm);subst this;have hr:r=r':=by
   cases r <;> cases r'
   ·rfl
   ·exact (zrV H1 H2 hS hp hq m1 m2).elim
   ·exact (zrV H2 H1 hS.symm hq hp m2 m1).elim
   ·rfl
  subst hr;refine .nd hp hq (zhI (zrL n) (λt ht=>⟨hdd t ((zau hp).mem_iff.mp ht),H1.kids.2.1 t ((zau hp).mem_iff.mp ht)⟩) (λt ht=>H2.kids.2.1 t ((zau hq).mem_iff.mp ht)) ?_);exact zjK H1 H2 hS hp hq ys [] [] p [] q .nil .nil m1 m2 rfl rfl
end Lw
end
section
namespace LQ
open PySem PySem.Spec L2 PV Lw
noncomputable def mn(t:Tr):Int:=(zaT (zac t)).headD 0
noncomputable def zsl(r:Bool)(l:List Tr):List Tr:=if r then (if mn (l.headD (.lf 0)) > mn (l.getLastD (.lf 0)) then l.reverse else l) else byK (l.map mn) l
mutual
noncomputable def zao:Tr->Tr
 |.lf i=>.lf i
 |.nd r l=>.nd r (zsl r (zj5 l))
noncomputable def zj5:List Tr->List Tr
 |[]=>[]
 |t::r=>zao t::zj5 r
end
theorem zcH:∀ l:List Tr,zj5 l=l.map zao
 |[]=>by simp[zj5]
 |t::r=>by simp[zj5,zcH r]
theorem zb6:∀(n:Nat)(t:Tr),dep t<=n->okT t=true->zac t≠[]
 |n,.lf i,_,_=>by simp[zac]
 |0,.nd r l,h,_=>by simp[dep] at h
 |n+1,.nd r l,h,ho=>by
  simp only[dep,okT,wae,war] at h ho;cases l with
  |nil=>have:=ho.1;cases r <;> simp at this
  |cons t q =>
   simp only[zgt,wae] at ho;have:=zb6 n t (by simp only[zcM] at h;lia) ho.2.1;simp only[zac,zaf];intro z;exact this (List.append_eq_nil_iff.mp z).1
theorem zp2{l:List Int}(h:l≠[]):(zaT l).headD 0∈l:=by
 have hp:=zaB l;cases e:zaT l with
 |nil=>rw[e] at hp;exact absurd hp.symm.eq_nil h
 |cons a r=>rw[e] at hp;exact hp.mem_iff.mp xws
theorem zvO{t:Tr}(h:zac t≠[]):mn t∈zac t:=zp2 h
inductive Tw:Tr->Tr->Prop
 |lf (i:Int):Tw (.lf i) (.lf i)
 |any {l l1 l2:List Tr}:Paired Tw l l1->l1.Perm l2->Tw (.nd false l) (.nd false l2)
 |row {l l1 l2:List Tr}:Paired Tw l l1->(l2=l1\/l2=l1.reverse)->Tw (.nd true l) (.nd true l2)
theorem zgc{l1 l2:List Tr}(h:l2=l1\/l2=l1.reverse):l1.Perm l2:=by
 rcases h with rfl|rfl
 ·exact .refl _
 ·exact (List.reverse_perm _).symm
theorem zox{l1 l2:List Tr}(h:l1.Perm l2):zgt l2=zgt l1/\(zaf l2).Perm (zaf l1)/\(∀ n,zcM l1<=n->zcM l2<=n)/\l2.length=l1.length:=by
 refine ⟨?_,?_,λn hn=>?_,h.length_eq.symm⟩
 ·rw[zcY,zcY,Bool.eq_iff_iff,List.all_eq_true,List.all_eq_true];exact ⟨λk t ht=>k t (h.mem_iff.mp ht),λk t ht=>k t (h.mem_iff.mpr ht)⟩
 ·rw[zaL,zaL];exact (h.flatMap_right zac).symm
 ·rw[zaW] at hn ⊢;exact λt ht=>hn t (h.mem_iff.mpr ht)
theorem zc1{n:Nat}(ih:∀ t t',dep t<=n->Tw t t'->okT t'=okT t/\(zac t').Perm (zac t)/\dep t'<=dep t):∀{l l1:List Tr},Paired Tw l l1->zcM l<=n->zgt l1=zgt l/\(zaf l1).Perm (zaf l)/\zcM l1<=zcM l/\l1.length=l.length
 |_,_,.nil,_=>by simp[zaf,zcM]
 |t::l,t'::l1,.cons h r,hd=>by simp only[zcM] at hd;obtain ⟨a1,a2,a3⟩:=ih t t' xwl h;obtain ⟨b1,b2,b3,b4⟩:=zc1 ih r xwl;simp only[zgt,zaf,zcM,wan];exact ⟨by rw[a1,b1],a2.append b2,xwl,xwl⟩
theorem zfZ(n:Nat):∀(t t':Tr),dep t<=n->Tw t t'->okT t'=okT t/\(zac t').Perm (zac t)/\dep t'<=dep t:=by
 induction n with
 |zero =>
  intro t t' hd h;cases t <;> simp[dep] at hd
 |succ n ih =>
  intro t t' hd h;cases h with
  |lf i=>exact ⟨rfl,.refl _,wal _⟩
  |any hp hq =>
   simp only[dep] at hd;obtain ⟨b1,b2,b3,b4⟩:=zc1 ih hp xwl;obtain ⟨c1,c2,c3,c4⟩:=zox hq;simp only[okT,zac,dep];refine ⟨by rw[c1,b1,c4,b4],c2.trans b2,?_⟩;have:=c3 _ b3;lia
  |row hp hq =>
   simp only[dep] at hd;obtain ⟨b1,b2,b3,b4⟩:=zc1 ih hp xwl;obtain ⟨c1,c2,c3,c4⟩:=zox (zgc hq);simp only[okT,zac,dep];refine ⟨by rw[c1,b1,c4,b4],c2.trans b2,?_⟩;have:=c3 _ b3;lia
theorem zql{α:Type}{ks:List Int}{l:List α}(h:ks.length=l.length):(byK ks l).Perm l:=by have:=(zbL (ks.zip l)).map Prod.snd;rw[List.map_snd_zip xwl] at this;exact this
theorem zbx{α β:Type}{F:α->β->Prop}(f:α->β):∀{l:List α},(∀ a∈l,F a (f a))->Paired F l (l.map f)
 |[],_=>.nil
 |a::l,h=>.cons (h a xws) (zbx f λb hb=>h b (by simp[hb]))
theorem zcu:∀(n:Nat)(t:Tr),dep t<=n->Tw t (zao t)
 |n,.lf i,_=>by simp only[zao];exact .lf i
 |0,.nd r l,h=>by simp[dep] at h
 |n+1,.nd r l,h=>by
  simp only[dep] at h;have hp:Paired Tw l (l.map zao):=zbx zao λt ht=>zcu n t (zaW.mp (by lia:zcM l<=n) t ht);simp only[zao];rw[zcH];cases r with
  |false =>
   refine .any hp ?_;show (l.map zao).Perm (byK _ _);exact (zql xws).symm
  |true =>
   refine .row hp ?_;unfold zsl;simp only[if_true];split
   ·exact .inr rfl
   ·exact .inl rfl
theorem zhA{f:Tr->Int}:∀{l:List Tr},(∀ t∈l,f t∈zac t)->(zaf l).Nodup->(l.map f).Nodup
 |[],_,_=>by simp
 |t::r,hm,hn=>by
  simp only[zaf] at hn;rw[List.nodup_append] at hn;rw[List.map_cons,List.nodup_cons];refine ⟨λz=>?_,zhA (λu hu=>hm u (by simp[hu])) hn.2.1⟩;obtain ⟨u,hu,e⟩:=List.mem_map.mp z;have h1:=hm t xws;have h2:f t∈zaf r:=by rw[zaL,List.mem_flatMap];exact ⟨u,hu,by rw[<- e];exact hm u (by simp[hu])⟩
  exact hn.2.2 _ h1 _ h2 rfl
theorem zvC{l1 l2:List Tr}{f:Tr->Int}(h:l1.Perm l2)(hn:(l1.map f).Nodup):byK (l2.map f) l2=byK (l1.map f) l1:=by
 unfold byK;have hz:∀ l:List Tr,(l.map f).zip l=l.map λt=>(f t,t):=λl=>by
  induction l with
  |nil=>rfl
  |cons a r ih=>simp[ih]
 rw[hz,hz];have hp:(zfP (l2.map λt=>(f t,t))).Perm (zfP (l1.map λt=>(f t,t))):=(zbL _).trans ((h.symm.map _).trans (zbL _).symm);rw[ztx hp ?_ (zeL _) (zeL _)];have q:=((zbL (l2.map λt=>(f t,t))).map Prod.fst).trans ((h.symm.map (λt=>(f t,t))).map Prod.fst);rw[q.nodup_iff];rw[List.map_map];exact hn
theorem zgQ{n:Nat}(ih:∀ t t',dep t<=n->Tw t t'->okT t=true->(zac t).Nodup->zao t'=zao t):∀{l l1:List Tr},Paired Tw l l1->zcM l<=n->zgt l=true->(zaf l).Nodup->l1.map zao=l.map zao
 |_,_,.nil,_,_,_=>rfl
 |t::l,t'::l1,.cons h r,hd,ho,hn=>by simp only[zcM] at hd;simp only[zgt,wae] at ho;simp only[zaf] at hn;rw[List.nodup_append] at hn;rw[List.map_cons,List.map_cons,ih t t' xwl h ho.1 hn.1,zgQ ih r xwl ho.2 hn.2.1]
theorem ziz{n:Nat}{l:List Tr}(hd:zcM l<=n)(ho:zgt l=true):∀ t∈l.map zao,mn t∈zac t:=λu hu=>by obtain ⟨t,ht,rfl⟩:=List.mem_map.mp hu;have h1:=zaW.mp hd t ht;rw[zcY,List.all_eq_true] at ho;have h2:=zfZ n t (zao t) h1 (zcu n t h1);exact zvO (zb6 n _ (waN h2.2.2 h1) (by rw[h2.1];exact ho t ht))
theorem zco{n:Nat}{l:List Tr}(hd:zcM l<=n)(ho:zgt l=true)(hn:(zaf l).Nodup):((l.map zao).map mn).Nodup:=by refine zhA (ziz hd ho) ?_;have:=(zc1 (zfZ n) (zbx zao λt ht=>zcu n t (zaW.mp hd t ht)) hd).2.1;exact this.nodup_iff.mpr hn
theorem zso{l:List Tr}(hl:2<=l.length)(hn:(l.map mn).Nodup):mn (l.headD (.lf 0))≠mn (l.getLastD (.lf 0)):=by
 cases l with
 |nil=>simp at hl
 |cons a r =>
  cases r with
  |nil=>simp at hl
  |cons b q =>
   rw[List.map_cons,List.nodup_cons] at hn;intro z;refine hn.1 ?_;have e:(a::b::q).getLastD (.lf 0)=(b::q).getLast xws:=by simp[List.getLastD]
   rw[e] at z;have z':mn a=mn ((b::q).getLast xws):=z;rw[z'];exact List.mem_map.mpr ⟨_,List.getLast_mem _,rfl⟩
theorem zrd{l:List Tr}(hl:2<=l.length)(hn:(l.map mn).Nodup):zsl true l.reverse=zsl true l:=by
 have ne:=zso hl hn;have h1:l.reverse.headD (.lf 0)=l.getLastD (.lf 0):=by simp[List.headD_eq_head?_getD,List.getLastD_eq_getLast?]
 have h2:l.reverse.getLastD (.lf 0)=l.headD (.lf 0):=by
  cases l with
  |nil=>rfl
  |cons a q=>simp
 unfold zsl;simp only[if_true,h1,h2];by_cases h:mn (l.headD (.lf 0)) > mn (l.getLastD (.lf 0))
 ·rw[if_pos h,if_neg xwl]
 ·rw[if_neg h,if_pos xwl,List.reverse_reverse]
theorem zpa(n:Nat):∀(t t':Tr),dep t<=n->Tw t t'->okT t=true->(zac t).Nodup->zao t'=zao t:=by
 induction n with
 |zero =>
  intro t t' hd h;cases t <;> simp[dep] at hd
 |succ n ih =>
  intro t t' hd h ho hn;cases h with
  |lf i=>rfl
  |@any l l1 l2 hp hq =>
   simp only[dep] at hd;simp only[okT,wae] at ho;simp only[zac] at hn;have hd':zcM l<=n:=by lia
   have e:=zgQ ih hp hd' ho.2 hn;simp only[zao,zcH];congr 1;show byK ((l2.map zao).map mn) (l2.map zao)=byK ((l.map zao).map mn) (l.map zao);have hpm:(l.map zao).Perm (l2.map zao):=by rw[<- e];exact hq.map _
   exact zvC hpm (zco hd' ho.2 hn)
  |@row l l1 l2 hp hq =>
   simp only[dep] at hd;simp only[okT,wae,war,if_true] at ho;simp only[zac] at hn;have hd':zcM l<=n:=by lia
   have e:=zgQ ih hp hd' ho.2 hn;simp only[zao,zcH];congr 1;rcases hq with rfl|rfl
   ·rw[e]
   ·rw[List.map_reverse,e];exact zrd (by simp;lia) (zco hd' ho.2 hn)
theorem zjC:∀{l:List Tr}{t:Tr},t∈l->(zaf l).Nodup->(zac t).Nodup
 |[],_,h,_=>by cases h
 |u::l,t,h,hn=>by
  simp only[zaf] at hn;rw[List.nodup_append] at hn;rcases wap.mp h with rfl|h
  ·exact hn.1
  ·exact zjC h hn.2.1
theorem zqM{t:Tr}(h:dep t<=8)(hl:(zac t).length<64):zaU [.val (toD t)]=.ok (.lst ((zaT (zac t)).map .int),[.val .non]):=by
 let Z:Ev:=[some (.val (toD t))]
 refine zan (Z':=Z) rfl ?_ rfl;have a0:zab 0 Z=.ok (toD t,Z):=rfl;exact zb5 (zaZ (zf6 (zb8 a0 (zd7 8 t h xwl)) (zi1 xwl)))
theorem ze2{t:Tr}(h:dep t<=8)(hl:(zac t).length<64)(hne:zac t≠[]):za0 [.val (toD t)]=.ok (.int (mn t),[.val .non]):=by
 refine zan (Z':=[some (.val (toD t))]) rfl ?_ rfl;show zcP [some (.val (toD t))]=_;have ec:=zb8 (F:=zaU) (fa:=zab 0) (Z:=[some (.val (toD t))]) (Z':=[some (.val (toD t))]) rfl (zqM h hl);unfold zcP zaV dOp;rw[ec];have hne':zaT (zac t)≠[]:=λz=>hne (by have:=zaB (zac t);rw[z] at this;exact this.symm.eq_nil);cases e:zaT (zac t) with
 |nil=>exact absurd e hne'
 |cons a q =>
  simp only[R.bind_ok,dC,List.map_cons];have:gIx (.lst (.int a::q.map .int)) (.int 0)=.ok (.int a):=by unfold gIx;simp only[zi0]
  rw[this];simp only[R.bind_ok];unfold mn;rw[e];rfl
theorem zsz{L:List Tr}(h:L≠[]):gIx (.lst (L.map toD)) (.int 0)=.ok (toD (L.headD (.lf 0))):=by
 cases L with
 |nil=>exact absurd rfl h
 |cons a q =>
  unfold gIx;simp only[List.map_cons,zi0];rfl
theorem zmq{α:Type}{l:List α}(h:l≠[]):atI l (-1)=l.getLast? := by
 unfold atI ixN;have hl:0<l.length:=List.length_pos_iff.mpr h;rw[if_neg xwd,if_pos xwl];have e:((-1:Int)+(l.length:Nat)).toNat=l.length-1:=by lia
 rw[e,Option.bind_some,List.getLast?_eq_getElem?]
theorem ztb{L:List Tr}(h:L≠[]):gIx (.lst (L.map toD)) (.int (-1))=.ok (toD (L.getLastD (.lf 0))):=by
 unfold gIx;have:atI (L.map toD) (-1)=some (toD (L.getLastD (.lf 0))):=by
  rw[zmq (by simpa using h),List.getLast?_map,List.getLastD_eq_getLast?];cases e:L.getLast? with
  |none=>exact absurd (List.getLast?_eq_none_iff.mp e) h
  |some a=>rfl
 simp only[this]
theorem zka:∀{l:List Int},l.Nodup->zg8 l=true
 |[],_=>rfl
 |a::r,h=>by rw[List.nodup_cons] at h;unfold zg8;rw[zka h.2,Bool.and_true];simpa using h.1
theorem zml{α β:Type}(f:α->β)(p:Int×α):∀ l:List (Int×α),zmv (p.1,f p.2) (l.map λq=>(q.1,f q.2))=(zmv p l).map λq=>(q.1,f q.2)
 |[]=>rfl
 |q::r=>by
  simp only[List.map_cons,zmv];split
  ·rfl
  ·simp only[List.map_cons,zml f p r]
theorem zj6{α β:Type}(f:α->β):∀ l:List (Int×α),zfP (l.map λq=>(q.1,f q.2))=(zfP l).map λq=>(q.1,f q.2)
 |[]=>rfl
 |q::r=>by simp only[List.map_cons,zfP,zj6 f r];exact zml f q _
theorem zsH{α β:Type}(f:α->β)(ks:List Int)(l:List α):byK ks (l.map f)=(byK ks l).map f:=by
 unfold byK;have:ks.zip (l.map f)=(ks.zip l).map λq=>(q.1,f q.2):=by rw[List.zip_map_right];rfl
 rw[this,zj6,List.map_map,List.map_map];rfl
theorem zke:∀{L:List Tr},(∀ t∈L,dep t<=8/\(zac t).length<64/\zac t≠[])->zdo za0 (L.map toD)=some (L.map mn)
 |[],_=>rfl
 |t::r,h=>by have ht:=h t xws;have ih:zdo za0 (r.map toD)=some (r.map mn):=zke λu hu=>h u (wah _ hu);rw[List.map_cons,zdo,ze2 ht.1 ht.2.1 ht.2.2];simp only[ih];rfl
theorem zwc{D:List Dt}{r:Bool}{x:Dt}{Z:Ev}{i:Nat}(h:Z[i]? = some (some (.val (.tup [.str (wd r),x])))):dTB (dOp (gEq false) (dOp gIx (zab i) (dC (.int 0))) (dC (.str (Str.ofString "any")))) Z=.ok (!r,Z):=by
 have e:dOp gIx (zab i) (dC (.int 0)) Z=.ok (.str (wd r),Z):=by unfold dOp zab;rw[h];rfl
 unfold dTB;rw[dOp,e];simp only[R.bind_ok,dC];rw[zbA (by rw[okN];exact zeT r) (by rw[okN];exact zkj),eqS,zrX];rfl
theorem zpJ{n:Nat}{r:Bool}{l:List Tr}(hd:zcM l<=n)(ho:okT (.nd r l)=true)(hn:(zaf l).Nodup)(hl:(zaf l).length<64) :
  (∀ t∈l.map zao,dep t<=n/\(zac t).length<64/\zac t≠[])/\((l.map zao).map mn).Nodup/\l.map zao≠[]/\2<=(l.map zao).length/\(l.map zao).length<64:=by
 simp only[okT,wae,war] at ho;have h2:2<=l.length:=by have:=ho.1;cases r <;> simp at this <;> lia
 refine ⟨λu hu=>?_,zco hd ho.2 hn,?_,by simpa using h2,?_⟩
 ·obtain ⟨t,ht,rfl⟩:=List.mem_map.mp hu;have h1:=zaW.mp hd t ht;have ho':=ho.2;rw[zcY,List.all_eq_true] at ho';obtain ⟨q1,q2,q3⟩:=zfZ n t (zao t) h1 (zcu n t h1);refine ⟨waN q3 h1,?_,zb6 n _ (waN q3 h1) (by rw[q1];exact ho' t ht)⟩;have:=zcW ht;rw[q2.length_eq];lia
 ·intro z;rw[List.map_eq_nil_iff] at z;rw[z] at h2;simp at h2
 ·rw[List.length_map];have:l.length<=(zaf l).length:=by
   have hok:=ho.2;have:∀(l:List Tr),zcM l<=n->zgt l=true->l.length<=(zaf l).length:=by
    intro l
    induction l with
    |nil=>intros;simp
    |cons t q ih =>
     intro hd ho;simp only[zcM] at hd;simp only[zgt,wae] at ho;have h1:=List.length_pos_iff.mpr (zb6 n t xwl ho.1);have h2:=ih xwl ho.2;simp only[zaf,wav,wan];lia
   exact this l hd hok
  lia
theorem zlz:∀(n:Nat)(t:Tr),n<=8->dep t<=n->okT t=true->(zac t).Nodup->(zac t).length<64->zbg n [.val (toD t)]=.ok (toD (zao t),[.val .non])
 |0,t,_,h,_,_,_=>by cases t <;> simp[dep] at h
 |n+1,.lf i,h8,h,ho,hn,hl=>by refine zan (Z':=[some (.val (.int i)),none]) rfl ?_ rfl;rw[toD,zao];rfl
 |n+1,.nd r l,h8,h,ho,hn,hl=>by
  simp only[dep] at h;simp only[zac] at hl hn;have hd:zcM l<=n:=by lia
  obtain ⟨B1,B2,B3,B4,B5⟩:=zpJ hd ho hn hl;have ho2:∀ t∈l,okT t=true:=by simp only[okT,wae] at ho;have:=ho.2;rw[zcY,List.all_eq_true] at this;exact this
  have hn2:∀ t∈l,(zac t).Nodup:=λt ht=>zjC ht hn;have hD:toD (.nd r l)=.tup [.str (wd r),.tup (zkv l)]:=by rw[toD]
  have e0:dIf (dTB (zag zaI (dR (zab 0) dR0))) (zaV (zab 0)) dNx [some (.val (toD (.nd r l))),none]=.ok (.nx,[some (.val (toD (.nd r l))),none]):=by have ec:=zb8 (F:=zaI) (fa:=zab 0) (Z:=[some (.val (toD (.nd r l))),none]) (Z':=[some (.val (toD (.nd r l))),none]) rfl (zfh (.nd r l));unfold dIf dTB;rw[ec];rfl
  have e1:zbo 1 (dFz (zbQ (dIt (dOp gIx (zab 0) (dC (.int 1)))) (zbv 2) dTT (zag (zbg n) (dR (zab 2) dR0)) 1)) [some (.val (toD (.nd r l))),none]=.ok (.nx,[some (.val (toD (.nd r l))),some (.val (.lst ((l.map zao).map toD)))]):=by
   have:=zbH (Z0:=[some (.val (toD (.nd r l))),none]) (fi:=dIt (dOp gIx (zab 0) (dC (.int 1)))) (fe:=zag (zbg n) (dR (zab 2) dR0)) (l:=l) (u:=toD) (f:=λt=>toD (zao t)) (ds:=zkv l) (j:=2) (by rw[hD];rfl) (zce l) (by simp only[wag] at B5;lia)
    (λt ht=>zb8 (Z':=[some (.val (toD (.nd r l))),none]++[some (.val (toD t))]) rfl (zlz n t xwl (zaW.mp hd t ht) (ho2 t ht) (hn2 t ht) (by have:=zcW ht;lia))) rfl
   unfold zbo dFz;rw[this];simp only[R.bind_ok];rw[List.map_map];rfl
  have e2:dIf (dTB (dOp (gEq false) (dOp gIx (zab 0) (dC (.int 0))) (dC (.str (Str.ofString "any"))))) (zbo 1 (dFz (zji za0 (zab 1)))) (dIf (dTB (dOp gGt (zag za0 (dR (dOp gIx (zab 1) (dC (.int 0))) dR0)) (zag za0 (dR (dOp gIx (zab 1) (zvz (dC (.int 1)))) dR0)))) (zbo 1 (dFz (zm5 (zab 1)))) dNx) [some (.val (toD (.nd r l))),some (.val (.lst ((l.map zao).map toD)))]=.ok (.nx,[some (.val (toD (.nd r l))),some (.val (.lst ((zsl r (l.map zao)).map toD)))]):=by
   unfold dIf;rw[zwc (D:=[]) (r:=r) (x:=.tup (zkv l)) (by rw[hD];rfl)];simp only[R.bind_ok];cases r with
   |false =>
    simp only[Bool.not_false,if_true];unfold zbo dFz zji;show ((((match zdo za0 ((l.map zao).map toD) with|some ks=>if (decide (((l.map zao).map toD).length<64) && zg8 ks)=true then R.ok (byK ks ((l.map zao).map toD),_) else .no|none=>.no):R (List Dt×Ev)).bind _).bind _)=_;rw[zke λt ht=>by have:=B1 t ht;exact ⟨xwl,this.2⟩]
    simp only;rw[zka B2,if_pos (by simp only[Bool.and_true,decide_eq_true_eq,List.length_map] at B5 ⊢;exact B5)];rw[zsH];rfl
   |true =>
    rw[if_neg xwd];have c1:=zb8 (F:=za0) (fa:=dOp gIx (zab 1) (dC (.int 0))) (Z:=[some (.val (toD (.nd true l))),some (.val (.lst ((l.map zao).map toD)))]) (Z':=[some (.val (toD (.nd true l))),some (.val (.lst ((l.map zao).map toD)))]) (d:=toD ((l.map zao).headD (.lf 0))) (by
      show ((gIx (.lst ((l.map zao).map toD)) (.int 0)).bind _)=_;rw[zsz B3];rfl) (by
      have hm:(l.map zao).headD (.lf 0)∈l.map zao:=by
       cases e:l.map zao with
       |nil=>exact absurd e B3
       |cons a q=>simp
      have:=B1 _ hm;exact ze2 xwl this.2.1 this.2.2)
    have c2:=zb8 (F:=za0) (fa:=dOp gIx (zab 1) (zvz (dC (.int 1)))) (Z:=[some (.val (toD (.nd true l))),some (.val (.lst ((l.map zao).map toD)))]) (Z':=[some (.val (toD (.nd true l))),some (.val (.lst ((l.map zao).map toD)))]) (d:=toD ((l.map zao).getLastD (.lf 0))) (by
      show ((gIx (.lst ((l.map zao).map toD)) (.int (-1))).bind _)=_;rw[ztb B3];rfl) (by
      have hm:(l.map zao).getLastD (.lf 0)∈l.map zao:=by
       rw[List.getLastD_eq_getLast?];cases e:(l.map zao).getLast? with
       |none=>exact absurd (List.getLast?_eq_none_iff.mp e) B3
       |some a=>exact List.mem_of_getLast? e
      have:=B1 _ hm;exact ze2 xwl this.2.1 this.2.2)
    have c3:dTB (dOp gGt (zag za0 (dR (dOp gIx (zab 1) (dC (.int 0))) dR0)) (zag za0 (dR (dOp gIx (zab 1) (zvz (dC (.int 1)))) dR0))) [some (.val (toD (.nd true l))),some (.val (.lst ((l.map zao).map toD)))]=.ok (decide (mn ((l.map zao).getLastD (.lf 0))<mn ((l.map zao).headD (.lf 0))),[some (.val (toD (.nd true l))),some (.val (.lst ((l.map zao).map toD)))]):=by exact zaP (za4 c1 c2 rfl)
    rw[c3];simp only[R.bind_ok];unfold zsl;rw[if_pos rfl];by_cases hgt:mn ((l.map zao).getLastD (.lf 0))<mn ((l.map zao).headD (.lf 0))
    ·rw[if_pos (decide_eq_true hgt),if_pos hgt];rw[List.map_reverse];rfl
    ·rw[if_neg (by simpa using hgt),if_neg hgt];rfl
  refine zan (Z':=[some (.val (toD (.nd r l))),some (.val (.lst ((zsl r (l.map zao)).map toD)))]) rfl ?_ rfl;show ze1 (zbg n) [some (.val (toD (.nd r l))),none]=_;unfold ze1 zaG;rw[e0];simp only[R.bind_ok];rw[e1];simp only[R.bind_ok];rw[e2];simp only[R.bind_ok];rw[zao,zcH,hD,toD];simp only[zce];rfl
theorem zex{F:Tr->Tr->Prop}{p bs:List Tr}(h:p.Perm bs):∀{q:List Tr},Paired F p q->∃ l,Paired F bs l/\q.Perm l:=by
 induction h with
 |nil=>intro q hq;cases hq;exact ⟨[],.nil,.refl _⟩
 |cons x _ ih =>
  intro q hq;cases hq with
  |cons h1 h2=>obtain ⟨l,a,b⟩:=ih h2;exact ⟨_::l,.cons h1 a,b.cons _⟩
 |swap x y l =>
  intro q hq;cases hq with
  |cons h1 h2=>cases h2 with
   |cons h3 h4=>exact ⟨_,.cons h3 (.cons h1 h4),.swap _ _ _⟩
 |trans _ _ ih1 ih2 =>
  intro q hq;obtain ⟨l,a,b⟩:=ih1 hq;obtain ⟨m,c,d⟩:=ih2 a;exact ⟨m,c,b.trans d⟩
theorem zaO{F:Tr->Tr->Prop}:∀{a b c d:List Tr},Paired F a b->Paired F c d->Paired F (a++c) (b++d)
 |_,_,_,_,.nil,h=>h
 |_,_,_,_,.cons x y,h=>.cons x (zaO y h)
theorem zbK{F:Tr->Tr->Prop}:∀{a b:List Tr},Paired F a b->Paired F a.reverse b.reverse
 |_,_,.nil=>.nil
 |_,_,.cons x y=>by rw[List.reverse_cons,List.reverse_cons];exact zaO (zbK y) (.cons x .nil)
theorem zjo{n:Nat}(IH:∀ a b,dep a<=n->Eqv a b->Tw a b):∀{p q:List Tr},(∀ t∈p,dep t<=n)->Paired Eqv p q->Paired Tw p q
 |_,_,_,.nil=>.nil
 |_,_,h,.cons x y=>.cons (IH _ _ (h _ wau) x) (zjo IH (λt ht=>h t (wah _ ht)) y)
theorem zvs:∀(n:Nat)(a b:Tr),dep a<=n->Eqv a b->Tw a b
 |n,.lf g,_,_,.lf _=>.lf g
 |0,.nd r bs,_,h,_=>by simp[dep] at h
 |n+1,.nd r bs,_,h,.nd (cs:=cs) (p:=p) (q:=q) hp hq hpq=>by
  have hb:∀ t∈bs,dep t<=n:=zaW.mp (by simpa [dep] using h);have hpp:=zau hp;have hw:=zjo (n:=n) (zvs n) (λt ht=>hb t (hpp.mem_iff.mp ht)) hpq;cases r with
  |false =>
   obtain ⟨l,h1,h2⟩:=zex hpp hw;exact .any h1 (h2.symm.trans (zau hq))
  |true =>
   unfold arr at hp hq;rw[if_pos rfl] at hp hq;simp only[wap,wak,or_false] at hp hq;rcases hp with rfl|rfl
   ·rcases hq with rfl|rfl
    ·exact .row hw (.inl rfl)
    ·exact .row hw (.inr (by rw[List.reverse_reverse]))
   ·have hw':=zbK hw;rw[List.reverse_reverse] at hw';rcases hq with rfl|rfl
    ·exact .row hw' (.inr (by rw[List.reverse_reverse]))
    ·exact .row hw' (.inl (by rw[List.reverse_reverse]))
theorem zgk{F G:Tr->Tr->Prop}(h:∀ a b,F a b->G b a):∀{p q:List Tr},Paired F p q->Paired G q p
 |_,_,.nil=>.nil
 |_,_,.cons x y=>.cons (h _ _ x) (zgk h y)
theorem zjE{x:List Int}:∀{p q:List Tr}{ys:List (List Int)},Paired zbX p q->Paired (λy t=>y∈zap t) ys p->Paired (λy t=>y∈zap t) ys q
 |_,_,_,.nil,.nil=>.nil
 |_,_,_,.cons h t,.cons a b=>.cons ((h _).mp a) (zjE (x:=x) t b)
theorem half{r:Bool}{l l2:List Tr}{x:List Int}(h:∀ p∈arr r l,∃ q∈arr r l2,Paired zbX p q)(hx:x∈zap (.nd r l)):x∈zap (.nd r l2):=by obtain ⟨p,hp,ys,h1,h2⟩:=zaQ.mp hx;obtain ⟨q,hq,hpq⟩:=h p hp;exact zaQ.mpr ⟨q,hq,ys,zjE (x:=x) hpq h1,h2⟩
theorem zoS{bs p:List Tr}:p∈arr false bs ↔ p.Perm bs:=by unfold arr;rw[if_neg xws];exact zc2 _ _ _ rfl
theorem zkW{bs p:List Tr}:p∈arr true bs ↔ p=bs\/p=bs.reverse:=by unfold arr;rw[if_pos rfl];simp
theorem ze8{n:Nat}(IH:∀ a b,dep a<=n->Tw a b->zbX a b):∀{p q:List Tr},(∀ t∈p,dep t<=n)->Paired Tw p q->Paired zbX p q
 |_,_,_,.nil=>.nil
 |_,_,h,.cons x y=>.cons (IH _ _ (h _ wau) x) (ze8 IH (λt ht=>h t (wah _ ht)) y)
theorem zeP{r:Bool}{l l1 l2:List Tr}(hp:Paired zbX l l1)(h:if r then l2=l1\/l2=l1.reverse else l1.Perm l2):∀ p∈arr r l,∃ q∈arr r l2,Paired zbX p q:=λp hpa=>by
 cases r with
 |false =>
  obtain ⟨q,h1,h2⟩:=zex (zoS.mp hpa).symm hp;exact ⟨q,zoS.mpr (h2.symm.trans h),h1⟩
 |true =>
  rcases zkW.mp hpa with rfl|rfl
  ·refine ⟨l1,zkW.mpr ?_,hp⟩;rcases h with rfl|rfl
   ·exact .inl rfl
   ·exact .inr (by rw[List.reverse_reverse])
  ·refine ⟨l1.reverse,zkW.mpr ?_,zbK hp⟩;rcases h with rfl|rfl
   ·exact .inr rfl
   ·exact .inl rfl
theorem zfc{a b:Tr}(h:zbX a b):zbX b a:=λx=>(h x).symm
theorem zoD{r:Bool}{l l1 l2:List Tr}(hp:Paired zbX l l1)(h:if r then l2=l1\/l2=l1.reverse else l1.Perm l2):zbX (.nd r l) (.nd r l2):=λx =>
 ⟨half (zeP hp h),half (r:=r) (l:=l2) (λp hpa=>by
  have hb:=zgk (λ_ _=>zfc) hp;cases r with
  |false =>
   obtain ⟨m,h1,h2⟩:=zex (show l1.Perm l2 from h) hb;exact zeP (r:=false) h1 h2.symm p hpa
  |true =>
   rcases h with rfl|rfl
   ·exact zeP (r:=true) hb (.inl rfl) p hpa
   ·exact zeP (r:=true) (zbK hb) (.inr (by rw[List.reverse_reverse])) p hpa)⟩
theorem zhh:∀(n:Nat)(a b:Tr),dep a<=n->Tw a b->zbX a b
 |n,.lf g,_,_,.lf _=>λ_=>Iff.rfl
 |0,.nd r bs,_,h,_=>by simp[dep] at h
 |n+1,.nd false bs,_,h,.any h1 h2=>zoD (r:=false) (ze8 (zhh n) (zaW.mp (by simpa [dep] using h)) h1) h2
 |n+1,.nd true bs,_,h,.row h1 h2=>zoD (r:=true) (ze8 (zhh n) (zaW.mp (by simpa [dep] using h)) h1) h2
theorem zhW{a b:Tr}(ha:zfW a)(hb:zfW b):zbX a b ↔ zao b=zao a:=by
 constructor
 ·intro h;exact zpa _ a b (wal _) (zvs _ _ _ (wal _) (zrL _ a b (wal _) ha hb h)) ha.o ha.n
 ·intro h x;have h1:=zhh _ _ _ (wal _) (zcu _ a (wal _));have h2:=zhh _ _ _ (wal _) (zcu _ b (wal _));rw[h1 x,h2 x,h]
theorem zvE{n:Nat}{t:Tr}(H:Lw.Tn n t):∀ p∈due t,p≠[]:=λp hp z=>by have h:=(zi3 H hp).length_eq;rw[z,zcf] at h;have:=H.n1;simp at h;lia
theorem zoW(t:Tr):zfo (due t)=due t:=zeH (zbb _) (zch _) (zch _)
theorem znt{n:Nat}{t:Tr}(H:Lw.Tn n t):zeh [.lst (lp (due t))]=.ok (lp (due t)):=by unfold zeh;simp only[zkR (zvE H)];rw[if_pos ⟨zko H,by have:=(zpk H).2;lia⟩,zoW];rfl
theorem zo9:∀ a b:List (List Int),zf0 (lp a) (lp b)=(a == b)
 |[],[]=>by simp[lp,zf0]
 |[],_::_=>by simp[lp,zf0]
 |_::_,[]=>by simp[lp,zf0]
 |a::r,b::q=>by show zf0 (tz a::lp r) (tz b::lp q)=_;rw[zf0,zqh,zo9 r q];rfl
theorem zxb(a b:List (List Int)):eqD (.lst (lp a)) (.lst (lp b))=(a == b):=by rw[eqD,zo9]
theorem zsc{a b:Tr}(ha:(zap a).Nodup)(hb:(zap b).Nodup):due a=due b ↔ zbX a b:=by
 constructor
 ·intro h x;rw[<- zep,h,zep]
 ·intro h;refine zeH ((zbb _).trans (List.Perm.trans ?_ (zbb _).symm)) (zch _) (zch _);exact (List.perm_ext_iff_of_nodup ha hb).mpr h
theorem zwQ(a b:Bool):(wd a == wd b)=(a == b):=by cases a <;> cases b <;> decide +kernel
theorem zlL{n:Nat}(IH:∀ a b,dep a<=n->(eqD (toD a) (toD b)=true ↔ a=b)):∀(l m:List Tr),(∀ t∈l,dep t<=n)->(zf0 (l.map toD) (m.map toD)=true ↔ l=m)
 |[],[],_=>by simp[zf0]
 |[],_::_,_=>by simp[zf0]
 |_::_,[],_=>by simp[zf0]
 |a::l,b::m,h=>by rw[List.map_cons,List.map_cons,zf0,Bool.and_eq_true,IH a b (h a List.mem_cons_self),zlL IH l m λt ht=>h t (List.mem_cons_of_mem _ ht)];simp
theorem zrN:∀(n:Nat)(a b:Tr),dep a<=n->(eqD (toD a) (toD b)=true ↔ a=b)
 |_,.lf i,.lf j,_=>by simp[toD,eqD]
 |_,.lf i,.nd r l,_=>by simp[toD,eqD]
 |_,.nd r l,.lf j,_=>by simp[toD,eqD]
 |0,.nd r l,_,h=>by simp[dep] at h
 |n+1,.nd r l,.nd q m,h=>by have hb:∀ t∈l,dep t<=n:=zaW.mp (by simpa [dep] using h);have ih:=zlL (zrN n) l m hb;simp only[toD,zce,eqD,zf0,Bool.and_true,wae,Tr.nd.injEq];rw[ih,zwQ,beq_iff_eq]
theorem zsd(s:List Int):∀ rs:List (List Int),inD (tz s) (lp rs)=decide (s∈rs)
 |[]=>by simp[inD,lp]
 |a::r=>by have ih:=zsd s r;unfold inD at ih ⊢;show (eqD (tz a) (tz s) || (lp r).any λd=>eqD d (tz s))=_;rw[ih,zqh,Bool.eq_iff_iff];simp only[Bool.or_eq_true,beq_iff_eq,war,wap];exact ⟨λh=>h.elim (λe=>.inl e.symm) .inr,λh=>h.elim (λe=>.inl e.symm) .inr⟩
theorem zuG{neg:Bool}{s:List Int}{rs:List (List Int)}:gIn neg (tz s) (.lst (lp rs))=.ok (.bl (if neg then !decide (s∈rs) else decide (s∈rs))):=by
 rw[(zuH (zhF s) λd hd=>by obtain ⟨p,_,rfl⟩:=List.mem_map.mp hd;exact zhF p).2,zsd]
noncomputable abbrev rv9:De:=zq8 (zab 9)
noncomputable abbrev q1:DS:=dIf (zhy (dTB (dOp (gEq true) (zag zfg (dR (zab 3) (dR (zab 4) (dR (zab 8) dR0)))) (zab 9))) (zhy (dTB (dOp (gEq true) (zag zci (dR (zab 3) (dR (zab 4) (dR (zab 9) dR0)))) (zab 8))) (zcK (dTB (zag zb9 (dR (zab 3) (dR (zab 4) (dR (zab 9) dR0)))))))) (zaV (dC (.bl false))) dNx
noncomputable abbrev q2:DS:=dIf (zhy (zcK (dTB (zag zb9 (dR (zab 3) (dR (zab 4) (dR rv9 dR0)))))) (dTB (dOp (gIn true) rv9 (zab 6)))) (zaV (dC (.bl false))) dNx
noncomputable abbrev tB:DS:=zaG (zbo 8 (zag zam (dRO 2 (dR (dFn zdv (dA (zab 6) dA0)) dR0)))) (zaG (zbo 9 (dOp gIx (zab 6) (zab 8))) (zaG q1 q2))
section
variable{N:Nat}{t:Tr}{S K U:Option B}
theorem zsJ{st:List Dt}{o7 o8 o9:Option B}(H:Lw.Tn N t)(hs:St st):∃ st' b8 b9,St st'/\tB [S,K,some (.own st),some (.val (.int N)),some (.val (toD t)),U,some (.val (.lst (lp (due t)))),o7,o8,o9]=.ok (.nx,[S,K,some (.own st'),some (.val (.int N)),some (.val (toD t)),U,some (.val (.lst (lp (due t)))),o7,b8,b9]):=by
 obtain ⟨l1,l2⟩:=zpk H;let NV:Option B:=some (.val (.int N));let TV:Option B:=some (.val (toD t));let DV:Option B:=some (.val (.lst (lp (due t))));obtain ⟨v,st1,ev,hs1,v0,v1⟩:=zcL (m:=((due t).length:Nat)) hs xwl xwl;obtain ⟨j,rfl⟩ : ∃ j:Nat,v=j:=⟨v.toNat,xwl⟩
 have hj:j<(due t).length:=by lia
 obtain ⟨s,es⟩ : ∃ s,(due t)[j]? = some s:=⟨_,wac hj⟩
 have hsm:s∈due t:=waH es;have hidx:(due t).idxOf s=j:=by rw[<- (List.getElem?_eq_some_iff.mp es).2];exact (zko H).idxOf_getElem j hj
 let Z0:Ev:=[S,K,some (.own st),NV,TV,U,DV,o7,o8,o9]
 let JV:Option B:=some (.val (.int (j:Nat)));let Z1:Ev:=[S,K,some (.own st1),NV,TV,U,DV,o7,JV,o9]
 have x1:zbo 8 (zag zam (dRO 2 (dR (dFn zdv (dA (zab 6) dA0)) dR0))) Z0=.ok (.nx,Z1):=by have a5:zab 6 Z0=.ok (.lst (lp (due t)),Z0):=rfl;have l5:dFn zdv (dA (zab 6) dA0) Z0=.ok (.int ((due t).length:Nat),Z0):=zeI a5 (by show R.ok (Dt.int ((lp (due t)).length:Nat))=_;rw[zfF]);exact zbl (zhl (Z:=Z0) rfl l5 ev) (by simp[Z0])
 let RV:Option B:=some (.val (tz s));let Z2:Ev:=[S,K,some (.own st1),NV,TV,U,DV,o7,JV,RV]
 have x2:zbo 9 (dOp gIx (zab 6) (zab 8)) Z1=.ok (.nx,Z2):=by have a6:zab 6 Z1=.ok (.lst (lp (due t)),Z1):=rfl;have a8:zab 8 Z1=.ok (.int (j:Nat),Z1):=rfl;exact zbl (za4 a6 a8 (zlv xwl (by rw[zfF];lia) (by rw[Int.toNat_natCast];unfold lp;rw[List.getElem?_map,es];rfl))) (by simp[Z1])
 have a3:zab 3 Z2=.ok (.int N,Z2):=rfl;have a4:zab 4 Z2=.ok (toD t,Z2):=rfl;have a6:zab 6 Z2=.ok (.lst (lp (due t)),Z2):=rfl;have a8:zab 8 Z2=.ok (.int (j:Nat),Z2):=rfl;have a9:zab 9 Z2=.ok (tz s,Z2):=rfl;have hh:∀ x,x∈due t->zb9 [.val (.int N),.val (toD t),.val (tz x)]=.ok (.bl true,[.val .non,.val .non,.val .non]):=λx hx=>by have:=zmf H (zi3 H hx);rw[decide_eq_true (zep.mp hx)] at this;exact this
 have x3:q1 Z2=.ok (.nx,Z2):=by have h1:dTB (dOp (gEq true) (zag zfg (dR (zab 3) (dR (zab 4) (dR (zab 8) dR0)))) (zab 9)) Z2=.ok (false,Z2):=zaP (za4 (znw a3 a4 a8 (zs4 H es)) a9 (by rw[zbA (zhF s) (zhF s),zqh];simp));have h2:dTB (dOp (gEq true) (zag zci (dR (zab 3) (dR (zab 4) (dR (zab 9) dR0)))) (zab 8)) Z2=.ok (false,Z2):=zaP (za4 (znw a3 a4 a9 (ztu H hsm)) a8 (by rw[hidx,zbA rfl rfl,eqI];simp));have h3:=zdZ (zaP (znw a3 a4 a9 (hh s hsm)));rw[show q1 Z2=_ from zc3 (by rw[zhX h1,zhX h2];exact h3)];rfl
 have hrm:s.reverse∈due t:=zep.mpr (zms (zep.mp hsm));have ar:rv9 Z2=.ok (tz s.reverse,Z2):=by show (zab 9 Z2).bind _=_;rw[a9];show R.ok (Dt.tup (s.map .int).reverse,Z2)=_;rw[<- List.map_reverse];rfl
 have x4:q2 Z2=.ok (.nx,Z2):=by have h1:=zdZ (zaP (znw a3 a4 ar (hh _ hrm)));have h2:dTB (dOp (gIn true) rv9 (zab 6)) Z2=.ok (false,Z2):=zaP (za4 ar a6 (by rw[zuG,decide_eq_true hrm];rfl));rw[show q2 Z2=_ from zc3 (by rw[zhX h1];exact h2)];rfl
 refine ⟨st1,JV,RV,hs1,?_⟩;show tB Z0=_;unfold tB;rw[zaj x1,zaj x2,zaj x3];exact x4
end
theorem zhb{n:Nat}{t:Tr}(H:Lw.Tn n t):zb2 [.val (.int n),.val (toD t)]=.ok (toD (zao t),[.val .non,.val .non]):=by
 let Z:Ev:=[some (.val (.int n)),some (.val (toD t))]
 refine zan (Z':=Z) rfl ?_ rfl;show zaG (dEx (zag za7 (dR (zab 0) dR0))) (zaV (zag (zbg 8) (dR (zab 1) dR0))) Z=_;have h0:dEx (zag za7 (dR (zab 0) dR0)) Z=.ok (.nx,Z):=zfi (zb8 (Z:=Z) rfl (zfX (by have:=H.n1;lia) (by have:=H.n6;lia)));rw[zaj h0];exact zb5 (zb8 (Z:=Z) rfl (zlz 8 t (wal _) H.d H.o H.nd (by have:=H.l;lia)))
theorem zgh{n:Nat}{t:Tr}(H:Lw.Tn n t):Lw.Tn n (zao t):=by obtain ⟨h1,h2,h3⟩:=zfZ _ t (zao t) (wal _) (zcu _ t (wal _));exact ⟨H.n1,H.n6,waN h3 H.d,h1.trans H.o,h2.trans H.p⟩
theorem zok{n:Nat}{t:Tr}(H:Lw.Tn n t):due (zao t)=due t :=
 (zsc (zbF _ _ (wal _) (zgh H).o (zgh H).nd) (zbF _ _ (wal _) H.o H.nd)).mpr (zfc (zhh _ _ _ (wal _) (zcu _ t (wal _))))
theorem zwF{n:Nat}{a b:Tr}(Ha:Lw.Tn n a)(Hb:Lw.Tn n b):(due b == due a)=eqD (toD (zao b)) (toD (zao a)):=by rw[Bool.eq_iff_iff,beq_iff_eq,zrN _ _ _ (Nat.le_refl _),zsc (zbF _ _ (Nat.le_refl _) Hb.o Hb.nd) (zbF _ _ (Nat.le_refl _) Ha.o Ha.nd)];exact ⟨λh=>(zhW ⟨Ha.o,Ha.nd⟩ ⟨Hb.o,Hb.nd⟩).mp (zfc h),λh=>zfc ((zhW ⟨Ha.o,Ha.nd⟩ ⟨Hb.o,Hb.nd⟩).mpr h)⟩
theorem zsg(rs:List (List Int)):okN 60 (.lst (lp rs))=true:=by rw[okN,List.all_eq_true];intro d hd;obtain ⟨p,_,rfl⟩:=List.mem_map.mp hd;unfold tz;rw[okN,List.all_eq_true];intro e he;obtain ⟨i,_,rfl⟩:=List.mem_map.mp he;rfl
theorem zky(neg:Bool)(a b:List (List Int)):gEq neg (.lst (lp a)) (.lst (lp b))=.ok (.bl (if neg then !(a == b) else a == b)):=by rw[zbA (zsg a) (zsg b),zxb]
noncomputable abbrev tr8:De:=zag (zaM 8) (dRO 2 (dR (dFz (zi9 (zab 3))) dR0))
noncomputable abbrev zof(i:Nat):De:=dFz (zb1 zaS (dR (zab 3) (dR (zab i) dR0)))
noncomputable abbrev ziv(i:Nat):De:=zag zb2 (dR (zab 3) (dR (zab i) dR0))
noncomputable abbrev w1:DS:=dIf (zhy (dTB (dOp (gEq true) (dFz (zf9 zeh (dA (zab 6) dA0))) (zab 6))) (dTB (dOp (gEq true) (dFn zdv (dA (zab 6) dA0)) (zag zcj (dR (zab 3) (dR (zab 4) dR0)))))) (zaV (dC (.bl false))) dNx
noncomputable abbrev w2:DS:=dIf (dTB (dOp (gEq true) (dOp (gEq false) (zof 5) (zab 6)) (dOp (gEq false) (ziv 5) (ziv 4)))) (zaV (dC (.bl false))) dNx
noncomputable abbrev w3:DS:=dIf (dTB (dOp (gEq true) (dFz (zb1 zaS (dR (zab 3) (dR (ziv 4) dR0)))) (zab 6))) (zaV (dC (.bl false))) dNx
noncomputable abbrev outer:DS:=zaG (zcN 2 (zb1 zbW (dR (zab 0) (dR (zab 1) dR0)))) (zaG (zbo 3 (dOp zdz (dC (.int 1)) (zag zam (dRO 2 (dR (dC (.int 6)) dR0))))) (zaG (zv3 4 5 (dA tr8 (dA tr8 dA0))) (zaG (zbo 6 (zof 4)) (zaG w1 (zaG (zfV (zfu (dC (.int 5))) (zbv 7) tB) (zaG w2 w3))))))
theorem zua:zsM=zaG (zfV (zfu (dFn ziL (dA (dC (.int 1)) (dA (dFn zi5 (dA (dFn zdv (dA (zab 0) dA0)) (dA (dC (.int 3)) dA0))) dA0)))) (zbv 1) outer) (zaV (dC (.bl true))):=rfl
section
variable{N:Nat}{t u:Tr}{Z:Ev}
theorem ztp(H:Lw.Tn N t)(a3:zab 3 Z=.ok (.int N,Z))(a4:zab 4 Z=.ok (toD t,Z))(a6:zab 6 Z=.ok (.lst (lp (due t)),Z)):w1 Z=.ok (.nx,Z):=by
 have h1:dTB (dOp (gEq true) (dFz (zf9 zeh (dA (zab 6) dA0))) (zab 6)) Z=.ok (false,Z):=zaP (za4 (zaZ (zf6 a6 (znt H))) a6 (by rw[zky];simp));have l6:dFn zdv (dA (zab 6) dA0) Z=.ok (.int ((due t).length:Nat),Z):=zeI a6 (by show R.ok (Dt.int ((lp (due t)).length:Nat))=_;rw[zfF]);have h2:dTB (dOp (gEq true) (dFn zdv (dA (zab 6) dA0)) (zag zcj (dR (zab 3) (dR (zab 4) dR0)))) Z=.ok (false,Z) :=
  zaP (za4 l6 (zgv a3 a4 (zoL H.n1 (by have:=H.n6;lia) H.d H.o H.nd H.l)) (by rw[zbA rfl rfl,eqI,show (due t).length=(zap t).length from (zbb _).length_eq];simp))
 rw[show w1 Z=_ from zc3 (by rw[zhX h1];exact h2)];rfl
theorem ztS(H:Lw.Tn N t)(G:Lw.Tn N u)(a3:zab 3 Z=.ok (.int N,Z))(a4:zab 4 Z=.ok (toD t,Z))(a5:zab 5 Z=.ok (toD u,Z))(a6:zab 6 Z=.ok (.lst (lp (due t)),Z)):w2 Z=.ok (.nx,Z):=by have r5:zof 5 Z=.ok (.lst (lp (due u)),Z):=zaZ (zjq a3 a5 (zeY G.n1 (by have:=G.n6;lia) G.d G.o G.nd G.l));have f4:ziv 4 Z=.ok (toD (zao t),Z):=zgv a3 a4 (zhb H);have f5:ziv 5 Z=.ok (toD (zao u),Z):=zgv a3 a5 (zhb G);have k:∀{t:Tr},Lw.Tn N t->okN 60 (toD (zao t))=true:=λH=>zr8 (ok60 (waN (zgh H).d xwd)) xwd;have e1:dOp (gEq false) (zof 5) (zab 6) Z=.ok (.bl (due u == due t),Z):=za4 r5 a6 (by rw[zky];rfl);have e2:dOp (gEq false) (ziv 5) (ziv 4) Z=.ok (.bl (due u == due t),Z):=za4 f5 f4 (by rw[zbA (k G) (k H),zwF H G];rfl);rw[show w2 Z=_ from zc3 (zaP (za4 e1 e2 (by rw[zbA rfl rfl,eqB];simp)))];rfl
theorem zt7(H:Lw.Tn N t)(a3:zab 3 Z=.ok (.int N,Z))(a4:zab 4 Z=.ok (toD t,Z))(a6:zab 6 Z=.ok (.lst (lp (due t)),Z)):w3 Z=.ok (.nx,Z):=by
 have f4:ziv 4 Z=.ok (toD (zao t),Z):=zgv a3 a4 (zhb H);have G:=zgh H;have r:dFz (zb1 zaS (dR (zab 3) (dR (ziv 4) dR0))) Z=.ok (.lst (lp (due t)),Z):=by have:=zaZ (zjq a3 f4 (zeY G.n1 (by have:=G.n6;lia) G.d G.o G.nd G.l));rw[<- zok H];exact this
 rw[show w3 Z=_ from zc3 (zaP (za4 r a6 (by rw[zky];simp)))];rfl
end
theorem zmC{ns:List Int}{k:Nat}{o2 o3 o4 o5 o6 o7 o8 o9:Option B}:∃ b2 b3 b4 b5 b6 b7 b8 b9,outer [some (.val (.scr ns)),some (.val (.int k)),o2,o3,o4,o5,o6,o7,o8,o9]=.ok (.nx,[some (.val (.scr ns)),some (.val (.int k)),b2,b3,b4,b5,b6,b7,b8,b9]):=by
 let S:Option B:=some (.val (.scr ns));let K:Option B:=some (.val (.int k));obtain ⟨st,hs,e1⟩:=zmu (ns:=ns) (k:=k);have x1:zcN 2 (zb1 zbW (dR (zab 0) (dR (zab 1) dR0))) [S,K,o2,o3,o4,o5,o6,o7,o8,o9]=.ok (.nx,[S,K,some (.own st),o3,o4,o5,o6,o7,o8,o9]) :=
  zqD (zjq (Z':=[S,K,o2,o3,o4,o5,o6,o7,o8,o9]) (Z'':=[S,K,o2,o3,o4,o5,o6,o7,o8,o9]) rfl rfl e1) xws
 obtain ⟨v,st1,e2,hs1,v0,v1⟩:=zcL (m:=6) hs xwd xwd;obtain ⟨N,hN⟩ : ∃ N:Nat,(N:Int)=1+v:=⟨(1+v).toNat,xwl⟩
 have n1:1<=N:=by lia
 have n6:N<=6:=by lia
 let NV:Option B:=some (.val (.int N));have x2:zbo 3 (dOp zdz (dC (.int 1)) (zag zam (dRO 2 (dR (dC (.int 6)) dR0)))) [S,K,some (.own st),o3,o4,o5,o6,o7,o8,o9]=.ok (.nx,[S,K,some (.own st1),NV,o4,o5,o6,o7,o8,o9]):=by refine zbl (za4 rfl (zhl (Z:=[S,K,some (.own st),o3,o4,o5,o6,o7,o8,o9]) rfl rfl e2) (z:=.int N) ?_) xws;rw[hN];rfl
 have hgl:(zbk N).length=N:=zcf N;obtain ⟨t,st3,hs3,⟨ho,hpm,hd⟩,e4⟩:=zgC 8 (zbk N) st1 xwl xwd xwl xwl hs1;have H:Lw.Tn N t:=⟨n1,n6,xwl,ho,hpm⟩
 obtain ⟨u,st4,hs4,⟨ho',hpm',hd'⟩,e5⟩:=zgC 8 (zbk N) st3 xwl xwd xwl xwl hs3;have G:Lw.Tn N u:=⟨n1,n6,xwl,ho',hpm'⟩
 let TV:Option B:=some (.val (toD t));let UV:Option B:=some (.val (toD u));let DV:Option B:=some (.val (.lst (lp (due t))));have x3:zv3 4 5 (dA tr8 (dA tr8 dA0)) [S,K,some (.own st1),NV,o4,o5,o6,o7,o8,o9]=.ok (.nx,[S,K,some (.own st4),NV,TV,UV,o6,o7,o8,o9]):=by have y1:tr8 [S,K,some (.own st1),NV,o4,o5,o6,o7,o8,o9]=.ok (toD t,[S,K,some (.own st3),NV,o4,o5,o6,o7,o8,o9]):=zhl (Z:=[S,K,some (.own st1),NV,o4,o5,o6,o7,o8,o9]) rfl (zaZ (zlg rfl xwl)) e4;have y2:tr8 [S,K,some (.own st3),NV,o4,o5,o6,o7,o8,o9]=.ok (toD u,[S,K,some (.own st4),NV,o4,o5,o6,o7,o8,o9]):=zhl (Z:=[S,K,some (.own st3),NV,o4,o5,o6,o7,o8,o9]) rfl (zaZ (zlg rfl xwl)) e5;unfold zv3;rw[zsv y1 (zsv y2 rfl)];rfl
 let Z5:Ev:=[S,K,some (.own st4),NV,TV,UV,o6,o7,o8,o9]
 let Z6:Ev:=[S,K,some (.own st4),NV,TV,UV,DV,o7,o8,o9]
 have z3:zab 3 Z5=.ok (.int N,Z5):=rfl;have z4:zab 4 Z5=.ok (toD t,Z5):=rfl;have x4:zbo 6 (zof 4) Z5=.ok (.nx,Z6):=zbl (zaZ (zjq z3 z4 (zeY H.n1 xwl H.d H.o H.nd H.l))) (by simp[Z5]);have x5:w1 Z6=.ok (.nx,Z6):=ztp H rfl rfl rfl;obtain ⟨Z7,⟨st7,b7,b8,b9,hs7,rfl⟩,x7⟩:=zbh (u:=λi:Nat=>Dt.int i) (l:=List.range 5) (g:=zbv 7) (body:=tB) (fi:=zfu (dC (.int 5))) (Z:=Z6) (I:=λdn Z=>∃ st' b7 b8 b9,St st'/\Z=[S,K,some (.own st'),NV,TV,UV,DV,b7,b8,b9]) (znK (m:=5) (Z1:=Z6) rfl xwd) rfl ⟨st4,o7,o8,o9,hs4,rfl⟩
  (λdn c zaX e Z ⟨st',b7,b8,b9,hs',hρ⟩=>by subst hρ;obtain ⟨st2,d8,d9,h2,e2⟩:=zsJ (S:=S) (K:=K) (U:=UV) (o7:=some (.val (.int (c:Nat)))) (o8:=b8) (o9:=b9) H hs';exact ⟨_,_,rfl,e2,st2,_,d8,d9,h2,rfl⟩)
 let Z8:Ev:=[S,K,some (.own st7),NV,TV,UV,DV,b7,b8,b9]
 have x8:w2 Z8=.ok (.nx,Z8):=ztS H G rfl rfl rfl rfl;have x9:w3 Z8=.ok (.nx,Z8):=zt7 H rfl rfl rfl;refine ⟨some (.own st7),NV,TV,UV,DV,b7,b8,b9,?_⟩;unfold outer;rw[zaj x1,zaj x2,zaj x3,zaj x4,zaj x5,zaj x7,zaj x8];exact x9
theorem law_true(ns:List Int):zm8 [.val (.scr ns)]=.ok (.bl true,[.val .non]):=by
 let Z0:Ev:=[some (.val (.scr ns)),none,none,none,none,none,none,none,none,none]
 obtain ⟨j,hj,ej⟩ : ∃ j:Nat,j<=1000/\dFn ziL (dA (dC (.int 1)) (dA (dFn zi5 (dA (dFn zdv (dA (zab 0) dA0)) (dA (dC (.int 3)) dA0))) dA0)) Z0=.ok (.int (j:Nat),Z0):=by
  have h0:dFn ziL (dA (dC (.int 1)) (dA (dFn zi5 (dA (dFn zdv (dA (zab 0) dA0)) (dA (dC (.int 3)) dA0))) dA0)) Z0=.ok (.int (if (if (3:Int)<ns.length then (3:Int) else ns.length) > 1 then (if (3:Int)<ns.length then (3:Int) else ns.length) else 1),Z0):=rfl;obtain ⟨j,h1,h2⟩ : ∃ j:Nat,(j:Int)=(if (if (3:Int)<ns.length then (3:Int) else ns.length) > 1 then (if (3:Int)<ns.length then (3:Int) else ns.length) else 1)/\j<=1000:=by refine ⟨(if (if (3:Int)<ns.length then (3:Int) else ns.length) > 1 then (if (3:Int)<ns.length then (3:Int) else ns.length) else 1).toNat,?_,?_⟩ <;> split <;> split <;> lia
  refine ⟨j,h2,?_⟩;rw[h0,h1]
 obtain ⟨Z',⟨a1,a2,a3,a4,a5,a6,a7,a8,a9,rfl⟩,e⟩:=zbh (u:=λi:Nat=>Dt.int i) (l:=List.range j) (g:=zbv 1) (body:=outer) (Z:=Z0)
  (I:=λ_ Z=>∃ a1 a2 a3 a4 a5 a6 a7 a8 a9,Z=[some (.val (.scr ns)),a1,a2,a3,a4,a5,a6,a7,a8,a9]) (znK ej hj) rfl ⟨none,none,none,none,none,none,none,none,none,rfl⟩
  (λdn k zaX _ Z ⟨a1,a2,a3,a4,a5,a6,a7,a8,a9,hρ⟩=>by subst hρ;obtain ⟨b2,b3,b4,b5,b6,b7,b8,b9,e⟩:=zmC (ns:=ns) (k:=k) (o2:=a2) (o3:=a3) (o4:=a4) (o5:=a5) (o6:=a6) (o7:=a7) (o8:=a8) (o9:=a9);exact ⟨[some (.val (.scr ns)),some (.val (.int k)),a2,a3,a4,a5,a6,a7,a8,a9],_,rfl,e,_,_,_,_,_,_,_,_,_,rfl⟩)
 refine zan (Z':=[some (.val (.scr ns)),a1,a2,a3,a4,a5,a6,a7,a8,a9]) rfl ?_ rfl;show zsM Z0=_;rw[zua,zaj e];rfl
end LQ
end
section
namespace Lw
open PySem PySem.Spec L2 PV
section
variable{K:W.Frag}{h:Heap}{mg:Str->Option Value}(X:K.In h)(G:h.Ns mainGlobals mg)
include X G in
theorem fe{x:String}{i:Nat}{f:Addr}{od an:Option Addr}{sl:Array (Option Value)}{oc kV dc pm cd ct:Value}(a:W.nsIn K mainGlobals (Str.ofString x)=some (some (.ref f)))(l:K.lookup f=some ⟨oc,od,.func (W.fnOf (Str.ofString x) (Str.ofString x) (zeC (top i)) (zc7 (top i)) (zak (top i)) .none kV dc pm an cd ct),sl⟩)(c:W.codeIn K cd (Str.ofString x)=true)(k:W.keepIn K (.ref f)=true):Uf K mg x i:=⟨_,_,zro (st:=top i) l c k,W.mg_of X G a⟩
include X G in
theorem ct{x:Str}{i:Int}{t:Tok}(m:W.nsIn K mainGlobals x=some (some (.int i t))):∃ t,mg x=some (.int i t):=⟨_,W.mg_of X G m⟩
include X G in
theorem fin{l:W.OpenLaw}{w:World}{fa g:Addr}(hfa:mg "law"=some (.ref fa)){oe ao:Option Addr}{sm:Array (Option Value)}{o2 k2 d2 p2 cM c2:Value}(T:Tx K mg)
  (b:W.nsIn K mainGlobals (Str.ofString "law")=some (some (.ref g))) (lb:K.lookup g=some ⟨o2,oe,.func (W.fnOf (Str.ofString "law") (Str.ofString "law") (zeC (top 37)) (zc7 (top 37)) (zak (top 37)) .none k2 d2 p2 ao cM c2),sm⟩) (cb:W.codeIn K cM (Str.ofString "law")=true) (kb:W.keepIn K (.ref g)=true) :
  ∃ fd:FuncData,(∀(s:Shared)(v:Value),BindsTo s fd ⟨[v],[]⟩ [("script",v)])/\∀ base:Heap,K.In base->base.Ns mainGlobals mg->zf7 l.prog w K mg base CX0 35 fa fd ["script"] (znj false K (λ_=>.none) [false] zm8):=by
 have e:=hfa.symm.trans (W.mg_of X G b);cases e;exact ⟨W.fnOf "law" "law" (zeC (top 37)) (zc7 (top 37)) (zak (top 37)) .none k2 d2 p2 ao cM c2,λs v=>.of_eq rfl,λbase _ _=>zwx T (zro (st:=top 37) lb cb kb)⟩
end
theorem zss{K:W.Frag}{H:Hp}{a:Addr}{ns:List Int}(hS:SqL K H a (ns.map V.int)):znj false K (λ_=>.none) [false] zm8 [.ref a] H (λv _=>v=.bl true) λ_ _ _=>False:=by
 refine ⟨H,λ_=>none,[.val (.scr ns)],rfl,rfl,⟨zcz.refl _,λb e=>absurd rfl e,λb e=>absurd rfl e,rfl,λj b v e1 e2=>?_⟩,?_⟩
 ·cases j with
  |zero=>simp at e1 e2;subst e1;subst e2;show Rep K H (.scr ns) (.ref a);unfold Rep;exact ⟨a,rfl,hS⟩
  |succ j=>simp at e1
 ·rw[LQ.law_true ns];intro v G1 H1 w1 _ _ q;exact zds (K:=K) (G:=G1) q
theorem walk{l:W.OpenLaw}{q:Program}{loose:List Str}{XP:(Str->Option Value)->Heap->Prop}{YP:World->Heap->Prop}{d:DefRec}{K:Params->W.Frag}(hn:l.most=some 63)(hdf:d.params.defaults=[])
  (hY:∀(w:World)(h:Heap),YP w h->(K w.params).In h)
  (F:∀(w:World)(mg:Str->Option Value)(fa:Addr)(h:Heap),(K w.params).In h->h.Ns mainGlobals mg->mg d.name=some (.ref fa) ->
   ∃ fd:FuncData,(∀(s:Shared)(u:Value),BindsTo s fd ⟨[u],[]⟩ [("script",u)])/\∀ base:Heap,(K w.params).In base->base.Ns mainGlobals mg->zf7 l.prog w (K w.params) mg base CX0 35 fa fd ["script"] (znj false (K w.params) (λ_=>.none) [false] zm8)) :
  W.WalkO q loose XP YP l.row.toRowW d [] (λf vs=>PySem.call f vs) :=
 L2.walk_of (n:=63) (k:=35) (x:="script") (CX:=λ_=>CX0) (sp:=λw=>znj false (K w.params) (λ_=>.none) [false] zm8) hn xwd hdf ⟨rfl,xwd,xwd⟩ hY F (λ_ _ _ _ _ _ hS=>zss hS) λ_ _ _ _ _ z=>z
end Lw
def PySem.W.Fast.tw16963540247218221018:=0
def PySem.W.Fast.tw696477903190421621:=0
def PySem.W.Fast.tw4201402866546303632:=0
def PySem.W.Fast.tw3992362637294790268:=0
def PySem.W.Fast.tw3000560065509197437:=0
def PySem.W.Fast.tw7936092854793643547:=0
def PySem.W.Fast.tw7258791862887305986:=0
def PySem.W.Fast.tw14770651767652048122:=0
def PySem.W.Fast.tw13511443944133426284:=0
def PySem.W.Fast.tw13425512968533266197:=0
def PySem.W.Fast.tw14710922091222194604:=0
def PySem.W.Fast.tw10807481170304515591:=0
def PySem.W.Fast.tw1392189354601407046:=0
def PySem.W.Fast.tw3808897531898684744:=0
def PySem.W.Fast.tw2185819197063413454:=0
def PySem.W.Fast.tw6836206795591597376:=0
def PySem.W.Fast.tw5538689861713633753:=0
def PySem.W.Fast.tw15214854778131156852:=0
def PySem.W.Fast.tw13729377159163963425:=0
def PySem.W.Fast.tw8024624984602287794:=0
def PySem.W.Fast.tw18115763682143372772:=0
def PySem.W.Fast.tw10596070904692152788:=0
def PySem.W.Fast.tw13911102049120151296:=0
def PySem.W.Fast.tw11510340042422878340:=0
def PySem.W.Fast.tw9795916151811043950:=0
def PySem.W.Fast.tw12797657807613611953:=0
def PySem.W.Fast.tw5992250160481181239:=0
def PySem.W.Fast.tw15192247237004833346:=0
def PySem.W.Fast.tw18079956494449792334:=0
def PySem.W.Fast.tw3027904040625529755:=0
def PySem.W.Fast.tw1132134942866577858:=0
def PySem.W.Fast.tw8525214963725883000:=0
def PySem.W.Fast.tw11128485946067052520:=0
open PySem PySem.W PyProof.Rows
set_option maxRecDepth 100000 in
set_option maxHeartbeats 0 in
theorem PySem.Challenge.cw_standtogether_k07_whole_trees_tell_rows_holds : PySem.Challenge.rw_standtogether_k07_whole_trees_tell_rows.Holds := by
  w_on; o_law; k_head; (case hw => w_witness2)
  k_fill
  refine Lw.walk (l := PySem.Challenge.rw_standtogether_k07_whole_trees_tell_rows) rfl rfl (fun w h Y => PySem.W.kIn_of Y) ?F
  case F =>
    intro w mg fa h KX G hmg
    refine' Lw.fin KX G hmg ⟨Lw.fe KX G ?_ ?_ ?_ ?_,Lw.fe KX G ?_ ?_ ?_ ?_,Lw.fe KX G ?_ ?_ ?_ ?_,Lw.fe KX G ?_ ?_ ?_ ?_,Lw.fe KX G ?_ ?_ ?_ ?_,Lw.fe KX G ?_ ?_ ?_ ?_,Lw.fe KX G ?_ ?_ ?_ ?_,Lw.fe KX G ?_ ?_ ?_ ?_,
     Lw.fe KX G ?_ ?_ ?_ ?_,Lw.fe KX G ?_ ?_ ?_ ?_,Lw.fe KX G ?_ ?_ ?_ ?_,Lw.fe KX G ?_ ?_ ?_ ?_,Lw.fe KX G ?_ ?_ ?_ ?_,Lw.fe KX G ?_ ?_ ?_ ?_,Lw.fe KX G ?_ ?_ ?_ ?_,Lw.fe KX G ?_ ?_ ?_ ?_,
     Lw.fe KX G ?_ ?_ ?_ ?_,Lw.fe KX G ?_ ?_ ?_ ?_,Lw.fe KX G ?_ ?_ ?_ ?_,Lw.fe KX G ?_ ?_ ?_ ?_,Lw.fe KX G ?_ ?_ ?_ ?_,Lw.fe KX G ?_ ?_ ?_ ?_,Lw.fe KX G ?_ ?_ ?_ ?_,Lw.fe KX G ?_ ?_ ?_ ?_,
     Lw.fe KX G ?_ ?_ ?_ ?_,Lw.fe KX G ?_ ?_ ?_ ?_,Lw.fe KX G ?_ ?_ ?_ ?_,Lw.fe KX G ?_ ?_ ?_ ?_,Lw.fe KX G ?_ ?_ ?_ ?_,PySem.W.mg_none_of KX G ?_,PySem.W.mg_none_of KX G ?_,PySem.W.mg_none_of KX G ?_,
     PySem.W.mg_none_of KX G ?_,PySem.W.mg_none_of KX G ?_,PySem.W.mg_none_of KX G ?_,PySem.W.mg_none_of KX G ?_,PySem.W.mg_none_of KX G ?_,PySem.W.mg_none_of KX G ?_,PySem.W.mg_none_of KX G ?_,PySem.W.mg_none_of KX G ?_,
     PySem.W.mg_none_of KX G ?_,PySem.W.mg_none_of KX G ?_,PySem.W.mg_none_of KX G ?_,Lw.ct KX G ?_⟩ ?_ ?_ ?_ ?_
    all_goals try first | k_is | kernel_rfl
end
